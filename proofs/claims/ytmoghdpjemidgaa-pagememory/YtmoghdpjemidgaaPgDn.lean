/-
  seeming and Decode of every 512 bytes.
-/
import Derived.Test.YtmoghdpjemidgaaPgOj
import Derived.Test.YtmoghdpjemidgaaPgMa
import Derived.Test.YtmoghdpjemidgaaPgDe
import Derived.Test.YtmoghdpjemidgaaPuA
namespace Go.Proofs.Ytmoghdpjemidgaa
open Go.RowKit Go.Maps
theorem enR_lt (l : List UInt8) : (enR l).2.1 < 4294967296 := by
  by_cases h : leN ((l.drop 1).take 1) = 255
  · rw [enR_ch l h]; exact leN4_lt _
  · rw [enR_in l h]; show 0 < 4294967296; decide
def Lo (l : List Int) : Prop := ∀ x ∈ l, 0 ≤ x ∧ x < 4294967296
theorem Lo.snoc {l : List Int} (h : Lo l) (x : Nat) (hx : x < 4294967296) : Lo (l ++ [(x : Int)]) := fun y hy => by
  rcases List.mem_append.1 hy with q | q
  · exact h y q
  · simp only [List.mem_singleton] at q
    subst q
    omega
theorem Lo.in64 {l : List Int} (h : Lo l) : In64 l := fun n hn => by
  have := h n hn
  unfold Lit.wf
  have h1 : IntKind.i64.min = -9223372036854775808 := by decide
  have h2 : IntKind.i64.max = 9223372036854775807 := by decide
  simp [h1, h2]
  omega
theorem rdL_inv : ∀ (f cnt : Nat) (es : List Ent) (cs : List Int) (l : List UInt8), es.length ≤ cnt → cs.length = es.length → Lo cs → (rdL f cnt es cs l).1.length ≤ cnt ∧ (rdL f cnt es cs l).2.length ≤ cnt ∧ Lo (rdL f cnt es cs l).2
  | 0, cnt, es, cs, l, h1, h2, h3 => ⟨h1, by show cs.length ≤ cnt; omega, h3⟩
  | f + 1, cnt, es, cs, l, h1, h2, h3 => by
    rw [rdL]
    split
    · exact rdL_inv f cnt _ _ _ (by rw [List.length_append]; simp; omega) (by rw [List.length_append, List.length_append, h2]; rfl) (h3.snoc _ (enR_lt l))
    · exact ⟨h1, by show cs.length ≤ cnt; omega, h3⟩
theorem rdI_inv : ∀ (f cnt : Nat) (ks : List ByteArray) (hs : List Int) (l : List UInt8), ks.length ≤ cnt → hs.length = ks.length + 1 → Lo hs → (rdI f cnt ks hs l).1.length ≤ cnt ∧ (rdI f cnt ks hs l).2.length ≤ cnt + 1 ∧ Lo (rdI f cnt ks hs l).2
  | 0, cnt, ks, hs, l, h1, h2, h3 => ⟨h1, by show hs.length ≤ cnt + 1; omega, h3⟩
  | f + 1, cnt, ks, hs, l, h1, h2, h3 => by
    rw [rdI]
    split
    · exact rdI_inv f cnt _ _ _ (by rw [List.length_append]; simp; omega) (by rw [List.length_append, List.length_append, h2]; rfl) (h3.snoc _ (leN4_lt _))
    · exact ⟨h1, by show hs.length ≤ cnt + 1; omega, h3⟩
theorem se_sz (b : List UInt8) : Sz (seN b) := by
  have hc : leN (sub b 2 2) < 65536 := leN2_lt _
  unfold seN
  split
  · obtain ⟨h1, h2, h3⟩ := rdL_inv (leN (sub b 2 2) + 1) (leN (sub b 2 2)) [] [] (b.drop 8) (by simp) rfl (fun x h => by simp at h)
    exact ⟨by show (rdL _ _ _ _ _).1.length ≤ _; omega, by show (rdL _ _ _ _ _).2.length ≤ _; omega, by simp [seL], by simp [seL], h3.in64, fun n h => by simp [seL] at h⟩
  · split
    · obtain ⟨h1, h2, h3⟩ := rdI_inv (leN (sub b 2 2) + 1) (leN (sub b 2 2)) [] [(leN ((b.drop 8).take 4) : Int)] ((b.drop 8).drop 4) (by simp) rfl (fun x h => by simp only [List.mem_singleton] at h; subst h; have := leN4_lt (b.drop 8); omega)
      exact ⟨by simp [seI], by simp [seI], by show (rdI _ _ _ _ _).1.length ≤ _; omega, by show (rdI _ _ _ _ _).2.length ≤ _; omega, fun n h => by simp [seI] at h, h3.in64⟩
    · split
      · exact ⟨by simp [seC], by simp [seC], by simp [seC], by simp [seC], fun n h => by simp [seC] at h, fun n h => by simp [seC] at h⟩
      · exact ⟨by simp [seO], by simp [seO], by simp [seO], by simp [seO], fun n h => by simp [seO] at h, fun n h => by simp [seO] at h⟩
theorem seeming_any (bb ob cb : Nat) (b : List UInt8) (w : World) (hv : Bytes w (.slice (some ⟨bb, ob, none⟩) 512 cb) b) (hl : b.length = 512) :
    Calls Try.prog 26 #[.slice (some ⟨bb, ob, none⟩) 512 cb] w fun e w' => ∃ v, e = .returned (.agg ((seN b).arr v)) ∧ Ow w.heap.size w' v (seN b) ∧ Below w.heap.size w w' := by
  by_cases h1 : b.getD 1 0 = 1
  · have e : seN b = seL b := by unfold seN; rw [if_pos h1]
    rw [e]
    refine (seeming_leaf bb ob cb b w hv hl h1).mono ?_
    rintro e w' ⟨ve, vc, he, o1, o2, _, hb⟩
    exact ⟨⟨ve, vc, .slice none 0 0, .slice none 0 0⟩, he, ⟨o1, o2, World.ownsRow_nil _ _ _ _, World.ownsRow_nil _ _ _ _, fun g _ h => by cases h⟩, hb⟩
  · by_cases h2 : b.getD 1 0 = 2
    · have e : seN b = seI b := by unfold seN; rw [if_neg h1, if_pos h2]
      rw [e]
      refine (seeming_inner bb ob cb b w hv hl h2).mono ?_
      rintro e w' ⟨vk, vh, he, o1, o2, hb⟩
      exact ⟨⟨.slice none 0 0, .slice none 0 0, vk, vh⟩, he, ⟨World.ownsRow_nil _ _ _ _, World.ownsRow_nil _ _ _ _, o1, o2, fun g h => by cases h⟩, hb⟩
    · by_cases h3 : b.getD 1 0 = 3
      · have e : seN b = seC b := by unfold seN; rw [if_neg h1, if_neg h2, if_pos h3]
        rw [e]
        refine (seeming_chain bb ob cb b w hv hl h3).mono ?_
        rintro e w' ⟨he, hb⟩
        exact ⟨_, he, ⟨World.ownsRow_nil _ _ _ _, World.ownsRow_nil _ _ _ _, World.ownsRow_nil _ _ _ _, World.ownsRow_nil _ _ _ _, fun g h => by cases h⟩, hb⟩
      · have e : seN b = seO b := by unfold seN; rw [if_neg h1, if_neg h2, if_neg h3]
        rw [e]
        refine (seeming_other bb ob cb b w hv hl h1 h2 h3).mono ?_
        rintro e w' ⟨he, hb⟩
        exact ⟨_, he, ⟨World.ownsRow_nil _ _ _ _, World.ownsRow_nil _ _ _ _, World.ownsRow_nil _ _ _ _, World.ownsRow_nil _ _ _ _, fun g h => by cases h⟩, hb⟩
/-- Are bytes a page's? -/
def Pg (b : List UInt8) : Prop := fitB (seN b) = true ∧ encN (seN b) = b
theorem decode_pg (bb ob cb : Nat) (b : List UInt8) (w : World) (hv : Bytes w (.slice (some ⟨bb, ob, none⟩) 512 cb) b) (hl : b.length = 512) (hp : Pg b) :
    Calls Try.prog 11 #[.slice (some ⟨bb, ob, none⟩) 512 cb] w fun e w' => ∃ v, e = .returned (.tuple #[.agg ((seN b).arr v), .int .i64 0]) ∧ Ow w.heap.size w' v (seN b) ∧ Below w.heap.size w w' :=
  decode_yes bb ob cb b (seN b) w hv (se_sz b) (fun W h => seeming_any bb ob cb b W h hl) hp
theorem decode_none (bb ob cb : Nat) (b : List UInt8) (w : World) (hv : Bytes w (.slice (some ⟨bb, ob, none⟩) 512 cb) b) (hl : b.length = 512) (hp : ¬ Pg b) :
    Calls Try.prog 11 #[.slice (some ⟨bb, ob, none⟩) 512 cb] w fun e w' => e = .returned (.tuple #[.agg zN, .int .i64 2]) ∧ Below w.heap.size w w' := by
  cases hf : fitB (seN b) with
  | false => exact decode_unfit bb ob cb b (seN b) w hv (se_sz b) (fun W h => seeming_any bb ob cb b W h hl) hf
  | true => exact decode_unlike bb ob cb b (seN b) w hv (se_sz b) (fun W h => seeming_any bb ob cb b W h hl) ⟨hf, fun e => hp ⟨hf, e⟩⟩
theorem pg_sum {b : List UInt8} (h : Pg b) : SumOk b := by
  obtain ⟨_, _, kd, cnt, bd, e, hb⟩ := se_enc h.1
  rw [← h.2, e]
  exact enc_ok kd cnt bd hb
theorem pg_enc {n : Nd} (h : fitB n = true) : Pg (encN n) ∧ seN (encN n) = n := by
  have e := (se_enc h).1
  exact ⟨⟨by rw [e]; exact h, by rw [e]⟩, e⟩
theorem enc_first {n : Nd} (h : fitB n = true) : (encN n).getD 0 0 = 181 := by
  obtain ⟨_, _, kd, cnt, bd, e, hb⟩ := se_enc h
  rw [e, getD_take _ 0 4 (by decide), enc_take4 kd cnt bd hb]
  rfl
end Go.Proofs.Ytmoghdpjemidgaa
