/-
  stands.
-/
import Derived.Test.YtmdjicakjljmlaaSrB
namespace Go.Proofs.Ytmdjicakjljmlaa
open Go.RowKit Go.Maps
theorem lawS : Keyed Try.prog 9 := string_keyed Try.underlying9
theorem zeroU (w : World) : (zeroValue 69).run Try.prog w = .ok (.agg #[]) w := by first | kernel_rfl | go_simp
theorem isKeyS (l : List UInt8) : WideAt.IsKeyLit (.string l) := by trivial
/-- The map of what was seen: just these. -/
def Seen (D : DataW Unit) (ls : List ByteArray) : Prop := IsMap D ∧ ∀ t : ByteArray, (Maps.has D (.string t.data.toList) = true ↔ t ∈ ls)
theorem seen_none : Seen (.map []) [] := ⟨⟨[], rfl⟩, fun t => by simp [Maps.has_eq]⟩
theorem data_inj {s t : ByteArray} (h : s.data.toList = t.data.toList) : s = t := by rw [← list_txt s, ← list_txt t, h]
theorem Seen.put {D : DataW Unit} {ls : List ByteArray} (h : Seen D ls) (l : ByteArray) (d : DataW Unit) : Seen (D.put (.string l.data.toList) d) (ls ++ [l]) := by
  refine ⟨h.1.put _ _, fun u => ?_⟩
  by_cases e : u = l
  · subst e
    rw [has_put_same h.1 (isKeyS _)]
    simp
  · rw [has_put_other (fun h => e (data_inj (by injection h))), h.2]
    simp [e]
theorem nodup_snoc {ls : List ByteArray} {l : ByteArray} (h : ls.Nodup) (hn : l ∉ ls) : (ls ++ [l]).Nodup := by
  rw [List.nodup_append]
  refine ⟨h, by simp, ?_⟩
  intro a ha b hb e
  simp only [List.mem_singleton] at hb
  subst hb e
  exact hn ha
theorem not_nodup {ls ms : List ByteArray} {l : ByteArray} (hn : l ∈ ls) : ¬ (ls ++ l :: ms).Nodup := by
  intro h
  rw [List.nodup_append] at h
  exact h.2.2 l hn l (by simp) rfl
theorem make_seen (w : World) : (Instr.makeMap 68 none).run Try.prog w = .ok (.map (some w.heap.size)) (w.alloc (.map #[] 0)) := by
  first | rfl | simp [Instr.makeMap, run_underlying Try.underlying68, Result.andThen]
theorem empty_yes {t : ByteArray} (h : t.size = 0) : t.toList.isEmpty = true := by
  rw [list_of_bytes]
  obtain ⟨⟨l⟩⟩ := t
  have : l = [] := List.length_eq_zero_iff.1 h
  subst this
  rfl
theorem empty_no {t : ByteArray} (h : ¬ t.size = 0) : t.toList.isEmpty = false := by
  rw [list_of_bytes]
  obtain ⟨⟨l⟩⟩ := t
  cases l with
  | nil => exact absurd rfl h
  | cons x r => rfl
/-- One change that can be done. -/
def Ch.stB (x : Ch) : Bool := decide (¬ x.k.size = 0) && decide (x.g = true → x.v.size = 0)
def stB (l : List Ch) : Bool := l.all Ch.stB && (decide (l.map Ch.k).Nodup && decide (0 < l.length))
/-- No text is too long. -/
def SzC (l : List Ch) : Prop := ∀ x ∈ l, x.k.size ≤ maxLen ∧ x.v.size ≤ maxLen
theorem all_no {l : List Ch} {k : Nat} (hlt : k < l.length) (h : Ch.stB (l.getD k Ch.z) = false) : stB l = false := by
  have : l.all Ch.stB = false := by
    rw [List.all_eq_false]
    exact ⟨_, getC_mem hlt, by rw [h]; exact Bool.false_ne_true⟩
  unfold stB; rw [this, Bool.false_and]
set_option maxHeartbeats 4000000 in
set_option maxRecDepth 100000 in
theorem stands_any (v : Value) (l : List Ch) (w : World) (hv : Chs w v l) (hz : SzC l) :
    Calls Try.prog 29 #[v] w fun e w' => e = .returned (.bool (stB l)) ∧ Below w.heap.size w w' := by
  have V : Aside (Chs w v l ∧ SzC l) := ⟨hv, hz⟩
  obtain ⟨a, cap, rfl, hlc, hcm⟩ := hv.len
  unfold maxLen at hcm
  clear hv hz
  have hmm := make_seen
  go_enter Try.func29, Try.ntmps29
  go_wp2_with fail
  clear hmm
  go_loopg [11] l.length (fun g si wr => ∃ (k : Nat), k ≤ l.length ∧ g = l.length - k ∧ si = .int .i64 k ∧ ((l.take k).all Ch.stB = true ∧ ((l.take k).map Ch.k).Nodup) ∧ (∃ D, wr.ownsMap Try.prog 9 unitElem w.heap.size k D ∧ Seen D ((l.take k).map Ch.k)) ∧ Below w.heap.size w wr)
  case atStart => exact ⟨0, Nat.zero_le _, rfl, rfl, ⟨rfl, by simp⟩, ⟨_, World.ownsMap_made _ _ _ _, seen_none⟩, (Below.refl _ _).alloc (Nat.le_refl _) _⟩
  case round =>
    obtain ⟨k, hk, hg, rfl, ha, ⟨D, hD, hS⟩, hb⟩ := hrel
    have R : Aside (gk = l.length - k ∧ ((l.take k).all Ch.stB = true ∧ ((l.take k).map Ch.k).Nodup) ∧ Seen D ((l.take k).map Ch.k) ∧ Below w.heap.size w wr) := ⟨hg, ha, hS, hb⟩
    have M0 := Lib.hid hD
    clear hg hb ha hS hD
    by_cases hlt : k < l.length
    · obtain ⟨b, off, rfl, p0, p1, p2⟩ := (V.out.1.below R.out.2.2.2).at k hlt
      have KY0 := V.out.2 _ (getC_mem hlt)
      obtain ⟨x, hx⟩ : ∃ x, x = l.getD k Ch.z := ⟨_, rfl⟩
      rw [← hx] at p0 p1 p2 KY0
      have X : Aside (x = l.getD k Ch.z) := hx
      clear hx
      obtain ⟨xk, xv, xg⟩ := x
      simp only at p0 p1 p2 KY0
      have KY := Lib.hid (WideMaps.keyOf_string_mk (P := Try.prog) Try.underlying9 KY0.1)
      clear KY0
      have hlt' : (k : Int) < (l.length : Int) := by omega
      have BX : Hid (∀ o, Below w.heap.size w (wr.alloc o)) := Lib.hid (fun o => R.out.2.2.2.alloc R.out.2.2.2.size o)
      have BY : Hid (∀ o o', Below w.heap.size w ((wr.alloc o).alloc o')) := Lib.hid (fun o o' => (BX.out o).alloc (BX.out o).size o')
      have M : Hid (∀ o, (wr.alloc o).ownsMap Try.prog 9 unitElem w.heap.size k D) := Lib.hid (fun o => M0.out.kept (row := none) (by have hb : Below wr.heap.size wr (wr.alloc o) := (Below.refl _ _).alloc (Nat.le_refl _) _; exact ⟨hb.os, hb.tape, hb.output, hb.size, fun j hj _ => hb.block j hj⟩) (by simp))
      have M1 : Hid (∀ o o', ((wr.alloc o).alloc o').ownsMap Try.prog 9 unitElem w.heap.size k D) := Lib.hid (fun o o' => (M.out o).kept (row := none) (by have hb : Below (wr.alloc o).heap.size (wr.alloc o) ((wr.alloc o).alloc o') := (Below.refl _ _).alloc (Nat.le_refl _) _; exact ⟨hb.os, hb.tape, hb.output, hb.size, fun j hj _ => hb.block j hj⟩) (by simp))
      by_cases h0 : xk.size = 0
      · have e0 := empty_yes h0
        have S : Aside (stB l = false) := all_no hlt (by rw [← X.out]; unfold Ch.stB; rw [decide_eq_false (show ¬ ¬ xk.size = 0 from fun h => h h0), Bool.false_and])
        clear h0
        cases hh : Maps.has D (.string xk.data.toList)
        all_goals
          go_wp2_with (at_lookup; refine wpList_lookup_own_unit _ rfl _ _ 68 rfl 9 69 lawS Try.underlying68 (zeroU _) w.heap.size k D rfl (M.out _) _ _ rfl KY.out ?_; rw [hh])
          go_ret
          exact ⟨by rw [S.out]; rfl, BY.out _ _⟩
      have e0 := empty_no h0
      by_cases hsn : xk ∈ (l.take k).map Ch.k
      · have hh : Maps.has D (.string xk.data.toList) = true := (R.out.2.2.1.2 _).2 hsn
        have S : Aside (stB l = false) := by
          have : ¬ (l.map Ch.k).Nodup := by
            have h2 := not_nodup (ms := (l.drop (k + 1)).map Ch.k) hsn
            have h3 : l.map Ch.k = (l.take k).map Ch.k ++ xk :: (l.drop (k + 1)).map Ch.k := by
              conv => lhs; rw [splitC l k hlt, ← X.out]
              rw [List.map_append, List.map_cons]
            rw [h3]; exact h2
          show _ = false
          unfold stB; rw [decide_eq_false this, Bool.false_and, Bool.and_false]
        clear hsn h0
        go_wp2_with (at_lookup; refine wpList_lookup_own_unit _ rfl _ _ 68 rfl 9 69 lawS Try.underlying68 (zeroU _) w.heap.size k D rfl (M.out _) _ _ rfl KY.out ?_; rw [hh])
        go_ret
        exact ⟨by rw [S.out]; rfl, BY.out _ _⟩
      have hh : Maps.has D (.string xk.data.toList) = false := by rw [Bool.eq_false_iff]; exact fun h => hsn ((R.out.2.2.1.2 _).1 h)
      have HS := Lib.hid hsn
      clear hsn
      have GO : Hid (Ch.stB ⟨xk, xv, xg⟩ = true → ∀ w2, w2.ownsMap Try.prog 9 unitElem w.heap.size (k + 1) (D.put (.string xk.data.toList) (.agg [])) → Below w.heap.size w w2 →
          ∃ k', k' ≤ l.length ∧ l.length - (k + 1) = l.length - k' ∧ (Value.int .i64 ((k : Int) + 1)) = .int .i64 k' ∧ ((l.take k').all Ch.stB = true ∧ ((l.take k').map Ch.k).Nodup) ∧ (∃ D, w2.ownsMap Try.prog 9 unitElem w.heap.size k' D ∧ Seen D ((l.take k').map Ch.k)) ∧ Below w.heap.size w w2) := Lib.hid (fun hs w2 m2 b2 => by
        refine ⟨k + 1, by omega, rfl, by rfl, ?_, ⟨_, m2, ?_⟩, b2⟩
        · rw [take_one l k Ch.z hlt, ← X.out, List.all_append, R.out.2.1.1, List.map_append]
          exact ⟨by simp [hs], nodup_snoc R.out.2.1.2 HS.out⟩
        · rw [take_one l k Ch.z hlt, ← X.out, List.map_append]
          exact R.out.2.2.1.put _ _)
      cases xg with
      | false =>
        have S : Hid (Ch.stB ⟨xk, xv, false⟩ = true) := Lib.hid (by unfold Ch.stB; rw [decide_eq_true h0]; rfl)
        clear h0
        go_wp2_with (first | (at_lookup; refine wpList_lookup_own_unit _ rfl _ _ 68 rfl 9 69 lawS Try.underlying68 (zeroU _) w.heap.size k D rfl (M.out _) _ _ rfl KY.out ?_; rw [hh]) | (at_mapUpdate; refine wpList_mapUpdate_own _ rfl _ _ _ 68 rfl 9 69 lawS Try.underlying68 _ w.heap.size k D rfl (M1.out _ _) (by unfold maxLen; omega) _ _ _ rfl rfl KY.out _ [] rfl ?_; intro w2 hown2 hgrow2))
        have B2 := Lib.hid ((BY.out (.cells #[.string xk, .string xv, .bool false] 27) (.cells #[] 69)).grown hgrow2 (by have := R.out.2.2.2.size; simp; omega) (fun j hj => by cases hj; exact Nat.le_refl _))
        have M2 := Lib.hid hown2
        clear hown2 hgrow2
        go_wp2_with fail
        go_roundg (l.length - (k + 1))
        case measure => have := R.out.1; omega
        case rel =>
          obtain ⟨k', q1, q2, q3, q4⟩ := GO.out S.out _ M2.out B2.out
          exact ⟨k', q1, q2, by simpa using q3, q4⟩
      | true =>
        by_cases h1 : xv.size = 0
        · have e1 := empty_yes h1
          have S : Hid (Ch.stB ⟨xk, xv, true⟩ = true) := Lib.hid (by unfold Ch.stB; rw [decide_eq_true h0, decide_eq_true (fun _ => h1)]; rfl)
          clear h0 h1
          go_wp2_with (first | (at_lookup; refine wpList_lookup_own_unit _ rfl _ _ 68 rfl 9 69 lawS Try.underlying68 (zeroU _) w.heap.size k D rfl (M.out _) _ _ rfl KY.out ?_; rw [hh]) | (at_mapUpdate; refine wpList_mapUpdate_own _ rfl _ _ _ 68 rfl 9 69 lawS Try.underlying68 _ w.heap.size k D rfl (M1.out _ _) (by unfold maxLen; omega) _ _ _ rfl rfl KY.out _ [] rfl ?_; intro w2 hown2 hgrow2))
          have B2 := Lib.hid ((BY.out (.cells #[.string xk, .string xv, .bool true] 27) (.cells #[] 69)).grown hgrow2 (by have := R.out.2.2.2.size; simp; omega) (fun j hj => by cases hj; exact Nat.le_refl _))
          have M2 := Lib.hid hown2
          clear hown2 hgrow2
          go_wp2_with fail
          go_roundg (l.length - (k + 1))
          case measure => have := R.out.1; omega
          case rel =>
            obtain ⟨k', q1, q2, q3, q4⟩ := GO.out S.out _ M2.out B2.out
            exact ⟨k', q1, q2, by simpa using q3, q4⟩
        · have e1 := empty_no h1
          have S : Aside (stB l = false) := all_no hlt (by rw [← X.out]; unfold Ch.stB; rw [decide_eq_false (show ¬ (true = true → xv.size = 0) from fun h => h1 (h rfl)), Bool.and_false])
          clear h0 h1
          go_wp2_with (at_lookup; refine wpList_lookup_own_unit _ rfl _ _ 68 rfl 9 69 lawS Try.underlying68 (zeroU _) w.heap.size k D rfl (M.out _) _ _ rfl KY.out ?_; rw [hh])
          go_ret
          exact ⟨by rw [S.out]; rfl, BY.out _ _⟩
    · have S : Aside (stB l = decide ((l.length : Int) > 0)) := by
        have h2 := R.out.2.1
        rw [List.take_of_length_le (by omega)] at h2
        show _ = _
        unfold stB; rw [h2.1, decide_eq_true h2.2, Bool.true_and, Bool.true_and]
        by_cases q : 0 < l.length
        · rw [decide_eq_true q, decide_eq_true (by omega)]
        · rw [decide_eq_false q, decide_eq_false (by omega)]
      go_wp2_with fail
      go_ret
      exact ⟨by rw [S.out]; simp, R.out.2.2.2⟩
end Go.Proofs.Ytmdjicakjljmlaa
