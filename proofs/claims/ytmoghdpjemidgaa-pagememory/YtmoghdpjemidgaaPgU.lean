/-
  unlike: of every list of blocks.
-/
import Derived.Test.YtmoghdpjemidgaaPgC
namespace Go.Proofs.Ytmoghdpjemidgaa
open Go.RowKit Go.Maps
def unlB (l : List Int) : Bool := l.all blkB && decide l.Nodup
theorem keyI : Keyed Try.prog 3 := int_keyed Try.underlying3
/-- The map of what was seen: just these. -/
def SeenI (D : DataW Unit) (ls : List Int) : Prop := IsMap D ∧ ∀ n : Int, Maps.has D (.int .i64 n) = decide (n ∈ ls)
theorem isKeyI (n : Int) : WideAt.IsKeyLit (.int .i64 n) := by trivial
theorem seenI_none : SeenI (.map []) [] := ⟨⟨[], rfl⟩, fun t => by simp [Maps.has_eq]⟩
theorem SeenI.put {D : DataW Unit} {ls : List Int} (h : SeenI D ls) (n : Int) (d : DataW Unit) : SeenI (D.put (.int .i64 n) d) (ls ++ [n]) := by
  refine ⟨h.1.put _ _, fun u => ?_⟩
  by_cases e : u = n
  · subst e
    rw [has_put_same h.1 (isKeyI _)]
    simp
  · rw [has_put_other (fun h => e (by injection h)), h.2]
    simp [e]
theorem nodup_snocI {ls : List Int} {l : Int} (h : ls.Nodup) (hn : l ∉ ls) : (ls ++ [l]).Nodup := by
  rw [List.nodup_append]
  refine ⟨h, by simp, ?_⟩
  intro a ha b hb e
  simp only [List.mem_singleton] at hb
  subst hb e
  exact hn ha
theorem not_nodupI {ls ms : List Int} {l : Int} (hn : l ∈ ls) : ¬ (ls ++ l :: ms).Nodup := by
  intro h
  rw [List.nodup_append] at h
  exact h.2.2 l hn l (by simp) rfl
theorem splitI (l : List Int) (k : Nat) (h : k < l.length) : l = l.take k ++ l.getD k 0 :: l.drop (k + 1) := by
  rw [List.getD_eq_getElem?_getD, List.getElem?_eq_getElem h]
  simp
theorem Ints.at {w : World} {a : Option Addr} {n cap : Nat} {l : List Int} (H : Ints w (.slice a n cap) l) (k : Nat) (hk : k < l.length) : ∃ b off, a = some ⟨b, off, none⟩ ∧ w.cell? ⟨b, off + k, none⟩ = some (.int .i64 (l.getD k 0)) := by
  obtain ⟨a', cap', e', _, _, _, hc⟩ := H
  simp only [Value.slice.injEq] at e'
  obtain ⟨rfl, rfl, rfl⟩ := e'
  exact hc k hk
theorem Ints.len {w : World} {v : Value} {l : List Int} (H : Ints w v l) : ∃ a cap, v = .slice a l.length cap ∧ l.length ≤ cap ∧ cap ≤ maxLen := by
  obtain ⟨a, cap, h, h1, h2, _⟩ := H; exact ⟨a, cap, h, h1, h2⟩
/-- Numbers of 64 bits. -/
def In64 (l : List Int) : Prop := ∀ n ∈ l, (Lit.int .i64 n).wf = true
theorem getD_mem {α : Type} {l : List α} {k : Nat} {d : α} (h : k < l.length) : l.getD k d ∈ l := by
  rw [List.getD_eq_getElem?_getD, List.getElem?_eq_getElem h]
  exact List.getElem_mem h
theorem take_oneI {α : Type} (l : List α) (k : Nat) (d : α) (h : k < l.length) : l.take (k + 1) = l.take k ++ [l.getD k d] := by
  rw [List.take_add_one, List.getD_eq_getElem?_getD, List.getElem?_eq_getElem h]
  simp
theorem make_set (w : World) : (Instr.makeMap 69 none).run Try.prog w = .ok (.map (some w.heap.size)) (w.alloc (.map #[] 0)) := by
  first | rfl | simp [Instr.makeMap, run_underlying Try.underlying69, Result.andThen]
theorem zeroU (w : World) : (zeroValue 70).run Try.prog w = .ok (.agg #[]) w := by first | kernel_rfl | go_simp
set_option maxHeartbeats 4000000 in
set_option maxRecDepth 100000 in
theorem unlike_any (v : Value) (l : List Int) (w : World) (hv : Ints w v l) (hz : In64 l) :
    Calls Try.prog 30 #[v] w fun e w' => e = .returned (.bool (unlB l)) ∧ Below w.heap.size w w' := by
  have V : Aside (Ints w v l ∧ In64 l) := ⟨hv, hz⟩
  have IB := Lib.hid isBlock_any
  obtain ⟨a, cap, rfl, hlc, hcm⟩ := hv.len
  unfold maxLen at hcm
  clear hv hz
  have hmm := make_set
  go_enter Try.func30, Try.ntmps30
  go_wp2_with fail
  clear hmm
  go_loopg [11] l.length (fun g si wr => ∃ (k : Nat), k ≤ l.length ∧ g = l.length - k ∧ si = .int .i64 k ∧ ((l.take k).all blkB = true ∧ (l.take k).Nodup) ∧ (∃ D, wr.ownsMap Try.prog 3 unitElem w.heap.size k D ∧ SeenI D (l.take k)) ∧ Below w.heap.size w wr)
  case atStart => exact ⟨0, Nat.zero_le _, rfl, rfl, ⟨rfl, by simp⟩, ⟨_, World.ownsMap_made _ _ _ _, seenI_none⟩, (Below.refl _ _).alloc (Nat.le_refl _) _⟩
  case round =>
    obtain ⟨k, hk, hg, rfl, ha, ⟨D, hD, hS⟩, hb⟩ := hrel
    have R : Aside (gk = l.length - k ∧ ((l.take k).all blkB = true ∧ (l.take k).Nodup) ∧ SeenI D (l.take k) ∧ Below w.heap.size w wr) := ⟨hg, ha, hS, hb⟩
    have M := Lib.hid hD
    clear hg hb ha hS hD
    by_cases hlt : k < l.length
    · obtain ⟨b, off, rfl, p0⟩ := (V.out.1.below R.out.2.2.2).at k hlt
      obtain ⟨t, ht⟩ : ∃ t, t = l.getD k 0 := ⟨_, rfl⟩
      rw [← ht] at p0
      have C : Aside (t = l.getD k 0) := ht
      have KY := Lib.hid (keyOf_int_mk (P := Try.prog) Try.underlying3 (V.out.2 t (by rw [ht]; exact getD_mem hlt)))
      have TM : Aside (t ∈ l) := by rw [ht]; exact getD_mem hlt
      clear ht
      have hlt' : (k : Int) < (l.length : Int) := by omega
      by_cases hsn : t ∈ l.take k
      · have hh : Maps.has D (.int .i64 t) = true := by rw [R.out.2.2.1.2, decide_eq_true hsn]
        have hA : Hid (unlB l = false) := Lib.hid (by
          unfold unlB
          have : ¬ l.Nodup := by
            have h2 := not_nodupI (ms := l.drop (k + 1)) hsn
            rw [C.out, ← splitI l k hlt] at h2
            exact h2
          rw [decide_eq_false this, Bool.and_false])
        clear hsn
        go_wp2_with (at_lookup; refine wpList_lookup_own_unit _ rfl _ _ 69 rfl 3 70 keyI Try.underlying69 (zeroU _) w.heap.size k D rfl M.out _ _ rfl KY.out ?_; rw [hh])
        go_ret
        exact ⟨by rw [hA.out]; rfl, R.out.2.2.2.trans ((Below.refl _ _).alloc (Nat.le_refl _) _ |>.mono R.out.2.2.2.size)⟩
      · have hh : Maps.has D (.int .i64 t) = false := by rw [R.out.2.2.1.2, decide_eq_false hsn]
        have HS := Lib.hid hsn
        clear hsn
        cases hn : blkB t with
        | false =>
          have hA : Hid (unlB l = false) := Lib.hid (by
            unfold unlB
            have : l.all blkB = false := by
              rw [List.all_eq_false]
              exact ⟨t, TM.out, by rw [hn]; exact Bool.false_ne_true⟩
            rw [this, Bool.false_and])
          go_wp2_with (first | (at_lookup; refine wpList_lookup_own_unit _ rfl _ _ 69 rfl 3 70 keyI Try.underlying69 (zeroU _) w.heap.size k D rfl M.out _ _ rfl KY.out ?_; rw [hh]) | (go_at_call 31; refine (IB.out _ _).mono ?_; rintro e w' ⟨rfl, rfl⟩; rw [hn]))
          go_ret
          exact ⟨by rw [hA.out]; rfl, R.out.2.2.2.trans ((Below.refl _ _).alloc (Nat.le_refl _) _ |>.mono R.out.2.2.2.size)⟩
        | true =>
          have M1 : Hid (∀ o, (wr.alloc o).ownsMap Try.prog 3 unitElem w.heap.size k D) := Lib.hid (fun o => M.out.kept (row := none) (by have hb : Below wr.heap.size wr (wr.alloc o) := (Below.refl _ _).alloc (Nat.le_refl _) _; exact ⟨hb.os, hb.tape, hb.output, hb.size, fun j hj _ => hb.block j hj⟩) (by simp))
          go_wp2_with (first | (at_lookup; refine wpList_lookup_own_unit _ rfl _ _ 69 rfl 3 70 keyI Try.underlying69 (zeroU _) w.heap.size k D rfl M.out _ _ rfl KY.out ?_; rw [hh]) | (go_at_call 31; refine (IB.out _ _).mono ?_; rintro e w' ⟨rfl, rfl⟩; rw [hn]) | (at_mapUpdate; refine wpList_mapUpdate_own _ rfl _ _ _ 69 rfl 3 70 keyI Try.underlying69 _ w.heap.size k D rfl (M1.out _) (by unfold maxLen; omega) _ _ _ rfl rfl KY.out _ [] rfl ?_; intro w2 hown2 hgrow2))
          have B2 := Lib.hid (R.out.2.2.2.trans (((Below.refl w.heap.size wr).alloc R.out.2.2.2.size (.cells #[] 70)).grown hgrow2 (by have := R.out.2.2.2.size; simp; omega) (fun j hj => by cases hj; exact Nat.le_refl _)))
          have M2 := Lib.hid hown2
          clear hown2 hgrow2
          go_wp2_with fail
          go_roundg (l.length - (k + 1))
          case measure => have := R.out.1; omega
          case rel => exact ⟨k + 1, by omega, rfl, by go_num, by
              rw [take_oneI l k 0 hlt, ← C.out, List.all_append, R.out.2.1.1]
              exact ⟨by simp [hn], nodup_snocI R.out.2.1.2 HS.out⟩, ⟨_, M2.out, by
              rw [take_oneI l k 0 hlt, ← C.out]
              exact R.out.2.2.1.put _ _⟩, B2.out⟩
    · have hA : Hid (unlB l = true) := Lib.hid (by
        have h2 := R.out.2.1
        rw [List.take_of_length_le (by omega)] at h2
        unfold unlB
        rw [h2.1, decide_eq_true h2.2]
        rfl)
      go_wp2_with fail
      go_ret
      exact ⟨by rw [hA.out]; rfl, R.out.2.2.2⟩
end Go.Proofs.Ytmoghdpjemidgaa
