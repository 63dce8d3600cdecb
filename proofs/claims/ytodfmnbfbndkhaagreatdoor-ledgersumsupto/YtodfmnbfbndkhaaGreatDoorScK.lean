/-
  slices.Sorted(maps.Keys(m)) of a map of sums.
-/
import Derived.Test.YtodfmnbfbndkhaaGreatDoorScV
namespace Go.Proofs.YtodfmnbfbndkhaaGreatDoor
open Go.RowKit Go.Maps Go.Sort Go.Shelf
theorem sortsA (m : Nat) : AnyZ.SortsIn Tryz.prog Tryz.sortedA_ren Fence.wide m :=
  ⟨fun blk off cap ss W hH hblk hsz => callsIn_wide.2 (AnyM.slices_Sort_string Tryz.sortA blk off cap ss W hH hblk hsz),
   fun p cap W => callsIn_wide.2 (AnyM.slices_Sort_string_none Tryz.sortA p cap W)⟩
theorem keys_any (mb : Option Nat) (W : World) : Calls Tryz.prog 43 #[.map mb] W fun e w' => e = .returned (.func (.func 80) #[] #[.pointer (some ⟨W.heap.size, 0, none⟩)]) ∧ w' = W.alloc (.cells #[.map mb] 93) :=
  callsIn_wide.1 (AnyZ.keys_in Tryz.keysA Fence.wide 5 trivial rfl mb W)
/-- Rows of texts. -/
def kSt : Kd (List UInt8) := ⟨fun x => [encStr x], 1, 9, 95, 16, []⟩
theorem okSt : kSt.Ok := ⟨fun _ => rfl, by decide, fun x u hu => by simp only [kSt, List.mem_cons, List.not_mem_nil, or_false] at hu; rw [hu]; rfl, Tryz.underlying95, ⟨_, (by kernel_rfl : (Tryz.prog.info? 9).map (fun i => (i.zero, i.size, i.bytes)) = some (some (.string ⟨#[]⟩), 1, 16)), rfl⟩, by decide⟩
theorem cells_st (xs : List (List UInt8)) : cellsR kSt xs = xs.map encStr := by
  induction xs with
  | nil => rfl
  | cons x r ih => rw [cellsR, List.flatMap_cons, ← cellsR, ih]; rfl
theorem keys_perm {w : World} {b n : Nat} {D : DataW Unit} {es : List En} (h : w.ownsMap Tryz.prog 9 (plainElem Tryz.prog 2) b n D) (hS : Sm D es) : (ded (es.map Prod.fst)).Perm (strKeys D) := by
  obtain ⟨fs, rfl, hp⟩ := h.keysOf
  obtain ⟨fs', e, hpw⟩ := h.tidy law
  injection e with e
  subst e
  refine perm_strKeys hpw (fun p hp' => ?_) (ded_nodup _) (fun x => by rw [mem_ded, hS.2.1]; simp)
  obtain ⟨key, hkey⟩ := hp p hp'
  obtain ⟨x, _, hx, _⟩ := Maps.keyOf_str Tryz.underlying9 hkey
  exact ⟨x, hx⟩
theorem sorted_any (b n : Nat) (es : List En) (w : World) (hm : MapAt w b n es) (hn : n * 16 ≤ 140737488355328) :
    Calls Tryz.prog 42 #[.func (.func 80) #[] #[.pointer (some ⟨w.heap.size, 0, none⟩)]] (w.alloc (.cells #[.map (some b)] 93)) fun e w' =>
      ∃ v, e = .returned v ∧ OwnR kSt (w.heap.size + 1) w' v (nmsOf es) ∧ Below (w.heap.size + 1) (w.alloc (.cells #[.map (some b)] 93)) w' := by
  obtain ⟨D, hown, hS⟩ := hm
  have hbl := hown.lt
  have hsz : Maps.size D ≤ n := owns_size hown
  have hseq : SeqGives Fence.wide 2 Tryz.prog 80 #[.pointer (some ⟨w.heap.size, 0, none⟩)] encStr (fun ss => ss.Perm (strKeys D)) (Maps.size D) (w.alloc (.cells #[.map (some b)] 93)) :=
    AnyZ.keys_gives (ρ := Tryz.keysA_ren) { Tryz.keysA with } Fence.wide _ trivial rfl (by omega) w.heap.size b n D _ (by simp) (by simp) (hown.alloc _)
  have cS := AnyZ.sorted_in Tryz.sortedA Fence.wide 5 trivial trivial trivial trivial rfl (by omega) (sortsA _) (enters_of Tryz.func79 (by kernel_rfl) rfl) 80 #[.pointer (some ⟨w.heap.size, 0, none⟩)] trivial (enters_of Tryz.func80 (by kernel_rfl) rfl) _ _ (by unfold maxLen; omega) (by omega) _ hseq
  refine (callsIn_wide.1 cS).mono ?_
  rintro e w' ⟨v, ss, rfl, hp, hrow, _, hb⟩
  have e1 : ss.mergeSort (fun x y => decide (x ≤ y)) = nmsOf es := mergeSort_of_perm (hp.trans (keys_perm hown hS).symm)
  have e2 : ss.length = (nmsOf es).length := by rw [← e1, List.length_mergeSort]
  have e3 : (w.alloc (.cells #[.map (some b)] 93)).heap.size = w.heap.size + 1 := by simp
  refine ⟨v, rfl, ?_, by rw [e3] at hb; exact hb⟩
  rw [e1, e2, e3] at hrow
  show w'.ownsRow _ _ _ _ _ _
  rw [cells_st]
  exact hrow
end Go.Proofs.YtodfmnbfbndkhaaGreatDoor
