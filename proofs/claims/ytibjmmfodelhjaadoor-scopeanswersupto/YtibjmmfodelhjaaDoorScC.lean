/-
  The law's value; what is left of a list of sums.
-/
import Derived.Test.YtibjmmfodelhjaaDoorScH
import Derived.Test.YtibjmmfodelhjaaDoorScY
import Derived.Test.YtibjmmfodelhjaaDoorScS
namespace Go.Proofs.YtibjmmfodelhjaaDoor
open Go.RowKit
def vOf : List Am → ByteArray → Int
  | [], _ => 0
  | x :: r, n => if x.n = n then x.v else vOf r n
theorem vOf_drop (l : List Am) (k : Nat) (h : k < l.length) (n : ByteArray) : vOf (l.drop k) n = if (l.getD k kAm.z).n = n then (l.getD k kAm.z).v else vOf (l.drop (k + 1)) n := by
  rw [List.drop_eq_getElem_cons h, vOf, List.getD_eq_getElem?_getD, List.getElem?_eq_getElem h]; rfl
theorem vOf_map (f : List UInt8 → Int) (ns : List (List UInt8)) (n : ByteArray) (h0 : n.data.toList ∉ ns → f n.data.toList = 0) : vOf (ns.map fun m => ⟨⟨m.toArray⟩, f m⟩) n = f n.data.toList := by
  induction ns with
  | nil => rw [h0 (by simp)]; rfl
  | cons m r ih =>
    rw [List.map_cons, vOf]
    by_cases e : (⟨m.toArray⟩ : ByteArray) = n
    · rw [if_pos e]
      subst e
      rfl
    · rw [if_neg e]
      exact ih (fun q => h0 (by
        rw [List.mem_cons, not_or]
        refine ⟨fun e2 => e ?_, q⟩
        rw [← e2]))
/-- The value under a name is the sum. -/
theorem vOf_out (es : List En) (n : ByteArray) : vOf (outL es) n = Tot es n.data.toList :=
  vOf_map (Tot es) (nmsOf es) n (fun h => Tot_none (fun q => h ((mem_nms _ _).2 q)))
set_option maxHeartbeats 4000000 in
set_option maxRecDepth 100000 in
theorem value_any (u : Value) (l : List Am) (t : ByteArray) (w : World) (hu : Row kAm w u l) :
    Calls Tryd.prog 13 #[u, .string t] w fun e w' => e = .returned (.int .i64 (vOf l t)) ∧ Below w.heap.size w w' := by
  have U := Lib.hid hu
  obtain ⟨a, cap, rfl, hlc, hcm⟩ := hu.len
  unfold maxLen at hcm
  obtain ⟨n, hn⟩ : ∃ n, n = l.length := ⟨_, rfl⟩
  obtain ⟨z, hz⟩ : ∃ z, z = vOf l t := ⟨_, rfl⟩
  rw [← hn] at hlc U ⊢
  rw [← hz]
  have HN := Lib.hid hn
  have HZ := Lib.hid hz
  clear hu hn hz
  go_enter Tryd.func13, Tryd.ntmps13
  go_wp2_with fail
  go_loopg [5] n (fun g si wr => ∃ (k : Nat), k ≤ n ∧ g = n - k ∧ si = .int .i64 k ∧ wr = w ∧ z = vOf (l.drop k) t)
  case atStart => exact ⟨0, Nat.zero_le _, rfl, rfl, rfl, by rw [List.drop_zero]; exact HZ.out⟩
  case round =>
    obtain ⟨k, hk, hg, rfl, rfl, hz⟩ := hrel
    have R : Aside (gk = n - k ∧ z = vOf (l.drop k) t) := ⟨hg, hz⟩
    clear hg hz
    by_cases hlt : k < n
    · have hlt' : (k : Int) < (n : Int) := by omega
      obtain ⟨b, off, rfl, pc⟩ := U.out.at k (by rw [← HN.out]; exact hlt)
      have hs := vOf_drop l k (by rw [← HN.out]; exact hlt) t
      obtain ⟨⟨xn, xv⟩, hx⟩ : ∃ x, x = l.getD k kAm.z := ⟨_, rfl⟩
      rw [← hx] at pc hs
      have p0 : wr.cell? ⟨b, off + k * 2, none⟩ = some (.string xn) := pc 0 _ rfl
      have p1 : wr.cell? ⟨b, off + k * 2 + 1, none⟩ = some (.int .i64 xv) := pc 1 _ rfl
      clear hx pc
      rw [← R.out.2] at hs
      by_cases heq : xn = t
      · have ge := teq_yes heq
        rw [if_pos heq] at hs
        have HS := Lib.hid hs
        clear hs heq
        go_wp2_with fail
        go_ret
        exact ⟨by rw [HS.out]; rfl, Below.refl _ _⟩
      · have ge := teq_no heq
        rw [if_neg heq] at hs
        have HS := Lib.hid hs
        clear hs heq
        go_wp2_with fail
        go_roundg (n - (k + 1))
        case measure => have := R.out.1; omega
        case rel => exact ⟨k + 1, by omega, rfl, by go_num, rfl, HS.out⟩
    · have HS : Hid (z = 0) := Lib.hid (by
        have := R.out.2
        rw [List.drop_eq_nil_of_le (by rw [← HN.out]; omega)] at this
        exact this)
      go_wp2_with fail
      go_ret
      exact ⟨by rw [HS.out]; rfl, Below.refl _ _⟩
/-- What is left of the sums, when some of the amounts are taken off. -/
def lef (es ds : List En) : List Am := (nmsOf es).map fun n => ⟨⟨n.toArray⟩, Tot es n - Tot ds n⟩
theorem lef_nil (es : List En) : lef es [] = outL es := by
  unfold lef outL
  exact List.map_congr_left fun n _ => by simp [Tot]
theorem lef_len (es ds : List En) : (lef es ds).length = (nmsOf es).length := by simp [lef]
theorem lef_at (es ds : List En) (k : Nat) (h : k < (nmsOf es).length) : (lef es ds).getD k kAm.z = ⟨⟨((nmsOf es).getD k []).toArray⟩, Tot es ((nmsOf es).getD k []) - Tot ds ((nmsOf es).getD k [])⟩ := by
  unfold lef
  rw [List.getD_eq_getElem?_getD, List.getElem?_map, List.getElem?_eq_getElem h, List.getD_eq_getElem?_getD, List.getElem?_eq_getElem h]; rfl
theorem getD_ge {β : Type} (l : List β) (k : Nat) (d : β) (h : k < l.length) : l.getD k d = l[k] := by
  rw [List.getD_eq_getElem?_getD, List.getElem?_eq_getElem h]; rfl
theorem nms_inj (es : List En) {i j : Nat} (hi : i < (nmsOf es).length) (hj : j < (nmsOf es).length) (h : (nmsOf es).getD i [] = (nmsOf es).getD j []) : i = j := by
  rw [getD_ge _ _ _ hi, getD_ge _ _ _ hj] at h
  exact (List.getElem_inj (nms_nodup es)).1 h
theorem lef_set (es ds : List En) (k : Nat) (h : k < (nmsOf es).length) (x : Int) : (lef es ds).set k ⟨⟨((nmsOf es).getD k []).toArray⟩, Tot es ((nmsOf es).getD k []) - Tot ds ((nmsOf es).getD k []) - x⟩ = lef es (ds ++ [((nmsOf es).getD k [], x)]) := by
  apply List.ext_getElem
  · simp [lef]
  · intro i h1 h2
    have hi : i < (nmsOf es).length := by rw [← lef_len es (ds ++ [((nmsOf es).getD k [], x)])]; exact h2
    rw [List.getElem_set]
    have e2 : (lef es (ds ++ [((nmsOf es).getD k [], x)]))[i] = (lef es (ds ++ [((nmsOf es).getD k [], x)])).getD i kAm.z := (getD_ge _ _ _ h2).symm
    rw [e2, lef_at _ _ _ hi, Tot_app, Tot_one]
    by_cases e : k = i
    · subst e
      rw [if_pos rfl, if_pos rfl]
      simp only [Am.mk.injEq, true_and]
      omega
    · rw [if_neg e, if_neg (fun q => e (nms_inj es h hi q))]
      have h3 : i < (lef es ds).length := by rw [lef_len]; exact hi
      have e3 : (lef es ds)[i] = (lef es ds).getD i kAm.z := (getD_ge _ _ _ h3).symm
      rw [e3, lef_at _ _ _ hi]
      simp
theorem nms_idx {es : List En} {n : List UInt8} (h : n ∈ es.map Prod.fst) : ∃ k, k < (nmsOf es).length ∧ (nmsOf es).getD k [] = n := by
  obtain ⟨k, hk, e⟩ := List.getElem_of_mem ((mem_nms es n).2 h)
  exact ⟨k, hk, by rw [getD_ge _ _ _ hk]; exact e⟩
theorem OwnR.someOf {α : Type} {K : Kd α} {B : Nat} {w : World} {a : Option Addr} {n c : Nat} {xs : List α} (H : OwnR K B w (.slice a n c) xs) (h : 0 < xs.length) : ∃ g, a = some ⟨g, 0, none⟩ ∧ n = xs.length ∧ B ≤ g ∧ g < w.heap.size := by
  obtain ⟨_, ⟨hv, hn⟩ | ⟨g, cap, cur, hv, hb, hg, _⟩⟩ := H
  · simp only [Value.slice.injEq] at hv; omega
  · simp only [Value.slice.injEq] at hv
    exact ⟨g, hv.1, hv.2.1, hb, (Array.getElem?_eq_some_iff.1 hg).1⟩
end Go.Proofs.YtibjmmfodelhjaaDoor
