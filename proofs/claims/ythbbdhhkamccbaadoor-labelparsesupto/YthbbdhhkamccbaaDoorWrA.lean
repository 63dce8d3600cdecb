/-
  write, writeValues: of every valid term.
-/
import Derived.Test.YthbbdhhkamccbaaDoorSelT
import Derived.Lib.QuietBelow
import Derived.BigQuiet
namespace Go.Proofs.YthbbdhhkamccbaaDoor
open Go.RowKit Go.Sort
theorem strs_cells {w : World} {b off n cap : Nat} {ts : List ByteArray} (H : Strs w (.slice (some ⟨b, off, none⟩) n cap) ts) : ∀ (j : Nat) x, ts[j]? = some x → w.cell? ⟨b, off + j, none⟩ = some (.string x) := by
  intro j x hj
  obtain ⟨hj', hx⟩ := List.getElem?_eq_some_iff.1 hj
  obtain ⟨b', off', e', hc⟩ := H.at j hj'
  cases e'
  rw [hc, List.getD_eq_getElem?_getD, hj]
  rfl
theorem joins_any (v : Value) (ts : List ByteArray) (c : UInt8) (w : World) (hv : Strs w v ts) (hl : (jn c (ts.map (·.data.toList))).length < 140737488355328) :
    Calls Tryd.prog 32 #[v, .string ⟨#[c]⟩] w fun e w' => e = .returned (.string (bys (jn c (ts.map (·.data.toList))))) ∧ Below w.heap.size w w' := by
  have hs := hv
  obtain ⟨a, cap, rfl, hlc, hcm⟩ := hv.len
  unfold maxLen at hcm
  have ej : Lib.join (ts.map (·.data.toList)) [c] = jn c (ts.map (·.data.toList)) := join_jn c _
  cases ts with
  | nil => exact (Tryd.strings_Join_none a cap ⟨#[c]⟩ w).mono fun _ _ ⟨he, hw⟩ => ⟨he, hw ▸ Below.refl _ _⟩
  | cons t r =>
    obtain ⟨b, off, rfl, hc0⟩ := hs.at 0 (by simp)
    refine (Tryd.strings_Join b off cap (t :: r) ⟨#[c]⟩ w (strs_cells hs) (block_lt_of_cell hc0) (by have := jn_len c ((t :: r).map (·.data.toList)); rw [List.length_map] at this; omega) hlc ?_).mono ?_
    · show (Lib.join ((t :: r).map (·.data.toList)) [c]).length ≤ _
      rw [ej]; exact Nat.le_of_lt hl
    · rintro e w' ⟨rfl, hb⟩
      refine ⟨?_, hb⟩
      show Ending.returned (.string ⟨(Lib.join ((t :: r).map (·.data.toList)) [c]).toArray⟩) = _
      rw [ej]; rfl
theorem jn_small (c : UInt8) (ts : List ByteArray) (m : Nat) (h : ∀ t ∈ ts, t.size ≤ m) : (jn c (ts.map (·.data.toList))).length ≤ ts.length * (m + 1) := by
  induction ts with
  | nil => simp [jn]
  | cons t r ih =>
    have h1 := h t (by simp)
    have h2 := ih fun u hu => h u (by simp [hu])
    have h3 : t.data.toList.length = t.size := by simp
    cases r with
    | nil => simp only [List.map_cons, List.map_nil, jn, List.length_cons, List.length_nil]; omega
    | cons u r =>
      rw [List.map_cons, jn_cons _ _ _ (by simp), List.length_append, List.length_cons, List.length_cons, Nat.add_mul]
      omega
set_option maxHeartbeats 4000000 in
set_option maxRecDepth 100000 in
theorem writeValues_any (x : Trm) (one more : ByteArray) (w : World) (hx : x.At w) (hk : x.key.size ≤ 32) (hts : ∀ t ∈ x.ts, t.size ≤ 32) (h1 : 1 ≤ x.ts.length) (h8 : x.ts.length ≤ 8) (ho : one.size ≤ 8) (hm : more.size ≤ 8) :
    Calls Tryd.prog 52 #[.agg x.cells.toArray, .string one, .string more] w fun e w' => e = .returned (.string (bys (wv3 (t3 x) one.data.toList more.data.toList))) ∧ Below w.heap.size w w' := by
  obtain ⟨key, how, vals, ts⟩ := x
  have X := Lib.hid hx
  obtain ⟨a, cap, hv, hlc, hcm⟩ := hx.1.len
  simp only at hv hk hts h1 h8
  subst hv
  unfold maxLen at hcm
  clear hx
  unfold Trm.cells
  obtain ⟨W1, hW1⟩ : ∃ W, W = w.alloc (.cells #[.string key, .int .i64 how, .slice a ts.length cap] 41) := ⟨_, rfl⟩
  have c0 : W1.cell? ⟨w.heap.size, 0, none⟩ = some (.string key) := by rw [hW1, World.cell?_alloc_new]; rfl
  have c2 : W1.cell? ⟨w.heap.size, 2, none⟩ = some (.slice a ts.length cap) := by rw [hW1, World.cell?_alloc_new]; rfl
  have B1 : Hid (Below w.heap.size w W1) := Lib.hid (by rw [hW1]; exact (Below.refl _ w).alloc (Nat.le_refl _) _)
  have HW := Lib.hid hW1
  by_cases one1 : ts.length = 1
  · obtain ⟨b, off, rfl, p0⟩ := (X.out.1.below B1.out).at 0 (by simp only; omega)
    obtain ⟨t, ht⟩ : ∃ t, t = ts.getD 0 ⟨#[]⟩ := ⟨_, rfl⟩
    simp only [Nat.add_zero] at p0
    rw [← ht] at p0
    have ets : ts = [t] := by
      cases ts with
      | nil => simp at one1
      | cons u r =>
        have : r = [] := List.length_eq_zero_iff.1 (by simpa using one1)
        subst this
        rw [ht]; rfl
    have tz : t.size ≤ 32 := hts t (by rw [ets]; simp)
    have hr : Hid (bys (wv3 (t3 ⟨key, how, .slice (some ⟨b, off, none⟩) ts.length cap, ts⟩) one.data.toList more.data.toList) = key ++ one ++ t) := Lib.hid (by
      unfold wv3 t3
      simp only [List.length_map]
      rw [if_pos one1, ets]
      show bys (key.data.toList ++ (one.data.toList ++ t.data.toList)) = _
      rw [app_bys, app_bys, data_bys, List.append_assoc])
    rw [one1] at hlc hr c2 HW hW1 ⊢
    clear ht ets hts h1 h8
    have s1 : key.size + one.size ≤ 9223372036854775807 := by omega
    have s2 : (key ++ one).size + t.size ≤ 9223372036854775807 := by rw [ByteArray.size_append]; omega
    have s3 : key.size + one.size + t.size ≤ 9223372036854775807 := by omega
    have xB : Hid (∀ (dq : Nat) (os : Array Obj), Below W1.heap.size W1 (grow (redrawn W1 dq) os)) := fun dq os => below_regrown W1 dq os
    have d0 : ∀ (dq : Nat) (os : Array Obj), (grow (redrawn W1 dq) os).cell? ⟨w.heap.size, 0, none⟩ = some (.string key) := fun dq os => cell_regrown c0 dq os
    have d2 : ∀ (dq : Nat) (os : Array Obj), (grow (redrawn W1 dq) os).cell? ⟨w.heap.size, 2, none⟩ = some (.slice (some ⟨b, off, none⟩) 1 cap) := fun dq os => cell_regrown c2 dq os
    have d3 : ∀ (dq : Nat) (os : Array Obj), (grow (redrawn W1 dq) os).cell? ⟨b, off, none⟩ = some (.string t) := fun dq os => cell_regrown p0 dq os
    have HW' := hW1.symm
    clear hW1 one1 X
    go_enter Tryd.func52, Tryd.ntmps52
    go_wp2_with fail
    refine wp_region_quiet_below (by kernel_rfl) (by kernel_rfl) ?_
    repeat (go_big_quiet_step (fail))
    refine wpQuiet_nil ?_
    intro _ hw'
    obtain ⟨⟨dq, osq⟩, hw''⟩ := hw'
    subst hw''
    go_wp2_with fail
    go_ret
    exact ⟨by rw [hr.out]; rfl, B1.out.trans ((xB.out _ _).mono B1.out.size)⟩
  · have h2 : 2 ≤ ts.length := by omega
    obtain ⟨J, hJ⟩ : ∃ J, J = bys (jn 32 (ts.map (·.data.toList))) := ⟨_, rfl⟩
    have Jz : J.size ≤ 264 := by
      have := jn_small 32 ts 32 hts
      rw [hJ, bys_size]
      omega
    have hr : Hid (bys (wv3 (t3 ⟨key, how, .slice a ts.length cap, ts⟩) one.data.toList more.data.toList) = key ++ more ++ J ++ ⟨#[41]⟩) := Lib.hid (by
      unfold wv3 t3
      simp only [List.length_map]
      rw [if_neg one1, app_bys, app_bys, app_bys, data_bys, data_bys, hJ, data_bys]
      simp [bys])
    have g1 : ((ts.length : Int) == 1) = false := by rw [beq_eq_false_iff_ne]; omega
    have s1 : key.size + more.size ≤ 9223372036854775807 := by omega
    have s2 : (key ++ more).size + J.size ≤ 9223372036854775807 := by rw [ByteArray.size_append]; omega
    have s3 : (key ++ more ++ J).size + 1 ≤ 9223372036854775807 := by rw [ByteArray.size_append, ByteArray.size_append]; omega
    have s4 : key.size + more.size + J.size ≤ 9223372036854775807 := by omega
    have s5 : key.size + more.size + J.size + 1 ≤ 9223372036854775807 := by omega
    have xB : Hid (∀ (dq : Nat) (os : Array Obj), Below W1.heap.size W1 (grow (redrawn W1 dq) os)) := fun dq os => below_regrown W1 dq os
    have xQ : Hid (∀ (dq : Nat) (os : Array Obj), Calls Tryd.prog 32 #[.slice a ts.length cap, .string ⟨#[32]⟩] (grow (redrawn W1 dq) os) fun e w'' => e = .returned (.string J) ∧ ∃ p : Regrown, w'' = grow (redrawn W1 p.d) p.os) := fun dq os =>
      Calls.regrown_of (by
        have h := joins_any (.slice a ts.length cap) ts 32 (grow (redrawn W1 dq) os) ((X.out.1.below B1.out).below (xB.out dq os)) (by have := jn_small 32 ts 32 hts; omega)
        rw [← hJ] at h
        exact h)
    have d0 : ∀ (dq : Nat) (os : Array Obj), (grow (redrawn W1 dq) os).cell? ⟨w.heap.size, 0, none⟩ = some (.string key) := fun dq os => cell_regrown c0 dq os
    have d2 : ∀ (dq : Nat) (os : Array Obj), (grow (redrawn W1 dq) os).cell? ⟨w.heap.size, 2, none⟩ = some (.slice a ts.length cap) := fun dq os => cell_regrown c2 dq os
    have HW' := hW1.symm
    clear hJ hts h1 hW1
    go_enter Tryd.func52, Tryd.ntmps52
    go_wp2_with fail
    refine wp_region_quiet_below (by kernel_rfl) (by kernel_rfl) ?_
    repeat (go_big_quiet_step (exact xQ.out _ _))
    refine wpQuiet_nil ?_
    intro _ hw'
    obtain ⟨⟨dq, osq⟩, hw''⟩ := hw'
    subst hw''
    go_wp2_with fail
    go_ret
    exact ⟨by rw [hr.out]; rfl, B1.out.trans ((xB.out _ _).mono B1.out.size)⟩
end Go.Proofs.YthbbdhhkamccbaaDoor
