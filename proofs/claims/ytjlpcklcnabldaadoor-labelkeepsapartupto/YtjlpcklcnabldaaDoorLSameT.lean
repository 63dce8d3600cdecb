/-
  sameTerms: of terms that are the same.
-/
import Derived.Test.YtjlpcklcnabldaaDoorLTrmA
namespace Go.Proofs.YtjlpcklcnabldaaDoor.L
open Go.RowKit Go.Sort
theorem data_inj {a b : ByteArray} (h : a.data.toList = b.data.toList) : a = b := by rw [← bys_data a, ← bys_data b, h]
theorem t3_inj {x y : Trm} (h : t3 x = t3 y) : x.key = y.key ∧ x.how = y.how ∧ x.ts = y.ts := by
  unfold t3 at h
  injection h with h1 h2 h3
  refine ⟨data_inj h1, h2, ?_⟩
  rw [← ts_of x.ts, h3, ts_of]
theorem t3_at {xs ys : List Trm} (h : xs.map t3 = ys.map t3) (k : Nat) (hk : k < xs.length) (d : Trm) : t3 (xs.getD k d) = t3 (ys.getD k d) := by
  have hl : ys.length = xs.length := by have := congrArg List.length h; simpa using this.symm
  have h1 : (xs.map t3)[k]? = (ys.map t3)[k]? := by rw [h]
  rw [List.getElem?_map, List.getElem?_map, List.getElem?_eq_getElem hk, List.getElem?_eq_getElem (by omega)] at h1
  rw [List.getD_eq_getElem?_getD, List.getD_eq_getElem?_getD, List.getElem?_eq_getElem hk, List.getElem?_eq_getElem (by omega)]
  simpa using h1
set_option maxHeartbeats 8000000 in
set_option maxRecDepth 100000 in
theorem sameTerms_yes (v v' : Value) (xs ys : List Trm) (w : World) (hv : Trms w v xs) (hv' : Trms w v' ys) (h3 : xs.map t3 = ys.map t3) :
    Calls Tryd.prog 12 #[v, v'] w fun e w' => e = .returned (.bool true) ∧ Below w.heap.size w w' := by
  have hl : ys.length = xs.length := by have := congrArg List.length h3; simpa using this.symm
  have V := Lib.hid (And.intro hv hv')
  obtain ⟨_, a, cap, rfl, hlc, hcm, _, _⟩ := hv
  obtain ⟨_, a', cap', rfl, hlc', hcm', _, _⟩ := hv'
  unfold maxLen at hcm hcm'
  obtain ⟨n, hn⟩ : ∃ n, n = xs.length := ⟨_, rfl⟩
  rw [hl] at hlc' V ⊢
  rw [← hn] at hlc hlc' hl V ⊢
  have HN := Lib.hid (And.intro hn hl)
  have T := Lib.hid h3
  clear hn hl h3
  have nn : ((n : Int) != (n : Int)) = false := by simp
  go_enter Tryd.func12, Tryd.ntmps12
  go_wp2_with fail
  clear nn
  go_loopg [5] n (fun g si wr => ∃ (k : Nat), k ≤ n ∧ g = n - k ∧ si = .int .i64 k ∧ Below w.heap.size w wr)
  case atStart => exact ⟨0, Nat.zero_le _, rfl, rfl, Below.refl _ _⟩
  case round =>
    obtain ⟨k, hk, hg, rfl, hb⟩ := hrel
    have R : Aside (gk = n - k ∧ Below w.heap.size w wr) := ⟨hg, hb⟩
    clear hg hb
    by_cases hlt : k < n
    · have hlt' : (k : Int) < (n : Int) := by omega
      obtain ⟨b, off, rfl, x, hx, ex, hat, c0, c1, c2⟩ := trms_at (V.out.1.below R.out.2) k (by rw [← HN.out.1]; exact hlt)
      obtain ⟨b', off', rfl, y, hy, ey, hat', d0, d1, d2⟩ := trms_at (V.out.2.below R.out.2) k (by rw [HN.out.2]; exact hlt)
      have he := t3_at T.out k (by rw [← HN.out.1]; exact hlt) ⟨⟨#[]⟩, 0, .slice none 0 0, []⟩
      rw [ex, ey] at he
      obtain ⟨e1, e2, e3⟩ := t3_inj he
      obtain ⟨key, how, vals, ts⟩ := x
      obtain ⟨key', how', vals', ts'⟩ := y
      simp only at e1 e2 e3 c0 c1 c2 d0 d1 d2
      subst e1 e2 e3
      have xB : Hid (∀ (dq : Nat) (os : Array Obj), Below wr.heap.size wr (grow (redrawn wr dq) os)) := fun dq os => below_regrown wr dq os
      have xQ : Hid (∀ (dq : Nat) (os : Array Obj), Calls Tryd.prog 6 #[vals, vals'] (grow (redrawn wr dq) os) fun e w'' => e = .returned (.bool true) ∧ ∃ p : Regrown, w'' = grow (redrawn wr p.d) p.os) := fun dq os =>
        Calls.regrown_of (sameTexts_yes _ _ ts _ (hat.1.below (xB.out dq os)) (hat'.1.below (xB.out dq os)))
      have r0 : ∀ (dq : Nat) (os : Array Obj), (grow (redrawn wr dq) os).cell? ⟨b, off + k * 3, none⟩ = some (.string key) := fun dq os => cell_regrown c0 dq os
      have r1 : ∀ (dq : Nat) (os : Array Obj), (grow (redrawn wr dq) os).cell? ⟨b, off + k * 3 + 1, none⟩ = some (.int .i64 how) := fun dq os => cell_regrown c1 dq os
      have r2 : ∀ (dq : Nat) (os : Array Obj), (grow (redrawn wr dq) os).cell? ⟨b, off + k * 3 + 2, none⟩ = some vals := fun dq os => cell_regrown c2 dq os
      have s0 : ∀ (dq : Nat) (os : Array Obj), (grow (redrawn wr dq) os).cell? ⟨b', off' + k * 3, none⟩ = some (.string key) := fun dq os => cell_regrown d0 dq os
      have s1 : ∀ (dq : Nat) (os : Array Obj), (grow (redrawn wr dq) os).cell? ⟨b', off' + k * 3 + 1, none⟩ = some (.int .i64 how) := fun dq os => cell_regrown d1 dq os
      have s2 : ∀ (dq : Nat) (os : Array Obj), (grow (redrawn wr dq) os).cell? ⟨b', off' + k * 3 + 2, none⟩ = some vals' := fun dq os => cell_regrown d2 dq os
      have hh : (how != how) = false := by simp
      clear he ex ey hx hy hat hat'
      go_wp2_with fail
      refine wp_region_quiet_below (by kernel_rfl) (by kernel_rfl) ?_
      repeat (go_big_quiet_step (exact xQ.out _ _))
      refine wpQuiet_nil ?_
      intro _ hw'
      obtain ⟨⟨dq, osq⟩, hw''⟩ := hw'
      subst hw''
      have xx := Lib.hid (xB.out dq osq)
      clear r0 r1 r2 s0 s1 s2 xB xQ c0 c1 c2 d0 d1 d2
      obtain ⟨W, hW⟩ : ∃ W, W = grow (redrawn wr dq) osq := ⟨_, rfl⟩
      rw [← hW] at xx ⊢
      clear hW
      go_wp2_with fail
      go_roundg (n - (k + 1))
      case measure => have := R.out.1; omega
      case rel => exact ⟨k + 1, by omega, rfl, by go_num, R.out.2.trans (xx.out.mono R.out.2.size)⟩
    · have hge : decide ((k : Int) < (n : Int)) = false := decide_eq_false (by omega)
      go_wp2_with fail
      go_ret
      exact ⟨rfl, R.out.2⟩
end Go.Proofs.YtjlpcklcnabldaaDoor.L
