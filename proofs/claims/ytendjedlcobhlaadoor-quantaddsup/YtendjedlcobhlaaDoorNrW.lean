/-
  Within of every two lists.
-/
import Derived.Test.YtendjedlcobhlaaDoorNrQ
namespace Go.Proofs.YtendjedlcobhlaaDoor
open Go.RowKit Go.Lib
/-- Whether a name's value passes the most. -/
def overB (l : List Am) (x : Am) : Bool := decide ((findA x.n (toA l)).1 > x.v)
def wiT (l t : List Am) : ByteArray := ((t.find? (overB l)).map Am.n).getD ⟨#[]⟩
theorem wi_at {l t : List Am} {k : Nat} (hk : k < t.length) (h : ∀ j, j < k → overB l (t.getD j kAm.z) = false) (h1 : overB l (t.getD k kAm.z) = true) : wiT l t = (t.getD k kAm.z).n := by
  unfold wiT
  have e : t.find? (overB l) = some (t.getD k kAm.z) := by
    rw [List.find?_eq_some_iff_getElem]
    refine ⟨h1, k, hk, (getD_ge _ _ _ hk).symm, fun j hj => ?_⟩
    have := h j hj
    rw [getD_ge _ _ _ (by omega)] at this
    rw [this]; rfl
  rw [e]; rfl
theorem wi_none {l t : List Am} (h : ∀ j, j < t.length → overB l (t.getD j kAm.z) = false) : wiT l t = ⟨#[]⟩ := by
  unfold wiT
  have e : t.find? (overB l) = none := by
    rw [List.find?_eq_none]
    intro x hx
    obtain ⟨j, hj, rfl⟩ := List.getElem_of_mem hx
    have := h j hj
    rw [getD_ge _ _ _ hj] at this
    rw [this]; exact Bool.false_ne_true
  rw [e]; rfl
set_option maxHeartbeats 4000000 in
set_option maxRecDepth 100000 in
theorem within_no (v u : Value) (l t : List Am) (w : World) (hv : Row kAm w v l) (hu : Row kAm w u t) (hb : bothB l t = false) :
    Calls Tryd.prog 18 #[v, u] w fun e w' => e = .returned (.tuple #[.string ⟨#[]⟩, .int .i64 31]) ∧ Below w.heap.size w w' := by
  have VB : Hid (Calls Tryd.prog 34 #[v, u] w fun e w' => e = .returned (.bool false) ∧ Below w.heap.size w w') := Lib.hid (by have q := bothValid_any v u l t w hv hu; rw [hb] at q; exact q)
  clear hb hv hu
  go_enter Tryd.func18, Tryd.ntmps18
  go_wp2_with fail
  refine VB.out.mono ?_
  rintro e w1 ⟨rfl, hb⟩
  have B1 := Lib.hid hb
  clear hb
  go_wp2_with fail
  go_ret2
  exact ⟨rfl, B1.out⟩
set_option maxHeartbeats 4000000 in
set_option maxRecDepth 100000 in
theorem within_yes (v u : Value) (l t : List Am) (w : World) (hv : Row kAm w v l) (hu : Row kAm w u t) (hb : bothB l t = true) :
    Calls Tryd.prog 18 #[v, u] w fun e w' => e = .returned (.tuple #[.string (wiT l t), .int .i64 0]) ∧ Below w.heap.size w w' := by
  have VB : Hid (Calls Tryd.prog 34 #[v, u] w fun e w' => e = .returned (.bool true) ∧ Below w.heap.size w w') := Lib.hid (by have q := bothValid_any v u l t w hv hu; rw [hb] at q; exact q)
  have V := Lib.hid hv
  have U := Lib.hid hu
  obtain ⟨ua, uc, rfl, hlc, hcm⟩ := hu.len
  unfold maxLen at hcm
  obtain ⟨n, hn⟩ : ∃ n, n = t.length := ⟨_, rfl⟩
  rw [← hn] at hlc U VB ⊢
  have HN := Lib.hid hn
  obtain ⟨r, hr⟩ : ∃ r, r = wiT l t := ⟨_, rfl⟩
  rw [← hr]
  have HR := Lib.hid hr
  clear hb hv hu hn hr
  go_enter Tryd.func18, Tryd.ntmps18
  go_wp2_with fail
  refine VB.out.mono ?_
  rintro e w1 ⟨rfl, hb⟩
  have B1 := Lib.hid hb
  clear hb VB
  go_wp2_with fail
  go_loopg [16] n (fun g si wr => ∃ (k : Nat), k ≤ n ∧ g = n - k ∧ si = .int .i64 k ∧ (∀ j, j < k → overB l (t.getD j kAm.z) = false) ∧ Below w.heap.size w wr)
  case atStart => exact ⟨0, Nat.zero_le _, rfl, rfl, (fun j hj => by omega), B1.out⟩
  case round =>
    obtain ⟨k, hk, hg, rfl, hno, hb⟩ := hrel
    have R : Hid (gk = n - k ∧ (∀ j, j < k → overB l (t.getD j kAm.z) = false) ∧ Below w.heap.size w wr) := Lib.hid ⟨hg, hno, hb⟩
    clear hg hno hb
    by_cases hlt : k < n
    · obtain ⟨b, off, rfl, pc⟩ := (U.out.below R.out.2.2).at k (by rw [← HN.out]; exact hlt)
      obtain ⟨⟨xn, xv⟩, hx⟩ : ∃ x, x = t.getD k kAm.z := ⟨_, rfl⟩
      rw [← hx] at pc
      have X := Lib.hid hx
      have c0 : wr.cell? ⟨b, off + k * 2, none⟩ = some (.string xn) := pc 0 _ rfl
      have c1 : wr.cell? ⟨b, off + k * 2 + 1, none⟩ = some (.int .i64 xv) := pc 1 _ rfl
      clear hx pc
      have hlt' : (k : Int) < (n : Int) := by omega
      obtain ⟨y, hy⟩ : ∃ y, y = findA xn (toA l) := ⟨_, rfl⟩
      obtain ⟨yv, yb⟩ := y
      have OF : Hid (∀ W, Below w.heap.size w W → Calls Tryd.prog 17 #[v, .string xn] W fun e w' => e = .returned (.tuple #[.int .i64 yv, .bool yb]) ∧ Below W.heap.size W w') := Lib.hid fun W h => by
        have q := of_any v (toA l) xn W (amts_row (V.out.below h))
        rw [← hy] at q; exact q
      have OV : Hid (overB l ⟨xn, xv⟩ = decide (yv > xv)) := Lib.hid (by unfold overB; simp only; rw [← hy])
      clear hy
      have BA : Hid (∀ o, Below w.heap.size w (wr.alloc o) ∧ Below wr.heap.size wr (wr.alloc o)) := Lib.hid fun o => ⟨R.out.2.2.trans (((Below.refl _ wr).alloc (Nat.le_refl _) o).mono R.out.2.2.size), (Below.refl _ wr).alloc (Nat.le_refl _) o⟩
      go_wp2_with fail
      refine (OF.out _ (BA.out _).1).mono ?_
      rintro e w2 ⟨rfl, hb⟩
      have B2 := Lib.hid ((BA.out _).1.trans (hb.mono (BA.out _).1.size))
      have d0 : w2.cell? ⟨wr.heap.size, 0, none⟩ = some (.string xn) := (hb.cell (by simp)).trans (by rw [World.cell?_alloc_new]; rfl)
      have d1 : w2.cell? ⟨wr.heap.size, 1, none⟩ = some (.int .i64 xv) := (hb.cell (by simp)).trans (by rw [World.cell?_alloc_new]; rfl)
      clear hb
      by_cases ho : yv > xv
      · have go : decide (yv > xv) = true := decide_eq_true ho
        have E : Hid (r = xn) := Lib.hid (by
          rw [HR.out, wi_at (by rw [← HN.out]; exact hlt) R.out.2.1 (by rw [← X.out, OV.out]; exact go), ← X.out])
        go_wp2_with fail
        go_ret2
        exact ⟨by rw [E.out]; rfl, B2.out⟩
      · have go : decide (yv > xv) = false := decide_eq_false ho
        have NO : Hid (∀ j, j < k + 1 → overB l (t.getD j kAm.z) = false) := Lib.hid fun j hj => by
          by_cases e : j = k
          · subst e; rw [← X.out, OV.out]; exact go
          · exact R.out.2.1 j (by omega)
        go_wp2_with fail
        go_roundg (n - (k + 1))
        case measure => have := R.out.1; omega
        case rel => exact ⟨k + 1, by omega, rfl, by go_num, NO.out, B2.out⟩
    · have E : Hid (r = ⟨#[]⟩) := Lib.hid (by
        rw [HR.out]
        exact wi_none fun j hj => R.out.2.1 j (by rw [← HN.out] at hj; omega))
      go_wp2_with fail
      go_ret2
      exact ⟨by rw [E.out]; rfl, R.out.2.2⟩
end Go.Proofs.YtendjedlcobhlaaDoor
