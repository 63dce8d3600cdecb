/-
  LeN, LeQ, LeQr, LeQs, joined.
-/
import Derived.Test.YtodfmnbfbndkhaaGreatDoorLeK
import Derived.Test.YtodfmnbfbndkhaaGreatDoorShelfS
import Derived.Sort.Walk0
import Derived.Test.YtodfmnbfbndkhaaGreatDoorScG
section S0
namespace Go.Proofs.YtodfmnbfbndkhaaGreatDoor
open Go.RowKit Go.Sort
namespace Le
def cmS (x y : ByteArray) : Int := if Op.bytesLess x.toList y.toList then -1 else if Op.bytesLess y.toList x.toList then 1 else 0
theorem nan_any (x : ByteArray) (w : World) : Calls Tryz.prog 106 #[.string x] w fun e w' => e = .returned (.bool false) ∧ w' = w := by
  have g1 : (x.toList == x.toList) = true := beq_self_eq_true _
  have g2 : (x.toList != x.toList) = false := bne_self_eq_false _
  go_enter Tryz.func106, Tryz.ntmps106
  go_wp2_with fail
  go_ret
  exact ⟨rfl, rfl⟩
theorem cmpS_any (x y : ByteArray) (w : World) : Calls Tryz.prog 64 #[.string x, .string y] w fun e w' => e = .returned (.int .i64 (cmS x y)) ∧ w' = w := by
  have C1 := Lib.hid (nan_any x w)
  have C2 := Lib.hid (nan_any y w)
  cases g : Op.bytesLess x.toList y.toList with
  | true =>
    have E : Hid (cmS x y = -1) := Lib.hid (by unfold cmS; rw [if_pos g])
    go_enter Tryz.func64, Tryz.ntmps64
    go_wp2_with fail
    refine C1.out.mono ?_
    rintro e w1 ⟨rfl, rfl⟩
    go_wp2_with fail
    refine C2.out.mono ?_
    rintro e w1 ⟨rfl, rfl⟩
    go_wp2_with fail
    go_ret
    rw [E.out]
    exact ⟨rfl, rfl⟩
  | false =>
    cases h : Op.bytesLess y.toList x.toList with
    | true =>
      have E : Hid (cmS x y = 1) := Lib.hid (by unfold cmS; rw [if_neg (by rw [g]; decide), if_pos h])
      have q : (x.toList == y.toList) = false := by
        rw [beq_eq_false_iff_ne]
        intro e
        rw [e, bytesLess_eq] at h
        exact absurd (of_decide_eq_true h) (List.lt_irrefl _)
      go_enter Tryz.func64, Tryz.ntmps64
      go_wp2_with fail
      refine C1.out.mono ?_
      rintro e w1 ⟨rfl, rfl⟩
      go_wp2_with fail
      refine C2.out.mono ?_
      rintro e w1 ⟨rfl, rfl⟩
      go_wp2_with fail
      go_ret
      rw [E.out]
      exact ⟨rfl, rfl⟩
    | false =>
      have E : Hid (cmS x y = 0) := Lib.hid (by unfold cmS; rw [if_neg (by rw [g]; decide), if_neg (by rw [h]; decide)])
      have q : (x.toList == y.toList) = true := by
        rw [beq_iff_eq]
        rw [bytesLess_eq] at g h
        exact List.le_antisymm (List.not_lt.1 (of_decide_eq_false h)) (List.not_lt.1 (of_decide_eq_false g))
      go_enter Tryz.func64, Tryz.ntmps64
      go_wp2_with fail
      refine C1.out.mono ?_
      rintro e w1 ⟨rfl, rfl⟩
      go_wp2_with fail
      refine C2.out.mono ?_
      rintro e w1 ⟨rfl, rfl⟩
      go_wp2_with fail
      go_ret
      rw [E.out]
      exact ⟨rfl, rfl⟩
theorem nan8_any (x : Int) (w : World) : Calls Tryz.prog 132 #[.int .u8 x] w fun e w' => e = .returned (.bool false) ∧ w' = w := by
  go_enter Tryz.func132, Tryz.ntmps132
  go_wp2_with fail
  go_ret
  exact ⟨rfl, rfl⟩
theorem cmp8_any (x y : Int) (w : World) : Calls Tryz.prog 103 #[.int .u8 x, .int .u8 y] w fun e w' => e = .returned (.int .i64 (Lib.compareInt x y)) ∧ w' = w := by
  have C1 := Lib.hid (nan8_any x w)
  have C2 := Lib.hid (nan8_any y w)
  rcases Int.lt_trichotomy x y with h | h | h
  · have E : Hid (Lib.compareInt x y = -1) := Lib.hid (by unfold Lib.compareInt; rw [if_pos h])
    go_enter Tryz.func103, Tryz.ntmps103
    go_wp2_with fail
    refine C1.out.mono ?_
    rintro e w1 ⟨rfl, rfl⟩
    go_wp2_with fail
    refine C2.out.mono ?_
    rintro e w1 ⟨rfl, rfl⟩
    go_wp2_with fail
    go_ret
    rw [E.out]
    exact ⟨rfl, rfl⟩
  · subst h
    have E : Hid (Lib.compareInt x x = 0) := Lib.hid (by unfold Lib.compareInt; simp)
    go_enter Tryz.func103, Tryz.ntmps103
    go_wp2_with fail
    refine C1.out.mono ?_
    rintro e w1 ⟨rfl, rfl⟩
    go_wp2_with fail
    refine C2.out.mono ?_
    rintro e w1 ⟨rfl, rfl⟩
    go_wp2_with fail
    go_ret
    rw [E.out]
    exact ⟨rfl, rfl⟩
  · have E : Hid (Lib.compareInt x y = 1) := Lib.hid (by unfold Lib.compareInt; rw [if_neg (by omega), if_pos h])
    have h2 : ¬ x < y := by omega
    go_enter Tryz.func103, Tryz.ntmps103
    go_wp2_with fail
    refine C1.out.mono ?_
    rintro e w1 ⟨rfl, rfl⟩
    go_wp2_with fail
    refine C2.out.mono ?_
    rintro e w1 ⟨rfl, rfl⟩
    go_wp2_with fail
    go_ret
    rw [E.out]
    exact ⟨rfl, rfl⟩
/-- A slash ends a name. -/
def rk (x : Int) : Int := if x = 47 then 0 else x
theorem rank_any (x : Int) (w : World) : Calls Tryz.prog 104 #[.int .u8 x] w fun e w' => e = .returned (.int .u8 (rk x)) ∧ w' = w := by
  by_cases h : x = 47
  · subst h
    go_enter Tryz.func104, Tryz.ntmps104
    go_wp2_with fail
    go_ret
    exact ⟨rfl, rfl⟩
  · have E : Hid (rk x = x) := Lib.hid (by unfold rk; rw [if_neg h])
    have g1 : (x == 47) = false := by rw [beq_eq_false_iff_ne]; exact h
    go_enter Tryz.func104, Tryz.ntmps104
    go_wp2_with fail
    go_ret
    rw [E.out]
    exact ⟨rfl, rfl⟩
/-- The first that is not 0. -/
def orL : List Int → Int
  | [] => 0
  | x :: l => if x = 0 then orL l else x
set_option maxHeartbeats 2000000 in
theorem or4_any (g : Nat) (p q r s : Int) (w : World) (h0 : w.cell? ⟨g, 0, none⟩ = some (.int .i64 p)) (h1 : w.cell? ⟨g, 1, none⟩ = some (.int .i64 q)) (h2 : w.cell? ⟨g, 2, none⟩ = some (.int .i64 r)) (h3 : w.cell? ⟨g, 3, none⟩ = some (.int .i64 s)) :
    Calls Tryz.prog 61 #[.slice (some ⟨g, 0, none⟩) 4 4] w fun e w' => e = .returned (.int .i64 (orL [p, q, r, s])) ∧ w' = w := by
  by_cases ep : p = 0
  · subst ep
    by_cases eq : q = 0
    · subst eq
      by_cases er : r = 0
      · subst er
        by_cases es : s = 0
        · subst es
          have E : Hid (orL [0, 0, 0, 0] = 0) := Lib.hid rfl
          go_enter Tryz.func61, Tryz.ntmps61
          go_wp2_with fail
          refine wp_loop_rounds 5 ?_
          rw [rounds_succ]
          go_wp2_with fail
          rw [rounds_succ]
          go_wp2_with fail
          rw [rounds_succ]
          go_wp2_with fail
          rw [rounds_succ]
          go_wp2_with fail
          rw [rounds_succ]
          go_wp2_with fail
          go_ret
          rw [E.out]
          exact ⟨rfl, rfl⟩
        · have gs : (s == 0) = false := by rw [beq_eq_false_iff_ne]; exact es
          have ks : (s != 0) = true := by rw [bne_iff_ne]; exact es
          have E : Hid (orL [0, 0, 0, s] = s) := Lib.hid (by simp [orL, es])
          go_enter Tryz.func61, Tryz.ntmps61
          go_wp2_with fail
          refine wp_loop_rounds 5 ?_
          rw [rounds_succ]
          go_wp2_with fail
          rw [rounds_succ]
          go_wp2_with fail
          rw [rounds_succ]
          go_wp2_with fail
          rw [rounds_succ]
          go_wp2_with fail
          go_ret
          rw [E.out]
          exact ⟨rfl, rfl⟩
      · have gr : (r == 0) = false := by rw [beq_eq_false_iff_ne]; exact er
        have kr : (r != 0) = true := by rw [bne_iff_ne]; exact er
        have E : Hid (orL [0, 0, r, s] = r) := Lib.hid (by simp [orL, er])
        go_enter Tryz.func61, Tryz.ntmps61
        go_wp2_with fail
        refine wp_loop_rounds 5 ?_
        rw [rounds_succ]
        go_wp2_with fail
        rw [rounds_succ]
        go_wp2_with fail
        rw [rounds_succ]
        go_wp2_with fail
        go_ret
        rw [E.out]
        exact ⟨rfl, rfl⟩
    · have gq : (q == 0) = false := by rw [beq_eq_false_iff_ne]; exact eq
      have kq : (q != 0) = true := by rw [bne_iff_ne]; exact eq
      have E : Hid (orL [0, q, r, s] = q) := Lib.hid (by simp [orL, eq])
      go_enter Tryz.func61, Tryz.ntmps61
      go_wp2_with fail
      refine wp_loop_rounds 5 ?_
      rw [rounds_succ]
      go_wp2_with fail
      rw [rounds_succ]
      go_wp2_with fail
      go_ret
      rw [E.out]
      exact ⟨rfl, rfl⟩
  · have gp : (p == 0) = false := by rw [beq_eq_false_iff_ne]; exact ep
    have kp : (p != 0) = true := by rw [bne_iff_ne]; exact ep
    have E : Hid (orL [p, q, r, s] = p) := Lib.hid (by simp [orL, ep])
    go_enter Tryz.func61, Tryz.ntmps61
    go_wp2_with fail
    refine wp_loop_rounds 5 ?_
    rw [rounds_succ]
    go_wp2_with fail
    go_ret
    rw [E.out]
    exact ⟨rfl, rfl⟩
end Le
end Go.Proofs.YtodfmnbfbndkhaaGreatDoor
end S0

section S1
namespace Go.Proofs.YtodfmnbfbndkhaaGreatDoor
open Go.RowKit Go.Sort
namespace Le
/-- The order of two paths, byte by byte, a slash ahead of all. -/
def cpL : List UInt8 → List UInt8 → Int
  | [], [] => 0
  | [], _ :: _ => -1
  | _ :: _, [] => 1
  | x :: xs, y :: ys => if x = y then cpL xs ys else Lib.compareInt (rk x.toNat) (rk y.toNat)
def cpP (x y : ByteArray) : Int := cpL x.data.toList y.data.toList
theorem cpL_take : ∀ (k : Nat) (xs ys : List UInt8), k ≤ xs.length → k ≤ ys.length → xs.take k = ys.take k → cpL xs ys = cpL (xs.drop k) (ys.drop k)
  | 0, _, _, _, _, _ => rfl
  | k + 1, [], _, h, _, _ => by simp at h
  | k + 1, _ :: _, [], _, h, _ => by simp at h
  | k + 1, x :: xs, y :: ys, h1, h2, h => by
    rw [List.take_succ_cons, List.take_succ_cons, List.cons.injEq] at h
    rw [cpL, if_pos h.1, List.drop_succ_cons, List.drop_succ_cons]
    exact cpL_take k xs ys (by simpa using h1) (by simpa using h2) h.2
theorem cpL_end {xs ys : List UInt8} (h : xs = [] ∨ ys = []) : cpL xs ys = Lib.compareInt (xs.length : Int) (ys.length : Int) := by
  rcases h with rfl | rfl
  · cases ys with
    | nil => rfl
    | cons y ys => rw [cpL]; unfold Lib.compareInt; rw [if_pos (by simp only [List.length_nil, List.length_cons]; omega)]
  · cases xs with
    | nil => rfl
    | cons y ys => rw [cpL]; unfold Lib.compareInt; rw [if_neg (by simp only [List.length_nil, List.length_cons]; omega), if_pos (by simp only [List.length_nil, List.length_cons]; omega)]
theorem cpP_at {a b : ByteArray} {k : Nat} (h1 : k < a.size) (h2 : k < b.size) (h : a.data.toList.take k = b.data.toList.take k) (hne : a.data[k]! ≠ b.data[k]!) : cpP a b = Lib.compareInt (rk (a.data[k]!).toNat) (rk (b.data[k]!).toNat) := by
  have l1 : k < a.data.toList.length := by simpa using h1
  have l2 : k < b.data.toList.length := by simpa using h2
  unfold cpP
  rw [cpL_take k _ _ (by omega) (by omega) h, List.drop_eq_getElem_cons l1, List.drop_eq_getElem_cons l2, cpL]
  have e1 : a.data.toList[k] = a.data[k]! := by rw [getElem!_pos a.data k (by simpa using l1)]; simp
  have e2 : b.data.toList[k] = b.data[k]! := by rw [getElem!_pos b.data k (by simpa using l2)]; simp
  rw [e1, e2, if_neg hne]
theorem take_on {a b : ByteArray} {k : Nat} (h1 : k < a.size) (h2 : k < b.size) (h : a.data.toList.take k = b.data.toList.take k) (he : a.data[k]! = b.data[k]!) : a.data.toList.take (k + 1) = b.data.toList.take (k + 1) := by
  have l1 : k < a.data.toList.length := by simpa using h1
  have l2 : k < b.data.toList.length := by simpa using h2
  have e1 : a.data.toList[k] = a.data[k]! := by rw [getElem!_pos a.data k (by simpa using l1)]; simp
  have e2 : b.data.toList[k] = b.data[k]! := by rw [getElem!_pos b.data k (by simpa using l2)]; simp
  rw [List.take_succ_eq_append_getElem l1, List.take_succ_eq_append_getElem l2, h, e1, e2, he]
theorem cpP_end {a b : ByteArray} {k : Nat} (h1 : k = min a.size b.size) (h : a.data.toList.take k = b.data.toList.take k) : cpP a b = Lib.compareInt (a.size : Int) (b.size : Int) := by
  have e1 : a.data.toList.length = a.size := by simp
  have e2 : b.data.toList.length = b.size := by simp
  unfold cpP
  rw [cpL_take k _ _ (by omega) (by omega) h, cpL_end (by
    rcases Nat.le_total a.size b.size with q | q
    · exact Or.inl (List.drop_eq_nil_of_le (by omega))
    · exact Or.inr (List.drop_eq_nil_of_le (by omega)))]
  rw [List.length_drop, List.length_drop, e1, e2]
  unfold Lib.compareInt
  rcases Nat.lt_trichotomy a.size b.size with q | q | q
  · rw [if_pos (by omega), if_pos (by omega)]
  · rw [q]; simp
  · rw [if_neg (by omega), if_pos (by omega), if_neg (by omega), if_pos (by omega)]
theorem drew_on {w W : World} {n : Nat} (h : ∃ q, W = w.drewN q) : ∃ q, W.drewN n = w.drewN q := by
  obtain ⟨q, rfl⟩ := h
  exact ⟨q + n, by simp [World.drewN, Nat.add_assoc]⟩
set_option maxHeartbeats 4000000 in
set_option maxRecDepth 100000 in
theorem comparePaths_any (a b : ByteArray) (w : World) (ha : a.size < 4611686018427387904) : Calls Tryz.prog 62 #[.string a, .string b] w fun e w' => e = .returned (.int .i64 (cpP a b)) ∧ ∃ q, w' = w.drewN q := by
  obtain ⟨m, hm⟩ : ∃ m, m = min a.size b.size := ⟨_, rfl⟩
  have M : Hid (m = min a.size b.size) := Lib.hid hm
  have hmi : min (a.size : Int) (b.size : Int) = (m : Int) := by omega
  have IC : Hid (∀ W : World, Calls Tryz.prog 63 #[.int .i64 (a.size : Int), .int .i64 (b.size : Int)] W fun e w' => e = .returned (.int .i64 (Lib.compareInt (a.size : Int) (b.size : Int))) ∧ w' = W) := Lib.hid fun W => Tryz.cmp_Compare_int _ _ W
  clear hm
  go_enter Tryz.func62, Tryz.ntmps62
  go_wp2_with fail
  go_loopg [11] m (fun g si wr => ∃ (k : Nat), k ≤ m ∧ g = m - k ∧ si = .int .i64 k ∧ Hid (a.data.toList.take k = b.data.toList.take k ∧ ∃ q, wr = w.drewN q))
  case atStart => exact ⟨0, Nat.zero_le _, rfl, rfl, Lib.hid ⟨rfl, 0, rfl⟩⟩
  case round =>
    obtain ⟨k, hk, hg, rfl, R⟩ := hrel
    have G : Hid (gk = m - k) := Lib.hid hg
    clear hg
    by_cases hlt : k < m
    · have h1 : (k : Int) < (a.size : Int) := by have := M.out; omega
      have h2 : (k : Int) < (b.size : Int) := by have := M.out; omega
      have h3 : (k : Int) < (m : Int) := by omega
      have l1 : k < a.size := by omega
      have l2 : k < b.size := by omega
      have B1 : Hid (a[k] = a.data[k]!) := Lib.hid (by rw [getElem!_pos a.data k (by simpa using l1)]; rfl)
      have B2 : Hid (b[k] = b.data[k]!) := Lib.hid (by rw [getElem!_pos b.data k (by simpa using l2)]; rfl)
      have R1 : Hid (∀ W : World, Calls Tryz.prog 104 #[.int .u8 (a[k].toNat : Int)] W fun e w' => e = .returned (.int .u8 (rk (a[k].toNat : Int))) ∧ w' = W) := Lib.hid fun W => rank_any _ W
      have R2 : Hid (∀ W : World, Calls Tryz.prog 104 #[.int .u8 (b[k].toNat : Int)] W fun e w' => e = .returned (.int .u8 (rk (b[k].toNat : Int))) ∧ w' = W) := Lib.hid fun W => rank_any _ W
      have R3 : Hid (∀ W : World, Calls Tryz.prog 103 #[.int .u8 (rk (a[k].toNat : Int)), .int .u8 (rk (b[k].toNat : Int))] W fun e w' => e = .returned (.int .i64 (Lib.compareInt (rk (a[k].toNat : Int)) (rk (b[k].toNat : Int)))) ∧ w' = W) := Lib.hid fun W => cmp8_any _ _ W
      by_cases he : a[k] = b[k]
      · have g : ((a[k].toNat : Int) != (b[k].toNat : Int)) = false := by rw [he]; simp
        have E : Hid (a[k] = b[k]) := Lib.hid he
        clear he
        go_wp2_with fail
        go_quiet (fail)
        go_wp2_with fail
        go_roundg (m - (k + 1))
        case measure => have := G.out; omega
        case rel =>
          refine ⟨k + 1, by omega, rfl, by go_num, Lib.hid ⟨take_on l1 l2 R.out.1 (by rw [← B1.out, ← B2.out]; exact E.out), drew_on R.out.2⟩⟩
      · have g : ((a[k].toNat : Int) != (b[k].toNat : Int)) = true := by
          rw [bne_iff_ne]
          intro h
          exact he (UInt8.toNat_inj.1 (by exact_mod_cast h))
        have E : Hid (a[k] ≠ b[k]) := Lib.hid he
        clear he
        go_wp2_with fail
        go_quiet (fail)
        obtain ⟨V, hV⟩ : ∃ V, V = wr.drewN nq := ⟨_, rfl⟩
        have RV : Hid (∃ q, V = w.drewN q) := Lib.hid (by rw [hV]; exact drew_on R.out.2)
        rw [← hV]
        clear hV
        go_wp2_with fail
        go_quiet (first
          | (go_at_call 104; first | with_reducible exact Calls.quiet_of_same (R1.out _) | with_reducible exact Calls.quiet_of_same (R2.out _))
          | (go_at_call 103; with_reducible exact Calls.quiet_of_same (R3.out _)))
        go_wp2_with fail
        go_ret
        refine ⟨by rw [cpP_at l1 l2 R.out.1 (by rw [← B1.out, ← B2.out]; exact E.out), ← B1.out, ← B2.out]; rfl, drew_on RV.out⟩
    · go_wp2_with fail
      refine (IC.out _).mono ?_
      rintro e w1 ⟨rfl, rfl⟩
      go_wp2_with fail
      go_ret
      exact ⟨by rw [cpP_end (k := m) M.out (by have := R.out.1; rw [show k = m by omega] at this; exact this)]; rfl, R.out.2⟩
end Le
end Go.Proofs.YtodfmnbfbndkhaaGreatDoor
end S1

section S2
namespace Go.Proofs.YtodfmnbfbndkhaaGreatDoor
open Go.RowKit Go.Sort
namespace Le
/-- A row. -/
structure Us where
  x : Ky
  v : Int
def Us.val (u : Us) : Value := .agg #[.string u.x.p, .int .i64 u.x.k, .int .i64 u.x.a, .string u.x.r, .int .i64 u.v]
def cU (x y : Ky) : Int := orL [cpP x.p y.p, Lib.compareInt x.k y.k, Lib.compareInt x.a y.a, cmS x.r y.r]
theorem below_draws (Y : World) (n : Nat) : Below Y.heap.size Y (Y.drewN n) := ⟨rfl, rfl, rfl, Nat.le_refl _, fun _ _ => rfl⟩
set_option maxHeartbeats 8000000 in
set_option maxRecDepth 100000 in
theorem compareRows_any (a b : Us) (w : World) (ha : a.x.p.size < 4611686018427387904) : Calls Tryz.prog 32 #[a.val, b.val] w fun e w' => e = .returned (.int .i64 (cU a.x b.x)) ∧ Below w.heap.size w w' ∧ w.drawn ≤ w'.drawn := by
  obtain ⟨⟨ap, ak, aa, ar⟩, av⟩ := a
  obtain ⟨⟨bp, bk, ba, br⟩, bv⟩ := b
  unfold Us.val
  simp only at ha ⊢
  obtain ⟨X, hX⟩ : ∃ X, X = w.alloc (.cells #[.string ap, .int .i64 ak, .int .i64 aa, .string ar, .int .i64 av] 41) := ⟨_, rfl⟩
  obtain ⟨Y, hY⟩ : ∃ Y, Y = X.alloc (.cells #[.string bp, .int .i64 bk, .int .i64 ba, .string br, .int .i64 bv] 41) := ⟨_, rfl⟩
  have bX : Below w.heap.size w X := by rw [hX]; exact (Below.refl _ _).alloc (Nat.le_refl _) _
  have bY : Below X.heap.size X Y := by rw [hY]; exact (Below.refl _ _).alloc (Nat.le_refl _) _
  have x0 : X.cell? ⟨w.heap.size, 0, none⟩ = some (.string ap) := by rw [hX, World.cell?_alloc_new]; rfl
  have x1 : X.cell? ⟨w.heap.size, 1, none⟩ = some (.int .i64 ak) := by rw [hX, World.cell?_alloc_new]; rfl
  have x2 : X.cell? ⟨w.heap.size, 2, none⟩ = some (.int .i64 aa) := by rw [hX, World.cell?_alloc_new]; rfl
  have x3 : X.cell? ⟨w.heap.size, 3, none⟩ = some (.string ar) := by rw [hX, World.cell?_alloc_new]; rfl
  have y0 : Y.cell? ⟨X.heap.size, 0, none⟩ = some (.string bp) := by rw [hY, World.cell?_alloc_new]; rfl
  have y1 : Y.cell? ⟨X.heap.size, 1, none⟩ = some (.int .i64 bk) := by rw [hY, World.cell?_alloc_new]; rfl
  have y2 : Y.cell? ⟨X.heap.size, 2, none⟩ = some (.int .i64 ba) := by rw [hY, World.cell?_alloc_new]; rfl
  have y3 : Y.cell? ⟨X.heap.size, 3, none⟩ = some (.string br) := by rw [hY, World.cell?_alloc_new]; rfl
  have p0 := (bY.cell (block_lt_of_cell x0)).trans x0
  have p1 := (bY.cell (block_lt_of_cell x1)).trans x1
  have p2 := (bY.cell (block_lt_of_cell x2)).trans x2
  have p3 := (bY.cell (block_lt_of_cell x3)).trans x3
  have DR : Y.drawn = w.drawn := by rw [hY, hX]; rfl
  have BB : Hid (Below w.heap.size w Y ∧ Y.drawn = w.drawn) := Lib.hid ⟨bX.trans (bY.mono bX.size), DR⟩
  obtain ⟨I, hI⟩ : ∃ I, I = cpP ap bp := ⟨_, rfl⟩
  obtain ⟨S, hS⟩ : ∃ J, J = cmS ar br := ⟨_, rfl⟩
  have PC : Hid (∀ W : World, Calls Tryz.prog 62 #[.string ap, .string bp] W fun e w' => e = .returned (.int .i64 I) ∧ ∃ q, w' = W.drewN q) := Lib.hid fun W => by rw [hI]; exact comparePaths_any _ _ W ha
  have IC : Hid (∀ (i j : Int) (W : World), Calls Tryz.prog 63 #[.int .i64 i, .int .i64 j] W fun e w' => e = .returned (.int .i64 (Lib.compareInt i j)) ∧ w' = W) := Lib.hid fun i j W => Tryz.cmp_Compare_int i j W
  have SC : Hid (∀ W : World, Calls Tryz.prog 64 #[.string ar, .string br] W fun e w' => e = .returned (.int .i64 S) ∧ w' = W) := Lib.hid fun W => by rw [hS]; exact cmpS_any _ _ W
  have OR : Hid (∀ n : Nat, Calls Tryz.prog 61 #[.slice (some ⟨Y.heap.size, 0, none⟩) 4 4] ((Y.drewN n).alloc (.cells #[.int .i64 I, .int .i64 (Lib.compareInt ak bk), .int .i64 (Lib.compareInt aa ba), .int .i64 S] 3)) fun e w' => e = .returned (.int .i64 (orL [I, Lib.compareInt ak bk, Lib.compareInt aa ba, S])) ∧ w' = (Y.drewN n).alloc (.cells #[.int .i64 I, .int .i64 (Lib.compareInt ak bk), .int .i64 (Lib.compareInt aa ba), .int .i64 S] 3)) := Lib.hid fun n => or4_any (Y.drewN n).heap.size _ _ _ _ _ (by rw [World.cell?_alloc_new]; rfl) (by rw [World.cell?_alloc_new]; rfl) (by rw [World.cell?_alloc_new]; rfl) (by rw [World.cell?_alloc_new]; rfl)
  obtain ⟨R, hR⟩ : ∃ R, R = orL [I, Lib.compareInt ak bk, Lib.compareInt aa ba, S] := ⟨_, rfl⟩
  have EN : Hid (cU ⟨ap, ak, aa, ar⟩ ⟨bp, bk, ba, br⟩ = R) := Lib.hid (by unfold cU; rw [hR, hI, hS])
  rw [← hR] at OR
  rw [EN.out]
  have d0 : Y.drew.cell? ⟨w.heap.size, 0, none⟩ = some (.string ap) := p0
  have d1 : Y.drew.cell? ⟨w.heap.size, 1, none⟩ = some (.int .i64 ak) := p1
  have d2 : Y.drew.cell? ⟨w.heap.size, 2, none⟩ = some (.int .i64 aa) := p2
  have d3 : Y.drew.cell? ⟨w.heap.size, 3, none⟩ = some (.string ar) := p3
  have d4 : Y.drew.cell? ⟨X.heap.size, 0, none⟩ = some (.string bp) := y0
  have d5 : Y.drew.cell? ⟨X.heap.size, 1, none⟩ = some (.int .i64 bk) := y1
  have d6 : Y.drew.cell? ⟨X.heap.size, 2, none⟩ = some (.int .i64 ba) := y2
  have d7 : Y.drew.cell? ⟨X.heap.size, 3, none⟩ = some (.string br) := y3
  have hX' := hX.symm
  have hY' := hY.symm
  clear hX hY bX bY x0 x1 x2 x3 hI hS hR DR ha
  go_enter Tryz.func32, Tryz.ntmps32
  go_wp2_with fail
  go_region_held3 (fun W : World => W.cell? ⟨w.heap.size, 0, none⟩ = some (.string ap) ∧ W.cell? ⟨w.heap.size, 1, none⟩ = some (.int .i64 ak) ∧ W.cell? ⟨w.heap.size, 2, none⟩ = some (.int .i64 aa) ∧ W.cell? ⟨w.heap.size, 3, none⟩ = some (.string ar) ∧ W.cell? ⟨X.heap.size, 0, none⟩ = some (.string bp) ∧ W.cell? ⟨X.heap.size, 1, none⟩ = some (.int .i64 bk) ∧ W.cell? ⟨X.heap.size, 2, none⟩ = some (.int .i64 ba) ∧ W.cell? ⟨X.heap.size, 3, none⟩ = some (.string br)) (first | assumption | exact ⟨by assumption, by assumption, by assumption, by assumption, by assumption, by assumption, by assumption, by assumption⟩ | go_keep) (first
    | (go_at_call 62; refine (PC.out _).mono ?_; rintro e x5 ⟨rfl, q5, rfl⟩)
    | (go_at_call 63; refine (IC.out _ _ _).mono ?_; rintro e x6 ⟨rfl, rfl⟩)
    | (go_at_call 64; refine (SC.out _).mono ?_; rintro e x7 ⟨rfl, rfl⟩)
    | (go_at_call 61; refine (OR.out _).mono ?_; rintro e x8 ⟨rfl, rfl⟩))
  all_goals
    go_wp2_with fail
    go_ret
    exact ⟨rfl, (BB.out.1.trans ((below_draws _ _).mono BB.out.1.size)).alloc BB.out.1.size _, by rw [← BB.out.2]; exact Nat.le_add_right _ _⟩
end Le
end Go.Proofs.YtodfmnbfbndkhaaGreatDoor
end S2

section S3
namespace Go.Proofs.YtodfmnbfbndkhaaGreatDoor
open Go.RowKit Go.Sort Go.Lib
namespace Le
def Gd (w w' : World) : Prop := Below w.heap.size w w' ∧ w.drawn ≤ w'.drawn
theorem Gd.grow {w w' : World} (h : Gd w w') : ∃ q os, w' = grow (w.drewN q) os := by
  obtain ⟨h1, h2⟩ := h
  refine ⟨w'.drawn - w.drawn, w'.heap.extract w.heap.size w'.heap.size, ?_⟩
  obtain ⟨hp, tp, dr, os, ou⟩ := w
  obtain ⟨hp', tp', dr', os', ou'⟩ := w'
  have e1 := h1.tape
  have e2 := h1.os
  have e3 := h1.output
  have e4 := h1.size
  have e5 := h1.block
  simp only at e1 e2 e3 e4 e5 h2
  subst e1 e2 e3
  unfold Go.Sort.grow World.drewN
  simp only [World.mk.injEq, true_and, and_true]
  refine ⟨?_, by omega⟩
  apply Array.ext_getElem?
  intro k
  rw [Array.getElem?_append]
  split
  · rename_i hk; exact e5 k hk
  · rename_i hk
    rw [Array.getElem?_extract]
    split
    · rw [show hp.size + (k - hp.size) = k by omega]
    · rw [Array.getElem?_eq_none (by omega)]
/-- A text without the byte 0. -/
structure NZ (p : ByteArray) : Prop where
  n : p.size < 4611686018427387904
  z : ∀ b ∈ p.data.toList, b ≠ 0
/-- A row whose path is one. -/
def Ur : Type := { u : Us // NZ u.x.p }
def Ur.z : Ur := ⟨⟨⟨⟨#[]⟩, 0, 0, ⟨#[]⟩⟩, 0⟩, ⟨by decide, by simp⟩⟩
instance : Inhabited Ur := ⟨Ur.z⟩
def cR (x y : Ur) : Int := cU x.1.x y.1.x
theorem cmS_lt (x y : ByteArray) : cmS x y < 0 ↔ x.data.toList < y.data.toList := by
  unfold cmS
  rw [bytesLess_eq, bytesLess_eq, ByteArray.toList_eq, ByteArray.toList_eq]
  by_cases h : x.data.toList < y.data.toList
  · simp [h]
  · simp only [h, decide_false, Bool.false_eq_true, if_false, iff_false]
    split <;> omega
theorem cmS_zero (x y : ByteArray) : cmS x y = 0 ↔ x = y := by
  unfold cmS
  rw [bytesLess_eq, bytesLess_eq, ByteArray.toList_eq, ByteArray.toList_eq]
  constructor
  · intro h
    by_cases h1 : x.data.toList < y.data.toList
    · simp [h1] at h
    · by_cases h2 : y.data.toList < x.data.toList
      · simp [h1, h2] at h
      · exact ByteArray.ext (Array.ext' (List.le_antisymm (List.not_lt.1 h2) (List.not_lt.1 h1)))
  · rintro rfl
    simp [List.lt_irrefl]
def fB (b : UInt8) : Int := rk b.toNat
theorem fB_inj {x y : UInt8} (hx : x ≠ 0) (hy : y ≠ 0) (h : fB x = fB y) : x = y := by
  have x0 : (x.toNat : Int) ≠ 0 := fun e => hx (UInt8.toNat_inj.1 (by simpa using e))
  have y0 : (y.toNat : Int) ≠ 0 := fun e => hy (UInt8.toNat_inj.1 (by simpa using e))
  unfold fB rk at h
  refine UInt8.toNat_inj.1 ?_
  split at h <;> split at h <;> omega
theorem ci_lt (x y : Int) : Lib.compareInt x y < 0 ↔ x < y := by
  unfold Lib.compareInt
  split
  · simp [*]
  · split <;> simp <;> omega
theorem ci_zero (x y : Int) : Lib.compareInt x y = 0 ↔ x = y := by
  unfold Lib.compareInt
  split
  · simp; omega
  · split <;> simp <;> omega
theorem cpL_lt : ∀ (xs ys : List UInt8), (∀ b ∈ xs, b ≠ 0) → (∀ b ∈ ys, b ≠ 0) → (cpL xs ys < 0 ↔ xs.map fB < ys.map fB)
  | [], [], _, _ => by simp [cpL]
  | [], _ :: _, _, _ => by simp [cpL]
  | _ :: _, [], _, _ => by simp [cpL]
  | x :: xs, y :: ys, hx, hy => by
    have ih := cpL_lt xs ys (fun b h => hx b (List.mem_cons_of_mem _ h)) (fun b h => hy b (List.mem_cons_of_mem _ h))
    rw [List.map_cons, List.map_cons, List.cons_lt_cons_iff, cpL, ← ih]
    by_cases h : x = y
    · subst h
      rw [if_pos rfl]
      simp
    · rw [if_neg h]
      have hne : ¬ fB x = fB y := fun e => h (fB_inj (hx x (by simp)) (hy y (by simp)) e)
      show Lib.compareInt (fB x) (fB y) < 0 ↔ _
      rw [ci_lt]
      simp [hne]
theorem cpL_zero : ∀ (xs ys : List UInt8), (∀ b ∈ xs, b ≠ 0) → (∀ b ∈ ys, b ≠ 0) → (cpL xs ys = 0 ↔ xs.map fB = ys.map fB)
  | [], [], _, _ => by simp [cpL]
  | [], _ :: _, _, _ => by simp [cpL]
  | _ :: _, [], _, _ => by simp [cpL]
  | x :: xs, y :: ys, hx, hy => by
    have ih := cpL_zero xs ys (fun b h => hx b (List.mem_cons_of_mem _ h)) (fun b h => hy b (List.mem_cons_of_mem _ h))
    rw [List.map_cons, List.map_cons, List.cons.injEq, cpL, ← ih]
    by_cases h : x = y
    · subst h
      rw [if_pos rfl]
      simp
    · rw [if_neg h]
      have hne : ¬ fB x = fB y := fun e => h (fB_inj (hx x (by simp)) (hy y (by simp)) e)
      show Lib.compareInt (fB x) (fB y) = 0 ↔ _
      rw [ci_zero]
      simp [hne]
theorem map_fB_inj : ∀ {xs ys : List UInt8}, (∀ b ∈ xs, b ≠ 0) → (∀ b ∈ ys, b ≠ 0) → xs.map fB = ys.map fB → xs = ys
  | [], [], _, _, _ => rfl
  | [], _ :: _, _, _, h => by simp at h
  | _ :: _, [], _, _, h => by simp at h
  | x :: xs, y :: ys, hx, hy, h => by
    rw [List.map_cons, List.map_cons, List.cons.injEq] at h
    rw [fB_inj (hx x (by simp)) (hy y (by simp)) h.1, map_fB_inj (fun b h => hx b (List.mem_cons_of_mem _ h)) (fun b h => hy b (List.mem_cons_of_mem _ h)) h.2]
/-- By what rows are told apart. -/
def key (x : Ur) : List (List Int) × List UInt8 := ([x.1.x.p.data.toList.map fB, [x.1.x.k], [x.1.x.a]], x.1.x.r.data.toList)
theorem lt_cR (x y : Ur) : ltOf cR x y = decide ((key x).1 < (key y).1 ∨ ((key x).1 = (key y).1 ∧ (key x).2 < (key y).2)) := by
  unfold ltOf cR cU key
  refine decide_eq_decide.2 ?_
  have a := cpL_lt _ _ x.2.z y.2.z
  have b := cpL_zero _ _ x.2.z y.2.z
  have c := ci_lt x.1.x.k y.1.x.k
  have d := ci_zero x.1.x.k y.1.x.k
  have e := ci_lt x.1.x.a y.1.x.a
  have f := ci_zero x.1.x.a y.1.x.a
  have g := cmS_lt x.1.x.r y.1.x.r
  have h := cmS_zero x.1.x.r y.1.x.r
  simp only [orL, cpP, List.cons_lt_cons_iff, List.cons.injEq, and_true, ← a, ← b, ← c, ← d, ← e, ← f, ← g, List.lt_irrefl, and_false, or_false]
  by_cases h1 : cpL x.1.x.p.data.toList y.1.x.p.data.toList = 0
  · simp only [h1, if_true, true_and]
    by_cases h2 : compareInt x.1.x.k y.1.x.k = 0
    · simp only [h2, if_true, true_and]
      by_cases h3 : compareInt x.1.x.a y.1.x.a = 0
      · simp only [h3, if_true, true_and]
        by_cases h4 : cmS x.1.x.r y.1.x.r = 0
        · simp [h4]
        · simp [h4]
      · simp [h3]
    · simp [h2]
  · simp [h1]
theorem swoR : SWO (ltOf cR) where
  irrefl x := by rw [lt_cR]; refine decide_eq_false ?_; simp [List.lt_irrefl]
  trans x y z h1 h2 := by
    rw [lt_cR] at *
    have a := of_decide_eq_true h1
    have b := of_decide_eq_true h2
    refine decide_eq_true ?_
    rcases a with a | ⟨a, a'⟩ <;> rcases b with b | ⟨b, b'⟩
    · exact Or.inl (List.lt_trans a b)
    · exact Or.inl (by rw [← b]; exact a)
    · exact Or.inl (by rw [a]; exact b)
    · exact Or.inr ⟨a.trans b, List.lt_trans a' b'⟩
  ntrans x y z h1 h2 := by
    rw [lt_cR] at *
    have a := of_decide_eq_false h1
    have b := of_decide_eq_false h2
    refine decide_eq_false (fun c => ?_)
    have a1 := List.not_lt.1 (fun h => a (Or.inl h))
    have b1 := List.not_lt.1 (fun h => b (Or.inl h))
    rcases c with c | ⟨c, c'⟩
    · exact List.not_lt.2 (List.le_trans b1 a1) c
    · have e1 : (key y).1 = (key x).1 := List.le_antisymm a1 (by rw [c]; exact b1)
      have e2 : (key y).1 = (key z).1 := e1.trans c
      have a2 := List.not_lt.1 (fun h => a (Or.inr ⟨e1.symm, h⟩))
      have b2 := List.not_lt.1 (fun h => b (Or.inr ⟨e2, h⟩))
      exact List.not_lt.2 (List.le_trans b2 a2) c'
theorem getD_ge {α : Type} (l : List α) (k : Nat) (d : α) (h : k < l.length) : l.getD k d = l[k] := by rw [List.getD_eq_getElem?_getD, List.getElem?_eq_getElem h]; rfl
def Ur.c (x : Ur) : List Value := [.string x.1.x.p, .int .i64 x.1.x.k, .int .i64 x.1.x.a, .string x.1.x.r, .int .i64 x.1.v]
def kUse : Kd Ur := ⟨Ur.c, 5, 41, 31, 56, Ur.z⟩
theorem okUse : kUse.Ok := ⟨fun _ => rfl, by decide, fun x u hu => by simp only [kUse, Ur.c, List.mem_cons, List.not_mem_nil, or_false] at hu; rcases hu with rfl | rfl | rfl | rfl | rfl <;> rfl, Tryz.underlying31, ⟨_, (by kernel_rfl : (Tryz.prog.info? 41).map (fun i => (i.zero, i.size, i.bytes)) = some (some (.agg #[.string ⟨#[]⟩, .int .i64 0, .int .i64 0, .string ⟨#[]⟩, .int .i64 0]), 5, 56)), rfl⟩, by decide⟩
theorem us_size (w : World) : (Go.sizeOf 41).run Tryz.prog w = .ok 5 w := by kernel_rfl
theorem us_agg (w : World) : (isAgg 41).run Tryz.prog w = .ok true w := by go_simp
theorem enc_get (x : Ur) (j : Nat) (h : j < 5) : (kUse.c x)[j]? = some ((kUse.c x)[j]!) := by
  have hj : j = 0 ∨ j = 1 ∨ j = 2 ∨ j = 3 ∨ j = 4 := by omega
  rcases hj with rfl | rfl | rfl | rfl | rfl <;> rfl
theorem get_arr (l : List Ur) (k : Nat) (h : k < l.length) : l.toArray[k]! = l.getD k kUse.z := by
  rw [getElem!_pos l.toArray k (by simpa using h), getD_ge _ _ _ h]; simp
theorem holds_of {B : Nat} {w : World} {g n cap : Nat} {l : List Ur} (H : OwnR kUse B w (.slice (some ⟨g, 0, none⟩) n cap) l) : HoldsK kUse.c 5 w g 0 l.toArray := by
  intro j hj
  rw [size_flatK] at hj
  have hj' : j < l.length * 5 := by simpa using hj
  have hk : j / 5 < l.length := by omega
  obtain ⟨b', off', e', hc⟩ := (H.row okUse).at (j / 5) hk
  simp only [Option.some.injEq, Addr.mk.injEq, and_true] at e'
  obtain ⟨rfl, rfl⟩ := e'
  rw [get_flatK _ _ _ _ hj]
  have q := hc (j % 5) _ (by rw [← get_arr l (j / 5) hk]; exact enc_get _ _ (Nat.mod_lt _ (by decide)))
  have e : 0 + j / 5 * kUse.k + j % 5 = 0 + j := by show 0 + j / 5 * 5 + j % 5 = 0 + j; omega
  rw [e] at q
  refine ⟨q, ?_⟩
  obtain ⟨_, ⟨hv, _⟩ | ⟨g', cap', cur, hv, _, hg, _⟩⟩ := H
  · cases hv
  · simp only [Value.slice.injEq, Option.some.injEq, Addr.mk.injEq, and_true] at hv
    obtain ⟨rfl, _⟩ := hv
    simp [World.frozen?, hg]
theorem row_holds {w : World} {g cap : Nat} {d : Array Ur} (h : HoldsK kUse.c 5 w g 0 d) (hc : d.size ≤ cap) (hm : cap ≤ maxLen) : Row kUse w (.slice (some ⟨g, 0, none⟩) d.size cap) d.toList := by
  refine ⟨some ⟨g, 0, none⟩, cap, by simp, by simpa using hc, hm, (fun q => by cases q), fun k hk => ⟨g, 0, rfl, fun j y hy => ?_⟩⟩
  have hk' : k < d.size := by simpa using hk
  have hj : j < 5 := by
    rcases Nat.lt_or_ge j 5 with q | q
    · exact q
    · rw [List.getElem?_eq_none (by show 5 ≤ j; exact q)] at hy; cases hy
  have q := (h (k * 5 + j) (by rw [size_flatK]; omega)).1
  rw [get_flatK _ _ _ _ (by omega), show (k * 5 + j) / 5 = k by omega, show (k * 5 + j) % 5 = j by omega] at q
  have e : d[k]! = d.toList.getD k kUse.z := by
    rw [getElem!_pos d k hk', getD_ge _ _ _ hk]; simp
  rw [e] at q
  have e2 : (kUse.c (d.toList.getD k kUse.z))[j]! = y := by
    have q2 := enc_get (d.toList.getD k kUse.z) j hj
    rw [hy] at q2
    injection q2 with q2
    exact q2.symm
  rw [e2] at q
  rw [Nat.add_assoc]; exact q
theorem sort_grown (w : World) (g m : Nat) (d : Array Ur) (os : Array Obj) : w.grownBy (sortWorldK kUse.c 5 w g 0 m d os) (some g) := by
  refine ⟨rfl, rfl, rfl, ?_, fun k hk hn => ?_⟩
  · unfold sortWorldK grow putRowK putRow mapBlock Go.Sort.ahead; simp
  · unfold sortWorldK grow putRowK putRow mapBlock Go.Sort.ahead
    simp only [Array.getElem?_append, Array.size_modify]
    rw [if_pos hk, Array.getElem?_modify, if_neg (fun e => hn (by rw [e]))]
/-- The row rises. -/
def RisR (S : List Ur) : Prop := S.Pairwise fun x y => ltOf cR y x = false
theorem sort_any {w0 : World} {w : World} (hbw : RowKit.Below w0.heap.size w0 w) {g n cap : Nat} {l : List Ur} (H : OwnR kUse w0.heap.size w (.slice (some ⟨g, 0, none⟩) n cap) l) (hl : l.length < 4611686018427387904) :
    Calls Tryz.prog 31 #[.slice (some ⟨g, 0, none⟩) n cap, .func (.func 32) #[] #[]] w fun e w' => e = .returned (.tuple #[]) ∧ ∃ S : List Ur, S.Perm l ∧ RisR S ∧ Row kUse w' (.slice (some ⟨g, 0, none⟩) n cap) S ∧ w.grownBy w' (some g) := by
  have hn : n = l.length := by obtain ⟨_, _, e⟩ := H.slice; simp only [Value.slice.injEq] at e; exact e.2.1
  obtain ⟨_, _, e1, hc, hm⟩ := (H.row okUse).len
  simp only [Value.slice.injEq] at e1
  rw [← e1.2.2] at hc hm
  have hg : g < w.heap.size := (H.lt g rfl).2
  have hg0 : w0.heap.size ≤ g := (H.lt g rfl).1
  have hh := holds_of H
  have hcmp : CmpLays Tryz.prog 32 #[] kUse.c 5 cR g 0 l.toArray.size w := fun m os dk _ x y => by
    have gb := sort_grown w g m dk os
    have b1 : RowKit.Below w0.heap.size w0 (sortWorldK kUse.c 5 w g 0 m dk os) := hbw.trans ((RowKit.Below.refl _ w).grown gb hbw.size (fun k e => by cases e; exact hg0))
    refine (compareRows_any x.1 y.1 _ x.2.n).mono ?_
    rintro e w' ⟨rfl, h⟩
    exact ⟨rfl, Gd.grow h⟩
  have key := Tryz.slices_SortFunc 5 us_agg us_size kUse.c (fun _ => rfl) okUse.one cR swoR 32 #[] g 0 cap l.toArray w (enters_of Tryz.func32 (by kernel_rfl) rfl) hcmp hh hg (by simpa using hl)
  have es : l.toArray.size = n := by rw [hn]; simp
  rw [es] at key
  refine key.mono ?_
  rintro e w' ⟨rfl, d', m, os, hp, hs, rfl⟩
  have hsz : d'.size = n := by rw [hp.1, es]
  refine ⟨rfl, d'.toList, ?_, ?_, ?_, sort_grown w g m d' os⟩
  · have q := hp.2.2
    have e1 : d'.extract 0 n = d' := by rw [← hsz]; simp
    have e2 : l.toArray.extract 0 n = l.toArray := by rw [← es]; simp
    rw [e1, e2] at q
    exact q
  · refine List.pairwise_iff_getElem.2 (fun i j hi hj hij => ?_)
    have hj' : j < n := by rw [← hsz]; simpa using hj
    have hi' : i < d'.size := by simpa using hi
    have q := hs i j (Nat.zero_le _) hij hj'
    rw [getElem!_pos d' j (by simpa using hj), getElem!_pos d' i hi'] at q
    simpa using q
  · have h1 : HoldsK kUse.c 5 (putRowK kUse.c 5 (Sort.ahead w m) g 0 d') g 0 d' := holdsK_putRowK kUse.c 5 _ _ _ l.toArray d' (holdsK_ahead kUse.c 5 w m g 0 _ hh) (by rw [hsz, es])
    have h2 : HoldsK kUse.c 5 (sortWorldK kUse.c 5 w g 0 m d' os) g 0 d' := holdsK_grow kUse.c 5 _ os g 0 d' (by unfold putRowK putRow mapBlock Go.Sort.ahead; simpa using hg) h1
    have := row_holds h2 (cap := cap) (by rw [hsz, hn]; exact hc) hm
    rw [hsz] at this
    exact this
end Le
end Go.Proofs.YtodfmnbfbndkhaaGreatDoor
end S3
