/-
  Print of every scope; the document's Valid, Print.
-/
import Derived.Test.YtibjmmfodelhjaaDoorScA
import Derived.Test.YtibjmmfodelhjaaDoorShelfI
import Derived.Laws.IdiomStrings
namespace Go.Proofs.YtibjmmfodelhjaaDoor
open Go.RowKit
open Go.Sort (grow)
/-- A scope's text. -/
def printT (k a : Int) : ByteArray := if k = 5 then tPriority ++ ⟨#[UInt8.ofNat (48 + a.toNat)]⟩ else kindT k.toNat
theorem scope_cases (k a : Int) (h : validB k a = true) : (k = 0 ∧ a = 0) ∨ (k = 1 ∧ a = 0) ∨ (k = 2 ∧ a = 0) ∨ (k = 3 ∧ a = 0) ∨ (k = 4 ∧ a = 0) ∨ (k = 5 ∧ a = 0) ∨ (k = 5 ∧ a = 1) ∨ (k = 5 ∧ a = 2) ∨ (k = 5 ∧ a = 3) ∨ (k = 5 ∧ a = 4) ∨ (k = 5 ∧ a = 5) ∨ (k = 5 ∧ a = 6) ∨ (k = 5 ∧ a = 7) ∨ (k = 5 ∧ a = 8) ∨ (k = 5 ∧ a = 9) := by
  unfold validB at h
  rcases of_decide_eq_true h with ⟨h1, h2, rfl⟩ | ⟨rfl, h1, h2⟩
  · have : k = 0 ∨ k = 1 ∨ k = 2 ∨ k = 3 ∨ k = 4 := by omega
    rcases this with rfl | rfl | rfl | rfl | rfl <;> simp
  · have : a = 0 ∨ a = 1 ∨ a = 2 ∨ a = 3 ∨ a = 4 ∨ a = 5 ∨ a = 6 ∨ a = 7 ∨ a = 8 ∨ a = 9 := by omega
    rcases this with rfl | rfl | rfl | rfl | rfl | rfl | rfl | rfl | rfl | rfl <;> simp
/-- What Print tells. -/
def prT (k a : Int) : ByteArray := if validB k a = true then printT k a else ⟨#[]⟩
def prE (k a : Int) : Int := if validB k a = true then 0 else 150
theorem pr_no {k a : Int} (h : validB k a = false) : prT k a = ⟨#[]⟩ ∧ prE k a = 150 := by unfold prT prE; rw [h]; exact ⟨rfl, rfl⟩
theorem pr_yes {k a : Int} (h : validB k a = true) : prT k a = printT k a ∧ prE k a = 0 := by unfold prT prE; rw [h]; exact ⟨rfl, rfl⟩
theorem conv_b (X : World) (g : Nat) (hg : g = X.heap.size) (c : UInt8) {n : Int} (hn : n = (c.toNat : Int)) : (convert 75 9 (.slice (some ⟨g, 0, none⟩) 1 1)).run Tryd.prog (X.alloc (.cells #[.int .u8 n] 5)) = .ok (.string ⟨#[c]⟩) (X.alloc (.cells #[.int .u8 n] 5)) := by
  subst hg hn
  exact run_convert_bytes_back _ 75 9 5 ⟨X.heap.size, 0, none⟩ 1 [c] Tryd.underlying75 Tryd.underlying5 Tryd.underlying9 (fun j hj => by
    have : j = 0 := by simp at hj; omega
    subst this
    show (X.alloc _).cell? ⟨X.heap.size, 0, none⟩ = _
    rw [World.cell?_alloc_new]; rfl)
theorem itoa_d (i : Nat) (hi : i < 10) (w : World) : Calls Tryd.prog 38 #[.int .i64 i] w fun e w' => e = .returned (.string ⟨#[UInt8.ofNat (48 + i)]⟩) ∧ w' = w := by
  have h := Tryd.strconv_Itoa_small i (by omega) w
  rw [Lib.decDigits, dif_pos hi] at h
  exact h

set_option maxHeartbeats 4000000 in
theorem refValid_any (k a : Int) (w : World) : Calls Tryd.prog 26 #[.agg #[.int .i64 k, .int .i64 a]] w fun e w' => e = .returned (.bool (validB k a)) ∧ Below w.heap.size w w' := by
  have B0 : Hid (∀ o, Below w.heap.size w (w.alloc o)) := Lib.hid fun o => (Below.refl _ w).alloc (Nat.le_refl _) _
  go_enter Tryd.func26, Tryd.ntmps26
  by_cases h5 : k = 5
  · subst h5
    by_cases h0 : 0 ≤ a
    · have g0 : decide (0 ≤ a) = true := decide_eq_true h0
      by_cases h9 : a ≤ 9
      · have g9 : decide (a ≤ 9) = true := decide_eq_true h9
        have E : Hid (validB 5 a = true) := Lib.hid (decide_eq_true (by omega))
        clear h0 h9
        go_wp2_with fail
        go_ret
        exact ⟨by rw [E.out]; rfl, B0.out _⟩
      · have g9 : decide (a ≤ 9) = false := decide_eq_false h9
        have E : Hid (validB 5 a = false) := Lib.hid (decide_eq_false (by omega))
        clear h0 h9
        go_wp2_with fail
        go_ret
        exact ⟨by rw [E.out]; rfl, B0.out _⟩
    · have g0 : decide (0 ≤ a) = false := decide_eq_false h0
      have E : Hid (validB 5 a = false) := Lib.hid (decide_eq_false (by omega))
      clear h0
      go_wp2_with fail
      go_ret
      exact ⟨by rw [E.out]; rfl, B0.out _⟩
  · have g5 : (k == 5) = false := by rw [beq_eq_false_iff_ne]; exact h5
    by_cases h0 : 0 ≤ k
    · have g0 : decide (0 ≤ k) = true := decide_eq_true h0
      by_cases hk : k < 5
      · have gk : decide (k < 5) = true := decide_eq_true hk
        by_cases ha : a = 0
        · subst ha
          have E : Hid (validB k 0 = true) := Lib.hid (decide_eq_true (by omega))
          clear h0 hk h5
          go_wp2_with fail
          go_ret
          exact ⟨by rw [E.out]; rfl, B0.out _⟩
        · have ga : (a == 0) = false := by rw [beq_eq_false_iff_ne]; exact ha
          have E : Hid (validB k a = false) := Lib.hid (decide_eq_false (by omega))
          clear h0 hk h5 ha
          go_wp2_with fail
          go_ret
          exact ⟨by rw [E.out]; rfl, B0.out _⟩
      · have gk : decide (k < 5) = false := decide_eq_false hk
        have E : Hid (validB k a = false) := Lib.hid (decide_eq_false (by omega))
        clear h0 hk h5
        go_wp2_with fail
        go_ret
        exact ⟨by rw [E.out]; rfl, B0.out _⟩
    · have g0 : decide (0 ≤ k) = false := decide_eq_false h0
      have E : Hid (validB k a = false) := Lib.hid (decide_eq_false (by omega))
      clear h0 h5
      go_wp2_with fail
      go_ret
      exact ⟨by rw [E.out]; rfl, B0.out _⟩

set_option maxHeartbeats 4000000 in
set_option maxRecDepth 100000 in
theorem print_any (k a : Int) (w : World) (h : Nms w) :
    Calls Tryd.prog 23 #[.agg #[.int .i64 k, .int .i64 a]] w fun e w' => e = .returned (.tuple #[.string (prT k a), .int .i64 (prE k a)]) ∧ Below w.heap.size w w' := by
  have B0 : Hid (Below w.heap.size w (w.alloc (.cells #[.int .i64 k, .int .i64 a] 41))) := Lib.hid ((Below.refl _ w).alloc (Nat.le_refl _) _)
  have N0 : Hid (Nms (w.alloc (.cells #[.int .i64 k, .int .i64 a] 41))) := Lib.hid (h.below B0.out)
  have VA := Lib.hid (valid_any k a _ N0.out)
  clear h
  go_enter Tryd.func23, Tryd.ntmps23
  go_wp2_with fail
  refine VA.out.mono ?_
  rintro e w1 ⟨rfl, hb⟩
  have c0 : w1.cell? ⟨w.heap.size, 0, none⟩ = some (.int .i64 k) := (hb.cell (p := ⟨w.heap.size, 0, none⟩) (by simp)).trans (by rw [World.cell?_alloc_new]; rfl)
  have c1 : w1.cell? ⟨w.heap.size, 1, none⟩ = some (.int .i64 a) := (hb.cell (p := ⟨w.heap.size, 1, none⟩) (by simp)).trans (by rw [World.cell?_alloc_new]; rfl)
  have NM := Lib.hid (N0.out.below hb)
  have B1 := Lib.hid (B0.out.trans (hb.mono B0.out.size))
  clear hb VA B0 N0
  cases hv : validB k a with
  | false =>
    have E := Lib.hid (pr_no hv)
    go_wp2_with fail
    go_ret2
    exact ⟨by rw [E.out.1, E.out.2]; rfl, B1.out⟩
  | true =>
    rcases scope_cases k a hv with ⟨rfl, rfl⟩ | ⟨rfl, rfl⟩ | ⟨rfl, rfl⟩ | ⟨rfl, rfl⟩ | ⟨rfl, rfl⟩ | ⟨rfl, rfl⟩ | ⟨rfl, rfl⟩ | ⟨rfl, rfl⟩ | ⟨rfl, rfl⟩ | ⟨rfl, rfl⟩ | ⟨rfl, rfl⟩ | ⟨rfl, rfl⟩ | ⟨rfl, rfl⟩ | ⟨rfl, rfl⟩ | ⟨rfl, rfl⟩
    all_goals
      have E := Lib.hid (pr_yes hv)
      clear hv
    · have n0 : w1.cell? ⟨0, 0, none⟩ = some (.string ⟨#[97, 108, 108]⟩) := (NM.out 0 (by decide)).1
      clear NM
      go_wp2_with fail
      go_ret2
      exact ⟨by rw [E.out.1, E.out.2]; rfl, B1.out⟩
    · have n0 : w1.cell? ⟨0, 2, none⟩ = some (.string ⟨#[98, 101, 115, 116]⟩) := (NM.out 1 (by decide)).1
      clear NM
      go_wp2_with fail
      go_ret2
      exact ⟨by rw [E.out.1, E.out.2]; rfl, B1.out⟩
    · have n0 : w1.cell? ⟨0, 4, none⟩ = some (.string ⟨#[110, 111, 116, 98, 101, 115, 116]⟩) := (NM.out 2 (by decide)).1
      clear NM
      go_wp2_with fail
      go_ret2
      exact ⟨by rw [E.out.1, E.out.2]; rfl, B1.out⟩
    · have n0 : w1.cell? ⟨0, 6, none⟩ = some (.string ⟨#[101, 110, 100, 115]⟩) := (NM.out 3 (by decide)).1
      clear NM
      go_wp2_with fail
      go_ret2
      exact ⟨by rw [E.out.1, E.out.2]; rfl, B1.out⟩
    · have n0 : w1.cell? ⟨0, 8, none⟩ = some (.string ⟨#[110, 111, 116, 101, 110, 100, 115]⟩) := (NM.out 4 (by decide)).1
      clear NM
      go_wp2_with fail
      go_ret2
      exact ⟨by rw [E.out.1, E.out.2]; rfl, B1.out⟩
    · have n0 : w1.cell? ⟨0, 10, none⟩ = some (.string ⟨#[112, 114, 105, 111, 114, 105, 116, 121, 61]⟩) := (NM.out 5 (by decide)).1
      clear NM
      have IT := Lib.hid (itoa_d 0 (by decide) w1)
      go_wp2_with fail
      refine IT.out.mono ?_
      rintro e w2 ⟨rfl, rfl⟩
      go_wp2_with fail
      go_ret2
      exact ⟨by rw [E.out.1, E.out.2]; rfl, B1.out⟩
    · have n0 : w1.cell? ⟨0, 10, none⟩ = some (.string ⟨#[112, 114, 105, 111, 114, 105, 116, 121, 61]⟩) := (NM.out 5 (by decide)).1
      clear NM
      have IT := Lib.hid (itoa_d 1 (by decide) w1)
      go_wp2_with fail
      refine IT.out.mono ?_
      rintro e w2 ⟨rfl, rfl⟩
      go_wp2_with fail
      go_ret2
      exact ⟨by rw [E.out.1, E.out.2]; rfl, B1.out⟩
    · have n0 : w1.cell? ⟨0, 10, none⟩ = some (.string ⟨#[112, 114, 105, 111, 114, 105, 116, 121, 61]⟩) := (NM.out 5 (by decide)).1
      clear NM
      have IT := Lib.hid (itoa_d 2 (by decide) w1)
      go_wp2_with fail
      refine IT.out.mono ?_
      rintro e w2 ⟨rfl, rfl⟩
      go_wp2_with fail
      go_ret2
      exact ⟨by rw [E.out.1, E.out.2]; rfl, B1.out⟩
    · have n0 : w1.cell? ⟨0, 10, none⟩ = some (.string ⟨#[112, 114, 105, 111, 114, 105, 116, 121, 61]⟩) := (NM.out 5 (by decide)).1
      clear NM
      have IT := Lib.hid (itoa_d 3 (by decide) w1)
      go_wp2_with fail
      refine IT.out.mono ?_
      rintro e w2 ⟨rfl, rfl⟩
      go_wp2_with fail
      go_ret2
      exact ⟨by rw [E.out.1, E.out.2]; rfl, B1.out⟩
    · have n0 : w1.cell? ⟨0, 10, none⟩ = some (.string ⟨#[112, 114, 105, 111, 114, 105, 116, 121, 61]⟩) := (NM.out 5 (by decide)).1
      clear NM
      have IT := Lib.hid (itoa_d 4 (by decide) w1)
      go_wp2_with fail
      refine IT.out.mono ?_
      rintro e w2 ⟨rfl, rfl⟩
      go_wp2_with fail
      go_ret2
      exact ⟨by rw [E.out.1, E.out.2]; rfl, B1.out⟩
    · have n0 : w1.cell? ⟨0, 10, none⟩ = some (.string ⟨#[112, 114, 105, 111, 114, 105, 116, 121, 61]⟩) := (NM.out 5 (by decide)).1
      clear NM
      have IT := Lib.hid (itoa_d 5 (by decide) w1)
      go_wp2_with fail
      refine IT.out.mono ?_
      rintro e w2 ⟨rfl, rfl⟩
      go_wp2_with fail
      go_ret2
      exact ⟨by rw [E.out.1, E.out.2]; rfl, B1.out⟩
    · have n0 : w1.cell? ⟨0, 10, none⟩ = some (.string ⟨#[112, 114, 105, 111, 114, 105, 116, 121, 61]⟩) := (NM.out 5 (by decide)).1
      clear NM
      have IT := Lib.hid (itoa_d 6 (by decide) w1)
      go_wp2_with fail
      refine IT.out.mono ?_
      rintro e w2 ⟨rfl, rfl⟩
      go_wp2_with fail
      go_ret2
      exact ⟨by rw [E.out.1, E.out.2]; rfl, B1.out⟩
    · have n0 : w1.cell? ⟨0, 10, none⟩ = some (.string ⟨#[112, 114, 105, 111, 114, 105, 116, 121, 61]⟩) := (NM.out 5 (by decide)).1
      clear NM
      have IT := Lib.hid (itoa_d 7 (by decide) w1)
      go_wp2_with fail
      refine IT.out.mono ?_
      rintro e w2 ⟨rfl, rfl⟩
      go_wp2_with fail
      go_ret2
      exact ⟨by rw [E.out.1, E.out.2]; rfl, B1.out⟩
    · have n0 : w1.cell? ⟨0, 10, none⟩ = some (.string ⟨#[112, 114, 105, 111, 114, 105, 116, 121, 61]⟩) := (NM.out 5 (by decide)).1
      clear NM
      have IT := Lib.hid (itoa_d 8 (by decide) w1)
      go_wp2_with fail
      refine IT.out.mono ?_
      rintro e w2 ⟨rfl, rfl⟩
      go_wp2_with fail
      go_ret2
      exact ⟨by rw [E.out.1, E.out.2]; rfl, B1.out⟩
    · have n0 : w1.cell? ⟨0, 10, none⟩ = some (.string ⟨#[112, 114, 105, 111, 114, 105, 116, 121, 61]⟩) := (NM.out 5 (by decide)).1
      clear NM
      have IT := Lib.hid (itoa_d 9 (by decide) w1)
      go_wp2_with fail
      refine IT.out.mono ?_
      rintro e w2 ⟨rfl, rfl⟩
      go_wp2_with fail
      go_ret2
      exact ⟨by rw [E.out.1, E.out.2]; rfl, B1.out⟩

set_option maxHeartbeats 4000000 in
set_option maxRecDepth 100000 in
theorem refPrint_any (k a : Int) (w : World) :
    Calls Tryd.prog 24 #[.agg #[.int .i64 k, .int .i64 a]] w fun e w' => e = .returned (.tuple #[.string (prT k a), .int .i64 (prE k a)]) ∧ Below w.heap.size w w' := by
  have B0 : Hid (Below w.heap.size w (w.alloc (.cells #[.int .i64 k, .int .i64 a] 41))) := Lib.hid ((Below.refl _ w).alloc (Nat.le_refl _) _)
  have VA := Lib.hid (refValid_any k a (w.alloc (.cells #[.int .i64 k, .int .i64 a] 41)))
  go_enter Tryd.func24, Tryd.ntmps24
  go_wp2_with fail
  refine VA.out.mono ?_
  rintro e w1 ⟨rfl, hb⟩
  have c0 : w1.cell? ⟨w.heap.size, 0, none⟩ = some (.int .i64 k) := (hb.cell (p := ⟨w.heap.size, 0, none⟩) (by simp)).trans (by rw [World.cell?_alloc_new]; rfl)
  have c1 : w1.cell? ⟨w.heap.size, 1, none⟩ = some (.int .i64 a) := (hb.cell (p := ⟨w.heap.size, 1, none⟩) (by simp)).trans (by rw [World.cell?_alloc_new]; rfl)
  have d0 := cell_al c0
  have d1 := cell_al c1
  have B1 := Lib.hid (B0.out.trans (hb.mono B0.out.size))
  clear hb VA B0
  cases hv : validB k a with
  | false =>
    have E := Lib.hid (pr_no hv)
    go_wp2_with fail
    go_ret2
    exact ⟨by rw [E.out.1, E.out.2]; rfl, B1.out⟩
  | true =>
    rcases scope_cases k a hv with ⟨rfl, rfl⟩ | ⟨rfl, rfl⟩ | ⟨rfl, rfl⟩ | ⟨rfl, rfl⟩ | ⟨rfl, rfl⟩ | ⟨rfl, rfl⟩ | ⟨rfl, rfl⟩ | ⟨rfl, rfl⟩ | ⟨rfl, rfl⟩ | ⟨rfl, rfl⟩ | ⟨rfl, rfl⟩ | ⟨rfl, rfl⟩ | ⟨rfl, rfl⟩ | ⟨rfl, rfl⟩ | ⟨rfl, rfl⟩
    all_goals
      have E := Lib.hid (pr_yes hv)
      clear hv
    · have BX : Hid (∀ o, Below w.heap.size w (w1.alloc o)) := Lib.hid fun o => B1.out.alloc B1.out.size _
      go_wp2_with fail
      go_ret2
      exact ⟨by rw [E.out.1, E.out.2]; rfl, BX.out _⟩
    · have BX : Hid (∀ o, Below w.heap.size w (w1.alloc o)) := Lib.hid fun o => B1.out.alloc B1.out.size _
      go_wp2_with fail
      go_ret2
      exact ⟨by rw [E.out.1, E.out.2]; rfl, BX.out _⟩
    · have BX : Hid (∀ o, Below w.heap.size w (w1.alloc o)) := Lib.hid fun o => B1.out.alloc B1.out.size _
      go_wp2_with fail
      go_ret2
      exact ⟨by rw [E.out.1, E.out.2]; rfl, BX.out _⟩
    · have BX : Hid (∀ o, Below w.heap.size w (w1.alloc o)) := Lib.hid fun o => B1.out.alloc B1.out.size _
      go_wp2_with fail
      go_ret2
      exact ⟨by rw [E.out.1, E.out.2]; rfl, BX.out _⟩
    · have BX : Hid (∀ o, Below w.heap.size w (w1.alloc o)) := Lib.hid fun o => B1.out.alloc B1.out.size _
      go_wp2_with fail
      go_ret2
      exact ⟨by rw [E.out.1, E.out.2]; rfl, BX.out _⟩
    · have BX : Hid (∀ o, Below w.heap.size w (w1.alloc o)) := Lib.hid fun o => B1.out.alloc B1.out.size _
      have BY : Hid (∀ o o', Below w.heap.size w ((w1.alloc o).alloc o')) := Lib.hid fun o o' => (BX.out o).alloc (BX.out o).size _
      have CV : ∀ ob, (convert 75 9 (.slice (some ⟨w1.heap.size + 1, 0, none⟩) 1 1)).run Tryd.prog ((w1.alloc ob).alloc (.cells #[.int .u8 48] 5)) = .ok (.string ⟨#[48]⟩) ((w1.alloc ob).alloc (.cells #[.int .u8 48] 5)) := fun ob => conv_b (w1.alloc ob) _ (by simp) 48 rfl
      go_wp2_with fail
      go_ret2
      exact ⟨by rw [E.out.1, E.out.2]; rfl, BY.out _ _⟩
    · have BX : Hid (∀ o, Below w.heap.size w (w1.alloc o)) := Lib.hid fun o => B1.out.alloc B1.out.size _
      have BY : Hid (∀ o o', Below w.heap.size w ((w1.alloc o).alloc o')) := Lib.hid fun o o' => (BX.out o).alloc (BX.out o).size _
      have CV : ∀ ob, (convert 75 9 (.slice (some ⟨w1.heap.size + 1, 0, none⟩) 1 1)).run Tryd.prog ((w1.alloc ob).alloc (.cells #[.int .u8 49] 5)) = .ok (.string ⟨#[49]⟩) ((w1.alloc ob).alloc (.cells #[.int .u8 49] 5)) := fun ob => conv_b (w1.alloc ob) _ (by simp) 49 rfl
      go_wp2_with fail
      go_ret2
      exact ⟨by rw [E.out.1, E.out.2]; rfl, BY.out _ _⟩
    · have BX : Hid (∀ o, Below w.heap.size w (w1.alloc o)) := Lib.hid fun o => B1.out.alloc B1.out.size _
      have BY : Hid (∀ o o', Below w.heap.size w ((w1.alloc o).alloc o')) := Lib.hid fun o o' => (BX.out o).alloc (BX.out o).size _
      have CV : ∀ ob, (convert 75 9 (.slice (some ⟨w1.heap.size + 1, 0, none⟩) 1 1)).run Tryd.prog ((w1.alloc ob).alloc (.cells #[.int .u8 50] 5)) = .ok (.string ⟨#[50]⟩) ((w1.alloc ob).alloc (.cells #[.int .u8 50] 5)) := fun ob => conv_b (w1.alloc ob) _ (by simp) 50 rfl
      go_wp2_with fail
      go_ret2
      exact ⟨by rw [E.out.1, E.out.2]; rfl, BY.out _ _⟩
    · have BX : Hid (∀ o, Below w.heap.size w (w1.alloc o)) := Lib.hid fun o => B1.out.alloc B1.out.size _
      have BY : Hid (∀ o o', Below w.heap.size w ((w1.alloc o).alloc o')) := Lib.hid fun o o' => (BX.out o).alloc (BX.out o).size _
      have CV : ∀ ob, (convert 75 9 (.slice (some ⟨w1.heap.size + 1, 0, none⟩) 1 1)).run Tryd.prog ((w1.alloc ob).alloc (.cells #[.int .u8 51] 5)) = .ok (.string ⟨#[51]⟩) ((w1.alloc ob).alloc (.cells #[.int .u8 51] 5)) := fun ob => conv_b (w1.alloc ob) _ (by simp) 51 rfl
      go_wp2_with fail
      go_ret2
      exact ⟨by rw [E.out.1, E.out.2]; rfl, BY.out _ _⟩
    · have BX : Hid (∀ o, Below w.heap.size w (w1.alloc o)) := Lib.hid fun o => B1.out.alloc B1.out.size _
      have BY : Hid (∀ o o', Below w.heap.size w ((w1.alloc o).alloc o')) := Lib.hid fun o o' => (BX.out o).alloc (BX.out o).size _
      have CV : ∀ ob, (convert 75 9 (.slice (some ⟨w1.heap.size + 1, 0, none⟩) 1 1)).run Tryd.prog ((w1.alloc ob).alloc (.cells #[.int .u8 52] 5)) = .ok (.string ⟨#[52]⟩) ((w1.alloc ob).alloc (.cells #[.int .u8 52] 5)) := fun ob => conv_b (w1.alloc ob) _ (by simp) 52 rfl
      go_wp2_with fail
      go_ret2
      exact ⟨by rw [E.out.1, E.out.2]; rfl, BY.out _ _⟩
    · have BX : Hid (∀ o, Below w.heap.size w (w1.alloc o)) := Lib.hid fun o => B1.out.alloc B1.out.size _
      have BY : Hid (∀ o o', Below w.heap.size w ((w1.alloc o).alloc o')) := Lib.hid fun o o' => (BX.out o).alloc (BX.out o).size _
      have CV : ∀ ob, (convert 75 9 (.slice (some ⟨w1.heap.size + 1, 0, none⟩) 1 1)).run Tryd.prog ((w1.alloc ob).alloc (.cells #[.int .u8 53] 5)) = .ok (.string ⟨#[53]⟩) ((w1.alloc ob).alloc (.cells #[.int .u8 53] 5)) := fun ob => conv_b (w1.alloc ob) _ (by simp) 53 rfl
      go_wp2_with fail
      go_ret2
      exact ⟨by rw [E.out.1, E.out.2]; rfl, BY.out _ _⟩
    · have BX : Hid (∀ o, Below w.heap.size w (w1.alloc o)) := Lib.hid fun o => B1.out.alloc B1.out.size _
      have BY : Hid (∀ o o', Below w.heap.size w ((w1.alloc o).alloc o')) := Lib.hid fun o o' => (BX.out o).alloc (BX.out o).size _
      have CV : ∀ ob, (convert 75 9 (.slice (some ⟨w1.heap.size + 1, 0, none⟩) 1 1)).run Tryd.prog ((w1.alloc ob).alloc (.cells #[.int .u8 54] 5)) = .ok (.string ⟨#[54]⟩) ((w1.alloc ob).alloc (.cells #[.int .u8 54] 5)) := fun ob => conv_b (w1.alloc ob) _ (by simp) 54 rfl
      go_wp2_with fail
      go_ret2
      exact ⟨by rw [E.out.1, E.out.2]; rfl, BY.out _ _⟩
    · have BX : Hid (∀ o, Below w.heap.size w (w1.alloc o)) := Lib.hid fun o => B1.out.alloc B1.out.size _
      have BY : Hid (∀ o o', Below w.heap.size w ((w1.alloc o).alloc o')) := Lib.hid fun o o' => (BX.out o).alloc (BX.out o).size _
      have CV : ∀ ob, (convert 75 9 (.slice (some ⟨w1.heap.size + 1, 0, none⟩) 1 1)).run Tryd.prog ((w1.alloc ob).alloc (.cells #[.int .u8 55] 5)) = .ok (.string ⟨#[55]⟩) ((w1.alloc ob).alloc (.cells #[.int .u8 55] 5)) := fun ob => conv_b (w1.alloc ob) _ (by simp) 55 rfl
      go_wp2_with fail
      go_ret2
      exact ⟨by rw [E.out.1, E.out.2]; rfl, BY.out _ _⟩
    · have BX : Hid (∀ o, Below w.heap.size w (w1.alloc o)) := Lib.hid fun o => B1.out.alloc B1.out.size _
      have BY : Hid (∀ o o', Below w.heap.size w ((w1.alloc o).alloc o')) := Lib.hid fun o o' => (BX.out o).alloc (BX.out o).size _
      have CV : ∀ ob, (convert 75 9 (.slice (some ⟨w1.heap.size + 1, 0, none⟩) 1 1)).run Tryd.prog ((w1.alloc ob).alloc (.cells #[.int .u8 56] 5)) = .ok (.string ⟨#[56]⟩) ((w1.alloc ob).alloc (.cells #[.int .u8 56] 5)) := fun ob => conv_b (w1.alloc ob) _ (by simp) 56 rfl
      go_wp2_with fail
      go_ret2
      exact ⟨by rw [E.out.1, E.out.2]; rfl, BY.out _ _⟩
    · have BX : Hid (∀ o, Below w.heap.size w (w1.alloc o)) := Lib.hid fun o => B1.out.alloc B1.out.size _
      have BY : Hid (∀ o o', Below w.heap.size w ((w1.alloc o).alloc o')) := Lib.hid fun o o' => (BX.out o).alloc (BX.out o).size _
      have CV : ∀ ob, (convert 75 9 (.slice (some ⟨w1.heap.size + 1, 0, none⟩) 1 1)).run Tryd.prog ((w1.alloc ob).alloc (.cells #[.int .u8 57] 5)) = .ok (.string ⟨#[57]⟩) ((w1.alloc ob).alloc (.cells #[.int .u8 57] 5)) := fun ob => conv_b (w1.alloc ob) _ (by simp) 57 rfl
      go_wp2_with fail
      go_ret2
      exact ⟨by rw [E.out.1, E.out.2]; rfl, BY.out _ _⟩

end Go.Proofs.YtibjmmfodelhjaaDoor
