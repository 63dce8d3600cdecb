/-
  cmp.Compare of texts; the stable sort of labels by their keys, and of parts by their names.
-/
import Derived.Test.YtehgnbgbmicheaaGreatDoorSsX
import Derived.Sort.Walk0
namespace Go.Proofs.YtehgnbgbmicheaaGreatDoor
open Go.Shelf Go.RowKit Go.Lib Go.Sort
namespace Ss
/-- What cmp.Compare tells of two texts. -/
def cmS (x y : ByteArray) : Int := if Op.bytesLess x.toList y.toList then -1 else if Op.bytesLess y.toList x.toList then 1 else 0
theorem cmS_lt (x y : ByteArray) : decide (cmS x y < 0) = decide (x.data.toList < y.data.toList) := by
  unfold cmS
  rw [← bytesLess_eq, ← ByteArray.toList_eq, ← ByteArray.toList_eq]
  cases Op.bytesLess x.toList y.toList with
  | true => simp
  | false => cases Op.bytesLess y.toList x.toList <;> simp
theorem swoS {α : Type} (key : α → ByteArray) : SWO (ltOf fun x y => cmS (key x) (key y)) where
  irrefl x := by show decide _ = _; rw [cmS_lt]; exact decide_eq_false (List.lt_irrefl _)
  trans x y z h1 h2 := by
    have q1 : decide _ = true := h1
    have q2 : decide _ = true := h2
    show decide _ = _
    rw [cmS_lt] at *
    exact decide_eq_true (List.lt_trans (of_decide_eq_true q1) (of_decide_eq_true q2))
  ntrans x y z h1 h2 := by
    have r1 : decide _ = false := h1
    have r2 : decide _ = false := h2
    show decide _ = _
    rw [cmS_lt] at *
    refine decide_eq_false (fun h => ?_)
    have q1 := List.not_lt.1 (of_decide_eq_false r1)
    have q2 := List.not_lt.1 (of_decide_eq_false r2)
    exact List.not_lt.2 (List.le_trans q2 q1) h
theorem nan_any (x : ByteArray) (w : World) : Calls Tryz.prog 31 #[.string x] w fun e w' => e = .returned (.bool false) ∧ w' = w := by
  have g1 : (x.toList == x.toList) = true := beq_self_eq_true _
  have g2 : (x.toList != x.toList) = false := bne_self_eq_false _
  go_enter Tryz.func31, Tryz.ntmps31
  go_wp2_with fail
  go_ret
  exact ⟨rfl, rfl⟩
theorem cmpS_any (x y : ByteArray) (w : World) : Calls Tryz.prog 17 #[.string x, .string y] w fun e w' => e = .returned (.int .i64 (cmS x y)) ∧ w' = w := by
  have C1 := Lib.hid (nan_any x w)
  have C2 := Lib.hid (nan_any y w)
  cases g : Op.bytesLess x.toList y.toList with
  | true =>
    have E : Hid (cmS x y = -1) := Lib.hid (by unfold cmS; rw [if_pos g])
    go_enter Tryz.func17, Tryz.ntmps17
    go_wp2_with fail
    refine C1.out.mono ?_
    rintro e w1 ⟨rfl, rfl⟩
    go_wp2_with fail
    refine C2.out.mono ?_
    rintro e w1 ⟨rfl, rfl⟩
    go_wp2_with fail
    go_ret
    rw [E.out]
    exact ⟨rfl, rfl⟩
  | false =>
    cases h : Op.bytesLess y.toList x.toList with
    | true =>
      have E : Hid (cmS x y = 1) := Lib.hid (by unfold cmS; rw [if_neg (by rw [g]; decide), if_pos h])
      have q : (x.toList == y.toList) = false := by
        rw [beq_eq_false_iff_ne]
        intro e
        rw [e, bytesLess_eq] at h
        exact absurd (of_decide_eq_true h) (List.lt_irrefl _)
      go_enter Tryz.func17, Tryz.ntmps17
      go_wp2_with fail
      refine C1.out.mono ?_
      rintro e w1 ⟨rfl, rfl⟩
      go_wp2_with fail
      refine C2.out.mono ?_
      rintro e w1 ⟨rfl, rfl⟩
      go_wp2_with fail
      go_ret
      rw [E.out]
      exact ⟨rfl, rfl⟩
    | false =>
      have E : Hid (cmS x y = 0) := Lib.hid (by unfold cmS; rw [if_neg (by rw [g]; decide), if_neg (by rw [h]; decide)])
      have q : (x.toList == y.toList) = true := by
        rw [beq_iff_eq]
        rw [bytesLess_eq] at g h
        exact List.le_antisymm (List.not_lt.1 (of_decide_eq_false h)) (List.not_lt.1 (of_decide_eq_false g))
      go_enter Tryz.func17, Tryz.ntmps17
      go_wp2_with fail
      refine C1.out.mono ?_
      rintro e w1 ⟨rfl, rfl⟩
      go_wp2_with fail
      refine C2.out.mono ?_
      rintro e w1 ⟨rfl, rfl⟩
      go_wp2_with fail
      go_ret
      rw [E.out]
      exact ⟨rfl, rfl⟩
theorem cmpL_any (x y : ByteArray × ByteArray) (W : World) : Calls Tryz.prog 16 #[.agg (kLb.c x).toArray, .agg (kLb.c y).toArray] W fun e w' => e = .returned (.int .i64 (cmS x.1 y.1)) ∧ ∃ q os, w' = grow (W.drewN q) os := by
  obtain ⟨xn, xv⟩ := x
  obtain ⟨yn, yv⟩ := y
  simp only [kLb]
  go_enter Tryz.func16, Tryz.ntmps16
  go_wp2_with fail
  refine (cmpS_any xn yn _).mono ?_
  rintro e w1 ⟨rfl, rfl⟩
  go_wp2_with fail
  go_ret
  exact ⟨rfl, 0, #[.cells #[.string xn, .string xv] 44, .cells #[.string yn, .string yv] 44], by rw [World.drewN_zero, alloc_eq_grow, alloc_eq_grow, grow_grow]; rfl⟩
theorem cmpP_any (x y : Pr) (W : World) : Calls Tryz.prog 34 #[.agg (kPt.c x).toArray, .agg (kPt.c y).toArray] W fun e w' => e = .returned (.int .i64 (cmS x.n y.n)) ∧ ∃ q os, w' = grow (W.drewN q) os := by
  obtain ⟨xn, ⟨xa, xb, xc⟩, ⟨xd, xe, xf⟩⟩ := x
  obtain ⟨yn, ⟨ya, yb, yc⟩, ⟨yd, ye, yf⟩⟩ := y
  simp only [kPt]
  go_enter Tryz.func34, Tryz.ntmps34
  go_wp2_with fail
  refine (cmpS_any xn yn _).mono ?_
  rintro e w1 ⟨rfl, rfl⟩
  go_wp2_with fail
  go_ret
  exact ⟨rfl, 0, #[.cells #[.string xn, .slice xa xb xc, .slice xd xe xf] 52, .cells #[.string yn, .slice ya yb yc, .slice yd ye yf] 52], by rw [World.drewN_zero, alloc_eq_grow, alloc_eq_grow, grow_grow]; rfl⟩
/-- slices.SortStableFunc of labels, of a list of the call's own. -/
theorem sortL_any {B : Nat} {w : World} {b n cap : Nat} {l : List (ByteArray × ByteArray)} (H : OwnR kLb B w (.slice (some ⟨b, 0, none⟩) n cap) l) (hl : l.length < 1152921504606846976) :
    Calls Tryz.prog 15 #[.slice (some ⟨b, 0, none⟩) n cap, .func (.func 16) #[] #[]] w fun e w' => e = .returned (.tuple #[]) ∧ ∃ D, Std (fun x y => cmS x.1 y.1) l D ∧ OwnR kLb B w' (.slice (some ⟨b, 0, none⟩) n cap) (D.map Prod.fst) ∧ w.grownBy w' (some b) := by
  have q := Lib.hid (stable_row okLb rL _ ldL bLT bLM bLR bLS _ Tryz.laysSlF020_f59 rfl rfl (enters_of Tryz.func59 (by kernel_rfl) rfl) (fun x y => cmS x.1 y.1) (swoS Prod.fst) 16 (enters_of Tryz.func16 (by kernel_rfl) rfl) cmpL_any H hl)
  go_enter Tryz.func15, Tryz.ntmps15
  go_wp2_with fail
  refine q.out.mono ?_
  rintro e w1 ⟨rfl, r⟩
  have R := Lib.hid r
  clear r
  go_wp2_with fail
  go_end0
  exact ⟨rfl, R.out⟩
theorem sortP_any {B : Nat} {w : World} {b n cap : Nat} {l : List Pr} (H : OwnR kPt B w (.slice (some ⟨b, 0, none⟩) n cap) l) (hl : l.length < 1152921504606846976) :
    Calls Tryz.prog 33 #[.slice (some ⟨b, 0, none⟩) n cap, .func (.func 34) #[] #[]] w fun e w' => e = .returned (.tuple #[]) ∧ ∃ D, Std (fun x y => cmS x.n y.n) l D ∧ OwnR kPt B w' (.slice (some ⟨b, 0, none⟩) n cap) (D.map Prod.fst) ∧ w.grownBy w' (some b) := by
  have q := Lib.hid (stable_row okPt rP _ ldP bPT bPM bPR bPS _ Tryz.laysSlF020_f85 rfl rfl (enters_of Tryz.func85 (by kernel_rfl) rfl) (fun x y => cmS x.n y.n) (swoS Pr.n) 34 (enters_of Tryz.func34 (by kernel_rfl) rfl) cmpP_any H hl)
  go_enter Tryz.func33, Tryz.ntmps33
  go_wp2_with fail
  refine q.out.mono ?_
  rintro e w1 ⟨rfl, r⟩
  have R := Lib.hid r
  clear r
  go_wp2_with fail
  go_end0
  exact ⟨rfl, R.out⟩
end Ss
end Go.Proofs.YtehgnbgbmicheaaGreatDoor
