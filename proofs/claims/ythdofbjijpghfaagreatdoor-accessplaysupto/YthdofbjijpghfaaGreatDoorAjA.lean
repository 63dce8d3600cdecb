/-
  Paths in the order of their lists of names; slices.SortFunc of paths by comparePaths.
-/
import Derived.Test.YthdofbjijpghfaaGreatDoorAcX
namespace Go.Proofs.YthdofbjijpghfaaGreatDoor
open Go.RowKit Go.Sort Go.Lib
namespace Ac
open L (Gd)
/-- A text that is a path. -/
def Pt : Type := { p : ByteArray // (L.splitO p).isSome = true }
def Pt.mk (p : ByteArray) (h : (L.splitO p).isSome = true) : Pt := ⟨p, h⟩
def Pt.z : Pt := ⟨L.pth [], by rw [L.splitO_good (ts := []) ⟨rfl, by decide, by decide⟩]; rfl⟩
instance : Inhabited Pt := ⟨Pt.z⟩
def cPt (x y : Pt) : Int := cmP x.1 y.1
def keyP (x : Pt) : List (List UInt8) := ky (L.splitT x.1)
theorem lt_cPt (x y : Pt) : ltOf cPt x y = decide (keyP x < keyP y) := by
  unfold ltOf cPt keyP cmP
  exact decide_eq_decide.2 (cmL_lt _ _)
theorem keyP_inj (x y : Pt) (h : keyP x = keyP y) : x = y := by
  obtain ⟨p, hx⟩ := x
  obtain ⟨q, hy⟩ := y
  have e := ky_inj h
  simp only at e
  obtain ⟨a, ha⟩ := Option.isSome_iff_exists.1 hx
  obtain ⟨b, hb⟩ := Option.isSome_iff_exists.1 hy
  unfold L.splitT at e
  rw [ha, hb] at e
  simp only [Option.getD_some] at e
  have : p = q := by rw [(L.splitO_some ha).1, (L.splitO_some hb).1, e]
  subst this
  rfl
theorem swoPt : SWO (ltOf cPt) where
  irrefl x := by rw [lt_cPt]; exact decide_eq_false (List.lt_irrefl _)
  trans x y z h1 h2 := by
    rw [lt_cPt] at *
    exact decide_eq_true (List.lt_trans (of_decide_eq_true h1) (of_decide_eq_true h2))
  ntrans x y z h1 h2 := by
    rw [lt_cPt] at *
    exact decide_eq_false (List.not_lt.2 (List.le_trans (List.not_lt.1 (of_decide_eq_false h2)) (List.not_lt.1 (of_decide_eq_false h1))))
def Pt.c (x : Pt) : List Value := [.string x.1]
def kPt : Kd Pt := ⟨Pt.c, 1, 9, 49, 16, Pt.z⟩
theorem okPt : kPt.Ok := ⟨fun _ => rfl, by decide, fun x u hu => by simp only [kPt, Pt.c, List.mem_cons, List.not_mem_nil, or_false] at hu; rcases hu with rfl; rfl, Tryz.underlying49, ⟨_, (by kernel_rfl : (Tryz.prog.info? 9).map (fun i => (i.zero, i.size, i.bytes)) = some (some (.string ⟨#[]⟩), 1, 16)), rfl⟩, by decide⟩
/-- The paths rise. -/
def RisP (S : List Pt) : Prop := S.Pairwise fun x y => ltOf cPt y x = false
theorem pt_size (w : World) : (Go.sizeOf 9).run Tryz.prog w = .ok 1 w := by kernel_rfl
theorem pt_agg (w : World) : (isAgg 9).run Tryz.prog w = .ok false w := by go_simp
end Ac
end Go.Proofs.YthdofbjijpghfaaGreatDoor
