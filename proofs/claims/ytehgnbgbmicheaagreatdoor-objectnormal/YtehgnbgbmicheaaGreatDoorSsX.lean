/-
  The stable sort at labels and at parts: its numbers.
-/
import Derived.Test.YtehgnbgbmicheaaGreatDoorSsW
import Derived.Test.YtehgnbgbmicheaaGreatDoorObD
import Derived.Test.YtehgnbgbmicheaaGreatDoorShelf
namespace Go.Proofs.YtehgnbgbmicheaaGreatDoor
open Go.Shelf Go.RowKit Go.Lib Go.Sort
namespace Ss
def rL : Nms := ⟨22, 3, 4, 44, 47, 0, 136, 100, 84, 60, 59⟩
theorem ldL : Ld Tryz.prog rL 2 := {
  mixed := by kernel_rfl
  t0 := Tryz.underlying0
  a0 := Tryz.isAgg0
  z0 := Tryz.sizeOf0
  v0 := Tryz.zeroValue0
  t3 := Tryz.underlying3
  a3 := Tryz.isAgg3
  z3 := Tryz.sizeOf3
  v3 := Tryz.zeroValue3
  t4 := Tryz.underlying4
  a4 := Tryz.isAgg4
  z4 := Tryz.sizeOf4
  v4 := Tryz.zeroValue4
  t5 := Tryz.underlying136
  a5 := Tryz.isAgg136
  z5 := Tryz.sizeOf136
  v5 := Tryz.zeroValue136
  t22 := Tryz.underlying22
  a22 := Tryz.isAgg22
  z22 := Tryz.sizeOf22
  v22 := Tryz.zeroValue22
  t25 := Tryz.underlying47
  a25 := Tryz.isAgg47
  z25 := Tryz.sizeOf47
  v25 := Tryz.zeroValue47
  aE := Tryz.isAgg44
  zE := Tryz.sizeOf44 }
theorem bLS : Bears Tryz.prog rL.fs (swapB rL) := ⟨_, by kernel_rfl, Tryz.func100⟩
theorem bLR : Bears Tryz.prog rL.fr (rotB rL) := ⟨_, by kernel_rfl, Tryz.func84⟩
theorem bLM : Bears Tryz.prog rL.fm (merB rL) := ⟨_, by kernel_rfl, Tryz.func60⟩
theorem bLT : Bears Tryz.prog 30 (staB rL) := ⟨_, by kernel_rfl, Tryz.func30⟩
def rP : Nms := ⟨23, 3, 4, 52, 71, 0, 136, 120, 101, 86, 85⟩
theorem ldP : Ld Tryz.prog rP 3 := {
  mixed := by kernel_rfl
  t0 := Tryz.underlying0
  a0 := Tryz.isAgg0
  z0 := Tryz.sizeOf0
  v0 := Tryz.zeroValue0
  t3 := Tryz.underlying3
  a3 := Tryz.isAgg3
  z3 := Tryz.sizeOf3
  v3 := Tryz.zeroValue3
  t4 := Tryz.underlying4
  a4 := Tryz.isAgg4
  z4 := Tryz.sizeOf4
  v4 := Tryz.zeroValue4
  t5 := Tryz.underlying136
  a5 := Tryz.isAgg136
  z5 := Tryz.sizeOf136
  v5 := Tryz.zeroValue136
  t22 := Tryz.underlying23
  a22 := Tryz.isAgg23
  z22 := Tryz.sizeOf23
  v22 := Tryz.zeroValue23
  t25 := Tryz.underlying71
  a25 := Tryz.isAgg71
  z25 := Tryz.sizeOf71
  v25 := Tryz.zeroValue71
  aE := Tryz.isAgg52
  zE := Tryz.sizeOf52 }
theorem bPS : Bears Tryz.prog rP.fs (swapB rP) := ⟨_, by kernel_rfl, Tryz.func120⟩
theorem bPR : Bears Tryz.prog rP.fr (rotB rP) := ⟨_, by kernel_rfl, Tryz.func101⟩
theorem bPM : Bears Tryz.prog rP.fm (merB rP) := ⟨_, by kernel_rfl, Tryz.func86⟩
theorem bPT : Bears Tryz.prog 61 (staB rP) := ⟨_, by kernel_rfl, Tryz.func61⟩
end Ss
end Go.Proofs.YtehgnbgbmicheaaGreatDoor
