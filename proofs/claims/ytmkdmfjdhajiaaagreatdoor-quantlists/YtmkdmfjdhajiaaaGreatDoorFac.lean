/-
  factorOf.
-/
import Derived.Test.YtmkdmfjdhajiaaaGreatDoorCut
import Derived.Deep.WholeRow
import Derived.OwnWalk
namespace Go.Proofs.YtmkdmfjdhajiaaaGreatDoor
open Go.RowKit
/-- The table of suffixes. -/
def sufArr : Array Value := #[.string ⟨#[109]⟩, .int .u64 1, .string ⟨#[]⟩, .int .u64 1000, .string ⟨#[107]⟩, .int .u64 1000000, .string ⟨#[77]⟩, .int .u64 1000000000, .string ⟨#[71]⟩, .int .u64 1000000000000, .string ⟨#[84]⟩, .int .u64 1000000000000000, .string ⟨#[80]⟩, .int .u64 1000000000000000000, .string ⟨#[75, 105]⟩, .int .u64 1024000, .string ⟨#[77, 105]⟩, .int .u64 1048576000, .string ⟨#[71, 105]⟩, .int .u64 1073741824000, .string ⟨#[84, 105]⟩, .int .u64 1099511627776000, .string ⟨#[80, 105]⟩, .int .u64 1125899906842624000]
theorem suf_0 (w : World) : (Instr.index 63 (.agg sufArr) (.int .i64 0)).run Tryz.prog w = .ok (.agg #[.string ⟨#[109]⟩, .int .u64 1]) w := by kernel_rfl
theorem suf_1 (w : World) : (Instr.index 63 (.agg sufArr) (.int .i64 1)).run Tryz.prog w = .ok (.agg #[.string ⟨#[]⟩, .int .u64 1000]) w := by kernel_rfl
theorem suf_2 (w : World) : (Instr.index 63 (.agg sufArr) (.int .i64 2)).run Tryz.prog w = .ok (.agg #[.string ⟨#[107]⟩, .int .u64 1000000]) w := by kernel_rfl
theorem suf_3 (w : World) : (Instr.index 63 (.agg sufArr) (.int .i64 3)).run Tryz.prog w = .ok (.agg #[.string ⟨#[77]⟩, .int .u64 1000000000]) w := by kernel_rfl
theorem suf_4 (w : World) : (Instr.index 63 (.agg sufArr) (.int .i64 4)).run Tryz.prog w = .ok (.agg #[.string ⟨#[71]⟩, .int .u64 1000000000000]) w := by kernel_rfl
theorem suf_5 (w : World) : (Instr.index 63 (.agg sufArr) (.int .i64 5)).run Tryz.prog w = .ok (.agg #[.string ⟨#[84]⟩, .int .u64 1000000000000000]) w := by kernel_rfl
theorem suf_6 (w : World) : (Instr.index 63 (.agg sufArr) (.int .i64 6)).run Tryz.prog w = .ok (.agg #[.string ⟨#[80]⟩, .int .u64 1000000000000000000]) w := by kernel_rfl
theorem suf_7 (w : World) : (Instr.index 63 (.agg sufArr) (.int .i64 7)).run Tryz.prog w = .ok (.agg #[.string ⟨#[75, 105]⟩, .int .u64 1024000]) w := by kernel_rfl
theorem suf_8 (w : World) : (Instr.index 63 (.agg sufArr) (.int .i64 8)).run Tryz.prog w = .ok (.agg #[.string ⟨#[77, 105]⟩, .int .u64 1048576000]) w := by kernel_rfl
theorem suf_9 (w : World) : (Instr.index 63 (.agg sufArr) (.int .i64 9)).run Tryz.prog w = .ok (.agg #[.string ⟨#[71, 105]⟩, .int .u64 1073741824000]) w := by kernel_rfl
theorem suf_10 (w : World) : (Instr.index 63 (.agg sufArr) (.int .i64 10)).run Tryz.prog w = .ok (.agg #[.string ⟨#[84, 105]⟩, .int .u64 1099511627776000]) w := by kernel_rfl
theorem suf_11 (w : World) : (Instr.index 63 (.agg sufArr) (.int .i64 11)).run Tryz.prog w = .ok (.agg #[.string ⟨#[80, 105]⟩, .int .u64 1125899906842624000]) w := by kernel_rfl
/-- It lies as its text lays it. -/
def Suf (w : World) : Prop := ∀ (j : Nat) (v : Value), sufArr.toList[j]? = some v → w.cell? ⟨1, j, none⟩ = some v
theorem Suf.below {w w' : World} (h : Suf w) (hb : Below w.heap.size w w') : Suf w' := fun j v hv => by
  rw [hb.cell (block_lt_of_cell (h j v hv))]; exact h j v hv
theorem suf_load {w : World} (h : Suf w) : (loadCellsFrom ⟨1, 0, none⟩ 0 24 #[]).run Tryz.prog w = .ok sufArr w := by
  have := run_loadCells_list (P := Tryz.prog) w ⟨1, 0, none⟩ sufArr.toList (fun j v hv => by
    have hadd : (⟨1, 0, none⟩ : Addr).add j = ⟨1, j, none⟩ := by unfold Addr.add; split <;> simp_all
    rw [hadd]; exact h j v hv)
  exact this
theorem suf_loadAt {w : World} (h : Suf w) : (Instr.loadAt 63 (.pointer (some ⟨1, 0, none⟩))).run Tryz.prog w = .ok (.agg sufArr) w := by
  have hl := suf_load h
  have hs : (Tryz.prog.info? 63).map (·.size) = some 24 := by kernel_rfl
  cases hq : Tryz.prog.info? 63 with
  | none => simp [hq] at hs
  | some i =>
    have hz : i.size = 24 := by simpa [hq] using hs
    simp only [Instr.loadAt, Instr.sureAddr, Sem.run_bind, Sem.run_pure, Result.andThen]
    simp [loadVar, sizeOf, typeInfo, hq, hz, loadCells, hl]
set_option maxRecDepth 100000 in
theorem load_suf {ops : Array Oper} {rest : List Oper} {o : Oper} {a : Act} {w : World} {Q : Exit → Act → World → Prop} (hgd : o.guard = none) (ho : o.op = .load 63 (.global 1)) (h : Suf w)
    (hk : wpList Tryz.prog ops Q rest (a.put o.dst (.agg sufArr)) w) : wpList Tryz.prog ops Q (o :: rest) a w := by
  refine wpList_plain hgd fun K hK => ?_
  unfold Oper.wp execOp
  have e : a.eval (.global 1) = .pointer (some ⟨1, 0, none⟩) := rfl
  simp only [ho, e, Sem.run_bind, Sem.run_pure, Result.andThen_ok, suf_loadAt h]
  exact hK _ _ hk
set_option maxHeartbeats 4000000 in
set_option maxRecDepth 100000 in
theorem factor_Ki (w : World) (h : Suf w) : Calls Tryz.prog 38 #[.string ⟨#[75, 105]⟩] w fun e w' => e = .returned (.int .u64 1024000) ∧ Below w.heap.size w w' := by
  have H : Hid (Suf w) := h
  have i0 := suf_0
  have i1 := suf_1
  have i2 := suf_2
  have i3 := suf_3
  have i4 := suf_4
  have i5 := suf_5
  have i6 := suf_6
  have i7 := suf_7
  have i8 := suf_8
  have i9 := suf_9
  have i10 := suf_10
  have i11 := suf_11
  clear h
  go_enter Tryz.func38, Tryz.ntmps38
  go_wp2_with (refine load_suf rfl rfl H.out ?_)
  clear H
  go_rounds 9
  all_goals go_ret
  exact ⟨rfl, by go_grown⟩
set_option maxHeartbeats 4000000 in
set_option maxRecDepth 100000 in
theorem factor_one (w : World) (h : Suf w) : Calls Tryz.prog 38 #[.string ⟨#[]⟩] w fun e w' => e = .returned (.int .u64 1000) ∧ Below w.heap.size w w' := by
  have H : Hid (Suf w) := h
  have i0 := suf_0
  have i1 := suf_1
  have i2 := suf_2
  have i3 := suf_3
  have i4 := suf_4
  have i5 := suf_5
  have i6 := suf_6
  have i7 := suf_7
  have i8 := suf_8
  have i9 := suf_9
  have i10 := suf_10
  have i11 := suf_11
  clear h
  go_enter Tryz.func38, Tryz.ntmps38
  go_wp2_with (refine load_suf rfl rfl H.out ?_)
  clear H
  go_rounds 3
  all_goals go_ret
  exact ⟨rfl, by go_grown⟩
set_option maxHeartbeats 4000000 in
set_option maxRecDepth 100000 in
theorem factor_K (w : World) (h : Suf w) : Calls Tryz.prog 38 #[.string ⟨#[75]⟩] w fun e w' => e = .returned (.int .u64 0) ∧ Below w.heap.size w w' := by
  have H : Hid (Suf w) := h
  have i0 := suf_0
  have i1 := suf_1
  have i2 := suf_2
  have i3 := suf_3
  have i4 := suf_4
  have i5 := suf_5
  have i6 := suf_6
  have i7 := suf_7
  have i8 := suf_8
  have i9 := suf_9
  have i10 := suf_10
  have i11 := suf_11
  clear h
  go_enter Tryz.func38, Tryz.ntmps38
  go_wp2_with (refine load_suf rfl rfl H.out ?_)
  clear H
  go_rounds 13
  all_goals go_ret
  exact ⟨rfl, by go_grown⟩
end Go.Proofs.YtmkdmfjdhajiaaaGreatDoor
