/-
  The law's copies: ownObject, walked.
-/
import Derived.Test.YtehgnbgbmicheaaGreatDoorObRg
namespace Go.Proofs.YtehgnbgbmicheaaGreatDoor
open Go.RowKit
theorem grown_cell {w0 w1 : World} {r : Option Nat} (h : w0.grownBy w1 r) {b j : Nat} (hn : r ≠ some b) (hl : b < w0.heap.size) : w1.cell? ⟨b, j, none⟩ = w0.cell? ⟨b, j, none⟩ := by
  have := (grown_kept h).block b hl (fun e => hn e.symm)
  simp only [World.cell?, this]
theorem set_cell {W : World} {b bo i j : Nat} {y : Value} (hn : b ≠ bo) (hl : b < W.heap.size) : (W.setCell ⟨bo, i, none⟩ y).cell? ⟨b, j, none⟩ = W.cell? ⟨b, j, none⟩ := by
  have := (kept_set (F := fun k => k = bo) W ⟨bo, i, none⟩ y rfl).block b hl hn
  simp only [World.cell?, this]
set_option maxHeartbeats 16000000 in
set_option maxRecDepth 100000 in
theorem ownObject_any (x : Ob) (u v : Value) (w : World) (hx : ObV w u v x) (hl : x.ls.length * 32 ≤ 140737488355328) (hp : x.ps.length * 64 ≤ 140737488355328) (hq : ∀ y ∈ x.ps, y.r.length * 24 ≤ 140737488355328 ∧ y.l.length * 24 ≤ 140737488355328) :
    Calls Tryz.prog 6 #[x.val u v] w fun e w' => ∃ vl vp, e = .returned (x.val vl vp) ∧ ObO w.heap.size w' vl vp x ∧ Below w.heap.size w w' := by
  obtain ⟨op, on, ols, opr, odl, ops, ov⟩ := x
  simp only at hl hp hq
  have V := Lib.hid hx
  obtain ⟨la, lc, rfl, hlc, hcm⟩ := hx.l.len
  obtain ⟨pa, pc, rfl, hlp, hcp⟩ := hx.p.len
  unfold maxLen at hcm hcp
  unfold Ob.val
  simp only at hlc hlp V ⊢
  obtain ⟨nl, hnl⟩ : ∃ nl, nl = ols.length := ⟨_, rfl⟩
  obtain ⟨np, hnp⟩ : ∃ np, np = ops.length := ⟨_, rfl⟩
  rw [← hnl] at hlc hl V ⊢
  rw [← hnp] at hlp hp V ⊢
  have HN := Lib.hid (And.intro hnl hnp)
  have HQ := Lib.hid hq
  clear hx hnl hnp hq
  obtain ⟨X1, hX1⟩ : ∃ X1, X1 = w.alloc (.cells #[.string op, .string on, (.slice la nl lc), .int .i64 opr, .int .i64 odl, (.slice pa np pc), .int .i64 ov] 25) := ⟨_, rfl⟩
  obtain ⟨X2, hX2⟩ : ∃ X2, X2 = X1.alloc (.cells #[.string ⟨#[]⟩, .string ⟨#[]⟩, .slice none 0 0, .int .i64 0, .int .i64 0, .slice none 0 0, .int .i64 0] 25) := ⟨_, rfl⟩
  obtain ⟨X3, hX3⟩ : ∃ X3, X3 = X2.alloc (.cells #[.string op, .string on, .slice none 0 0, .int .i64 opr, .int .i64 odl, .slice none 0 0, .int .i64 ov] 25) := ⟨_, rfl⟩
  have s1 : X1.heap.size = w.heap.size + 1 := by rw [hX1]; simp
  have s2 : X2.heap.size = w.heap.size + 2 := by rw [hX2]; simp [s1]
  have B1 : Below w.heap.size w X1 := by rw [hX1]; exact (Below.refl _ w).alloc (Nat.le_refl _) _
  have B2 : Below X1.heap.size X1 X2 := by rw [hX2]; exact (Below.refl _ X1).alloc (Nat.le_refl _) _
  have B3 : Below X2.heap.size X2 X3 := by rw [hX3]; exact (Below.refl _ X2).alloc (Nat.le_refl _) _
  have r1 : X1.heap[w.heap.size]? = some (.cells #[.string op, .string on, (.slice la nl lc), .int .i64 opr, .int .i64 odl, (.slice pa np pc), .int .i64 ov] 25 (0, 0)) := by rw [hX1, heap_alloc_new]
  have r2 : X2.heap[w.heap.size + 1]? = some (.cells #[.string ⟨#[]⟩, .string ⟨#[]⟩, .slice none 0 0, .int .i64 0, .int .i64 0, .slice none 0 0, .int .i64 0] 25 (0, 0)) := by rw [hX2, ← s1, heap_alloc_new]
  have r3 : X3.heap[w.heap.size + 2]? = some (.cells #[.string op, .string on, .slice none 0 0, .int .i64 opr, .int .i64 odl, .slice none 0 0, .int .i64 ov] 25 (0, 0)) := by rw [hX3, ← s2, heap_alloc_new]
  have BB : Below w.heap.size w X3 := (B1.trans (B2.mono B1.size)).trans (B3.mono (by omega))
  obtain ⟨bo, hbo⟩ : ∃ bo, bo = w.heap.size + 1 + 1 := ⟨_, rfl⟩
  have T0 : Aside (OO w w.heap.size (w.heap.size + 1) bo ⟨op, on, ols, opr, odl, ops, ov⟩ (.slice la nl lc) (.slice pa np pc) (.slice none 0 0) (.slice none 0 0) [] [] [] X3) := by
    refine ⟨?_, ?_, by rw [hbo]; exact r3, OwnR.nil _ _ _, OwnR.nil _ _ _, ⟨rfl, fun k hk => by simp at hk⟩, BB, by omega⟩
    · rw [B3.block _ (by omega), B2.block _ (by omega)]; exact r1
    · rw [B3.block _ (by omega)]; exact r2
  have EX : Hid (X3 = ((w.alloc (.cells #[.string op, .string on, (.slice la nl lc), .int .i64 opr, .int .i64 odl, (.slice pa np pc), .int .i64 ov] 25)).alloc (.cells #[.string ⟨#[]⟩, .string ⟨#[]⟩, .slice none 0 0, .int .i64 0, .int .i64 0, .slice none 0 0, .int .i64 0] 25)).alloc (.cells #[.string op, .string on, .slice none 0 0, .int .i64 opr, .int .i64 odl, .slice none 0 0, .int .i64 ov] 25)) := Lib.hid (by rw [hX3, hX2, hX1])
  have HBO := Lib.hid hbo
  clear hX1 hX2 hX3 s1 s2 B1 B2 B3 r1 r2 r3 BB hbo
  go_enter Tryz.func6, Tryz.ntmps6
  go_wp2_with fail
  rw [← EX.out]
  clear EX
  rw [← HBO.out]
  go_loopg [4] nl (fun gg si wr => ∃ (k : Nat) (a : Option Addr) (c d : Nat), k ≤ nl ∧ gg = nl - k ∧ si = .int .i64 k ∧ OO w w.heap.size (w.heap.size + 1) bo ⟨op, on, ols, opr, odl, ops, ov⟩ (.slice la nl lc) (.slice pa np pc) (.slice a c d) (.slice none 0 0) (ols.take k) [] [] wr)
  case atStart => exact ⟨0, none, 0, 0, Nat.zero_le _, rfl, rfl, T0.out⟩
  case round =>
    clear T0
    obtain ⟨k, a, c, d, hk, hg, rfl, hlo⟩ := hrel
    have R : Aside (gk = nl - k ∧ OO w w.heap.size (w.heap.size + 1) bo ⟨op, on, ols, opr, odl, ops, ov⟩ (.slice la nl lc) (.slice pa np pc) (.slice a c d) (.slice none 0 0) (ols.take k) [] [] wr) := ⟨hg, hlo⟩
    have k2 : wr.cell? ⟨w.heap.size, 2, none⟩ = some (.slice la nl lc) := by rw [cell_of_row wr _ 2 _ _ _ hlo.a]; rfl
    clear hg hlo
    by_cases hlt : k < nl
    · have hlt' : (k : Int) < (nl : Int) := by omega
      have hlt2 : k < ols.length := by rw [← HN.out.1]; exact hlt
      obtain ⟨b, off, rfl, pc9⟩ := (V.out.l.below R.out.2.be).at k hlt2
      simp only at pc9
      have ST := Lib.hid (take_onez ols k kLb.z hlt2)
      have LN : Hid (((ols.take k).length + 1) * kLb.b ≤ 140737488355328) := Lib.hid (by rw [List.length_take]; show (min k ols.length + 1) * 32 ≤ 140737488355328; omega)
      obtain ⟨y, hy⟩ : ∃ y, y = ols.getD k kLb.z := ⟨_, rfl⟩
      rw [← hy] at pc9 ST
      clear hy hlt2
      obtain ⟨acc, hacc⟩ : ∃ acc, acc = ols.take k := ⟨_, rfl⟩
      rw [← hacc] at ST LN R
      clear hacc
      obtain ⟨y1, y2⟩ := y
      have TD := Lib.hid R.out.2.drew
      have dc : ∀ ad v, wr.cell? ad = some v → wr.drew.cell? ad = some v := fun ad v q => q
      have p0 := dc _ _ (show wr.cell? ⟨b, off + k * 2, none⟩ = some (.string y1) from pc9 0 _ rfl)
      have p1 := dc _ _ (show wr.cell? ⟨b, off + k * 2 + 1, none⟩ = some (.string y2) from pc9 1 _ rfl)
      have e2 : wr.drew.cell? ⟨bo, 2, none⟩ = some (.slice a c d) := by rw [cell_of_row wr.drew _ 2 _ _ _ TD.out.o]; rfl
      have a2 := dc _ _ k2
      have LB : Hid (w.heap.size ≤ wr.drew.heap.size) := Lib.hid TD.out.be.size
      have mA : ∀ ob, (wr.drew.alloc ob).cell? ⟨bo, 2, none⟩ = some (.slice a c d) := fun ob => by rw [((Below.refl wr.drew.heap.size wr.drew).alloc (Nat.le_refl _) ob).cell (block_lt_of_cell e2)]; exact e2
      have mB : ∀ ob, (wr.alloc ob).cell? ⟨bo, 2, none⟩ = some (.slice a c d) := fun ob => mA ob
      have e3 : wr.cell? ⟨bo, 2, none⟩ = some (.slice a c d) := e2
      clear pc9 dc
      go_wp2_with fail
      go_region_law (first | (refine step_rowB okLb rfl (.tmp 18) (.tmp 24) rfl (B := w.heap.size) (w0 := wr.drew) (v := .slice a c d) (es := acc) rfl TD.out.l LB.out (y1, y2) rfl rfl LN.out ?_; intro a3 n3 c3 w7 H7; have GN := Lib.hid (TD.out.rows (grown_kept H7.out.2.1) (own_tb TD.out.l _ (by decide))).2.2; have f2 : w7.frozen? ⟨bo, 2, none⟩ = false := frozen_of_row _ _ _ _ _ GN.out; have z2 : w7.cell? ⟨bo, 2, none⟩ = some (.slice a c d) := by rw [cell_of_row w7 _ 2 _ _ _ GN.out]; rfl))
      all_goals
        have S8 := Lib.hid (TD.out.label H7.out.1 H7.out.2.1)
        rw [← ST.out] at S8
        clear f2 z2 mA mB e3 e2 a2 k2 p0 p1
        obtain ⟨W4, hW4⟩ : ∃ W4, w7.setCell ⟨bo, 2, none⟩ (.slice a3 n3 c3) = W4 := ⟨_, rfl⟩
        rw [hW4] at S8
        rw [hW4]
        clear hW4
        go_wp2_with fail
        go_roundg (nl - (k + 1))
        case measure => have := R.out.1; omega
        case rel => exact ⟨k + 1, a3, n3, c3, by omega, rfl, by go_num, S8.out⟩
    · have T1 : Aside (OO w w.heap.size (w.heap.size + 1) bo ⟨op, on, ols, opr, odl, ops, ov⟩ (.slice la nl lc) (.slice pa np pc) (.slice a c d) (.slice none 0 0) ols [] [] wr) := by
        have := R.out.2; rw [List.take_of_length_le (by rw [← HN.out.1]; omega)] at this; exact this
      clear R
      go_wp2_with fail
      clear k2
      go_loopg [5] np (fun gg si ws => ∃ (k : Nat) (rs : List Pr) (a' : Option Addr) (c' d' : Nat), k ≤ np ∧ gg = np - k ∧ si = .int .i64 k ∧ OO w w.heap.size (w.heap.size + 1) bo ⟨op, on, ols, opr, odl, ops, ov⟩ (.slice la nl lc) (.slice pa np pc) (.slice a c d) (.slice a' c' d') ols rs (ops.take k) ws)
      case atStart => exact ⟨0, [], none, 0, 0, Nat.zero_le _, rfl, rfl, T1.out⟩
      case round =>
        clear T1
        obtain ⟨k, rs, a', c', d', hk', hg, rfl, hlo⟩ := hrel
        have R : Aside (gk = np - k ∧ OO w w.heap.size (w.heap.size + 1) bo ⟨op, on, ols, opr, odl, ops, ov⟩ (.slice la nl lc) (.slice pa np pc) (.slice a c d) (.slice a' c' d') ols rs (ops.take k) wr) := ⟨hg, hlo⟩
        have k5 : wr.cell? ⟨w.heap.size, 5, none⟩ = some (.slice pa np pc) := by rw [cell_of_row wr _ 5 _ _ _ hlo.a]; rfl
        clear hg hlo
        by_cases hlt : k < np
        · have hlt' : (k : Int) < (np : Int) := by omega
          have hlt2 : k < ops.length := by rw [← HN.out.2]; exact hlt
          obtain ⟨b, off, ra, rb, rfl, c0, c1, c2, hra, hrb⟩ := (V.out.p.below R.out.2.be).at k hlt2
          simp only at c0 c1 c2 hra hrb
          obtain ⟨y, hy⟩ : ∃ y, y = ops.getD k ⟨⟨#[]⟩, [], []⟩ := ⟨_, rfl⟩
          have HS := HQ.out _ (getD_in (d := ⟨⟨#[]⟩, [], []⟩) hlt2)
          have ST := Lib.hid (take_onez ops k ⟨⟨#[]⟩, [], []⟩ hlt2)
          have LN : Hid ((rs.length + 1) * kPt.b ≤ 140737488355328) := Lib.hid (by have := R.out.2.q.1; rw [List.length_take] at this; show (rs.length + 1) * 64 ≤ 140737488355328; omega)
          rw [← hy] at c0 hra hrb HS ST
          clear hy hlt2
          obtain ⟨xn, xr, xl⟩ := y
          obtain ⟨ra1, ra2, ra3⟩ := ra
          obtain ⟨rb1, rb2, rb3⟩ := rb
          unfold Sl.v at c1 c2 hra hrb
          simp only at c0 c1 c2 hra hrb HS
          obtain ⟨X, hX⟩ : ∃ X, X = wr.alloc (.cells #[.string xn, .slice ra1 ra2 ra3, .slice rb1 rb2 rb3] 52) := ⟨_, rfl⟩
          obtain ⟨b6, hb6⟩ : ∃ b6, b6 = wr.heap.size := ⟨_, rfl⟩
          have AX : Below wr.heap.size wr X := by rw [hX]; exact (Below.refl _ wr).alloc (Nat.le_refl _) _
          have TX : Hid (OO w w.heap.size (w.heap.size + 1) bo ⟨op, on, ols, opr, odl, ops, ov⟩ (.slice la nl lc) (.slice (some ⟨b, off, none⟩) np pc) (.slice a c d) (.slice a' c' d') ols rs (ops.take k) X) := Lib.hid (R.out.2.below AX)
          have TD := Lib.hid TX.out.drew
          have RW : Hid (Row kAm X.drew (.slice ra1 ra2 ra3) xr ∧ Row kAm X.drew (.slice rb1 rb2 rb3) xl ∧ xr.length * 24 ≤ 140737488355328 ∧ xl.length * 24 ≤ 140737488355328) := Lib.hid ⟨(hra.below AX).below ⟨rfl, rfl, rfl, Nat.le_refl _, fun _ _ => rfl⟩, (hrb.below AX).below ⟨rfl, rfl, rfl, Nat.le_refl _, fun _ _ => rfl⟩, HS.1, HS.2⟩
          have x0 : X.cell? ⟨b6, 0, none⟩ = some (.string xn) := by rw [hX, hb6, World.cell?_alloc_new]; rfl
          have x1 : X.cell? ⟨b6, 1, none⟩ = some (.slice ra1 ra2 ra3) := by rw [hX, hb6, World.cell?_alloc_new]; rfl
          have x2 : X.cell? ⟨b6, 2, none⟩ = some (.slice rb1 rb2 rb3) := by rw [hX, hb6, World.cell?_alloc_new]; rfl
          have d0 : X.drew.cell? ⟨b6, 0, none⟩ = some (.string xn) := x0
          have d1 : X.drew.cell? ⟨b6, 1, none⟩ = some (.slice ra1 ra2 ra3) := x1
          have d2 : X.drew.cell? ⟨b6, 2, none⟩ = some (.slice rb1 rb2 rb3) := x2
          have e5 : X.cell? ⟨bo, 5, none⟩ = some (.slice a' c' d') := by rw [cell_of_row X _ 5 _ _ _ TX.out.o]; rfl
          have g5 : X.drew.cell? ⟨bo, 5, none⟩ = some (.slice a' c' d') := e5
          have NE : Hid ((Value.slice a' c' d').ownBlock ≠ some b6 ∧ b6 ≠ bo) := Lib.hid ⟨fun e => by have := (R.out.2.p.lt _ e).2; omega, by have := lt_of_some R.out.2.o; omega⟩
          have hX' := hX.symm
          have hb6' := hb6.symm
          clear hX hb6 AX hra hrb HS
          go_wp2_with fail
          refine wp_region_noPanic ?_
          refine region_two (fun W' => W'.cell? ⟨b6, 0, none⟩ = some (.string xn) ∧ W'.cell? ⟨b6, 1, none⟩ = some (.slice ra1 ra2 ra3) ∧ W'.cell? ⟨b6, 2, none⟩ = some (.slice rb1 rb2 rb3)) (fun W' => W'.cell? ⟨bo, 5, none⟩ = some (.slice a' c' d')) 12 (by kernel_rfl) ?_
          refine two_take0 (i := 0) (oi := { dst := some 39, op := Op.fieldAddr 25 (Operand.tmp 3) 5, type := 0, pos := "law.go:29", after := #[], guard := none }) (v := ?v0) rfl (by kernel_rfl) (by kernel_rfl) (by kernel_rfl) rfl (fun _ _ _ h => h) (Or.inl ⟨by rfl, ?y0⟩) ⟨⟨d0, d1, d2⟩, fun _ => g5⟩ ?r0
          case y0 => (intro wS hS; obtain ⟨i0, i1, i2⟩ := hS; go_simp; (try with_reducible rfl))
          try simp only [Act.put, List.setIfInBounds_toArray, List.set_cons_zero, List.set_cons_succ]
          refine two_take1 (i := 1) (oi := { dst := some 40, op := Op.load 23 (Operand.tmp 39), type := 23, pos := "law.go:29", after := #[{ on := 0, ground := Ground.data }], guard := none }) (v := ?v1) { dst := some 51, op := Op.call { callee := Callee.builtin Builtin.append, args := #[Operand.tmp 40, Operand.tmp 50], argTypes := #[23, 23] }, type := 23, pos := "law.go:29", after := #[{ on := 1, ground := Ground.data }, { on := 11, ground := Ground.data }, { on := 9, ground := Ground.chain }], guard := none } rfl (by kernel_rfl) (by kernel_rfl) (by kernel_rfl) rfl rfl (by kernel_rfl) (by kernel_rfl) (fun _ _ _ h => h) (Or.inl ⟨by rfl, ?y1⟩) ⟨⟨d0, d1, d2⟩, fun _ => g5⟩ ?r1
          case y1 => (intro wS hS; go_simp; (try with_reducible rfl))
          try simp only [Act.put, List.setIfInBounds_toArray, List.set_cons_zero, List.set_cons_succ]
          refine two_take0 (i := 2) (oi := { dst := some 41, op := Op.fieldAddr 52 (Operand.tmp 6) 0, type := 0, pos := "law.go:29", after := #[], guard := none }) (v := ?v2) rfl (by kernel_rfl) (by kernel_rfl) (by kernel_rfl) rfl (fun _ _ _ h => h) (Or.inl ⟨by rfl, ?y2⟩) ⟨⟨d0, d1, d2⟩, fun _ => g5⟩ ?r2
          case y2 => (intro wS hS; obtain ⟨i0, i1, i2⟩ := hS; go_simp; (try with_reducible rfl))
          try simp only [Act.put, List.setIfInBounds_toArray, List.set_cons_zero, List.set_cons_succ]
          refine two_take0 (i := 3) (oi := { dst := some 42, op := Op.load 9 (Operand.tmp 41), type := 9, pos := "law.go:29", after := #[{ on := 2, ground := Ground.data }], guard := none }) (v := ?v3) rfl (by kernel_rfl) (by kernel_rfl) (by kernel_rfl) rfl (fun _ _ _ h => h) (Or.inl ⟨by rfl, ?y3⟩) ⟨⟨d0, d1, d2⟩, fun _ => g5⟩ ?r3
          case y3 => (intro wS hS; obtain ⟨i0, i1, i2⟩ := hS; go_simp; (try with_reducible rfl))
          try simp only [Act.put, List.setIfInBounds_toArray, List.set_cons_zero, List.set_cons_succ]
          refine two_take0 (i := 4) (oi := { dst := some 43, op := Op.fieldAddr 52 (Operand.tmp 6) 1, type := 0, pos := "law.go:29", after := #[], guard := none }) (v := ?v4) rfl (by kernel_rfl) (by kernel_rfl) (by kernel_rfl) rfl (fun _ _ _ h => h) (Or.inl ⟨by rfl, ?y4⟩) ⟨⟨d0, d1, d2⟩, fun _ => g5⟩ ?r4
          case y4 => (intro wS hS; obtain ⟨i0, i1, i2⟩ := hS; go_simp; (try with_reducible rfl))
          try simp only [Act.put, List.setIfInBounds_toArray, List.set_cons_zero, List.set_cons_succ]
          refine two_take0 (i := 5) (oi := { dst := some 44, op := Op.load 50 (Operand.tmp 43), type := 50, pos := "law.go:29", after := #[{ on := 4, ground := Ground.data }], guard := none }) (v := ?v5) rfl (by kernel_rfl) (by kernel_rfl) (by kernel_rfl) rfl (fun _ _ _ h => h) (Or.inl ⟨by rfl, ?y5⟩) ⟨⟨d0, d1, d2⟩, fun _ => g5⟩ ?r5
          case y5 => (intro wS hS; obtain ⟨i0, i1, i2⟩ := hS; go_simp; (try with_reducible rfl))
          try simp only [Act.put, List.setIfInBounds_toArray, List.set_cons_zero, List.set_cons_succ]
          refine two_take0 (i := 7) (oi := { dst := some 46, op := Op.fieldAddr 52 (Operand.tmp 6) 2, type := 0, pos := "law.go:29", after := #[], guard := none }) (v := ?v7) rfl (by kernel_rfl) (by kernel_rfl) (by kernel_rfl) rfl (fun _ _ _ h => h) (Or.inl ⟨by rfl, ?y7⟩) ⟨⟨d0, d1, d2⟩, fun _ => g5⟩ ?r7
          case y7 => (intro wS hS; obtain ⟨i0, i1, i2⟩ := hS; go_simp; (try with_reducible rfl))
          try simp only [Act.put, List.setIfInBounds_toArray, List.set_cons_zero, List.set_cons_succ]
          refine two_take0 (i := 8) (oi := { dst := some 47, op := Op.load 50 (Operand.tmp 46), type := 50, pos := "law.go:29", after := #[{ on := 7, ground := Ground.data }], guard := none }) (v := ?v8) rfl (by kernel_rfl) (by kernel_rfl) (by kernel_rfl) rfl (fun _ _ _ h => h) (Or.inl ⟨by rfl, ?y8⟩) ⟨⟨d0, d1, d2⟩, fun _ => g5⟩ ?r8
          case y8 => (intro wS hS; obtain ⟨i0, i1, i2⟩ := hS; go_simp; (try with_reducible rfl))
          try simp only [Act.put, List.setIfInBounds_toArray, List.set_cons_zero, List.set_cons_succ]
          refine two_one (j := 6) (o := { dst := some 45, op := Op.call { callee := Callee.value (Operand.func 19), args := #[Operand.tmp 44], argTypes := #[50] }, type := 50, pos := "law.go:29", after := #[{ on := 5, ground := Ground.data }], guard := none }) (by kernel_rfl) rfl (fun K hK => ?_)
          refine step_own rfl (.tmp 44) _ rfl (.slice ra1 ra2 ra3) xr X.drew rfl RW.out.1 RW.out.2.2.1 ?_
          intro a4 n4 c4 w1 H1
          have S1 := Lib.hid (TD.out.below H1.out.2)
          have q0 := (H1.out.2.cell (block_lt_of_cell d0)).trans d0
          have q1 := (H1.out.2.cell (block_lt_of_cell d1)).trans d1
          have q2 := (H1.out.2.cell (block_lt_of_cell d2)).trans d2
          have q5 := (H1.out.2.cell (block_lt_of_cell g5)).trans g5
          have RX := Lib.hid (RW.out.2.1.below H1.out.2)
          refine hK.out _ _ ⟨⟨q0, q1, q2⟩, fun _ => q5⟩ ?_
          clear hK K
          try simp only [Act.put, List.setIfInBounds_toArray, List.set_cons_zero, List.set_cons_succ]
          refine two_one (j := 9) (o := { dst := some 48, op := Op.call { callee := Callee.value (Operand.func 19), args := #[Operand.tmp 47], argTypes := #[50] }, type := 50, pos := "law.go:29", after := #[{ on := 8, ground := Ground.data }, { on := 6, ground := Ground.chain }], guard := none }) (by kernel_rfl) rfl (fun K hK => ?_)
          refine step_own rfl (.tmp 47) _ rfl (.slice rb1 rb2 rb3) xl w1 rfl RX.out RW.out.2.2.2 ?_
          intro a5 n5 c5 w2 H2
          have S2 := Lib.hid (S1.out.below H2.out.2)
          have t0 := (H2.out.2.cell (block_lt_of_cell q0)).trans q0
          have t1 := (H2.out.2.cell (block_lt_of_cell q1)).trans q1
          have t2 := (H2.out.2.cell (block_lt_of_cell q2)).trans q2
          have t5 := (H2.out.2.cell (block_lt_of_cell q5)).trans q5
          have O3 : Hid (OwnR kAm w.heap.size w2 (.slice a5 n5 c5) xl) := Lib.hid (H2.out.1.mono S1.out.be.size)
          have O4 : Hid (OwnR kAm w.heap.size w2 (.slice a4 n4 c4) xr) := Lib.hid ((H1.out.1.mono TD.out.be.size).below H2.out.2)
          have mA : ∀ ob, (w2.alloc ob).cell? ⟨bo, 5, none⟩ = some (.slice a' c' d') := (fun ob => by rw [((Below.refl w2.heap.size w2).alloc (Nat.le_refl _) ob).cell (block_lt_of_cell t5)]; exact t5)
          have AL : ∀ ob, (w2.alloc ob).cell? ⟨b6, 0, none⟩ = some (.string xn) ∧ (w2.alloc ob).cell? ⟨b6, 1, none⟩ = some (.slice ra1 ra2 ra3) ∧ (w2.alloc ob).cell? ⟨b6, 2, none⟩ = some (.slice rb1 rb2 rb3) := (fun ob => ⟨by rw [((Below.refl w2.heap.size w2).alloc (Nat.le_refl _) ob).cell (block_lt_of_cell t0)]; exact t0, by rw [((Below.refl w2.heap.size w2).alloc (Nat.le_refl _) ob).cell (block_lt_of_cell t1)]; exact t1, by rw [((Below.refl w2.heap.size w2).alloc (Nat.le_refl _) ob).cell (block_lt_of_cell t2)]; exact t2⟩)
          have LB : Hid (w.heap.size ≤ w2.heap.size) := Lib.hid S2.out.be.size
          refine hK.out _ _ ⟨⟨t0, t1, t2⟩, fun _ => t5⟩ ?_
          clear hK K
          try simp only [Act.put, List.setIfInBounds_toArray, List.set_cons_zero, List.set_cons_succ]
          refine two_take0 (i := 10) (oi := { dst := some 49, op := Op.build 52 #[(0, Operand.tmp 42), (1, Operand.tmp 45), (2, Operand.tmp 48)], type := 52, pos := "law.go:29", after := #[{ on := 3, ground := Ground.data }, { on := 6, ground := Ground.data }, { on := 9, ground := Ground.data }], guard := none }) (v := ?v10) rfl (by kernel_rfl) (by kernel_rfl) (by kernel_rfl) rfl (fun _ _ _ h => h) (Or.inl ⟨by rfl, ?y10⟩) ⟨⟨t0, t1, t2⟩, fun _ => t5⟩ ?r10
          case y10 => (intro wS hS; obtain ⟨i0, i1, i2⟩ := hS; go_simp; (try with_reducible rfl))
          try simp only [Act.put, List.setIfInBounds_toArray, List.set_cons_zero, List.set_cons_succ]
          refine two_one (j := 11) (o := { dst := some 50, op := Op.buildSlice 23 1 #[(0, Operand.tmp 49)], type := 23, pos := "law.go:29", after := #[{ on := 10, ground := Ground.data }], guard := none }) (by kernel_rfl) rfl (fun K hK => ?_)
          go_simp
          refine hK.out _ _ ⟨AL _, fun _ => mA _⟩ ?_
          clear hK K
          try simp only [Act.put, List.setIfInBounds_toArray, List.set_cons_zero, List.set_cons_succ]
          refine two_one (j := 12) (o := { dst := some 51, op := Op.call { callee := Callee.builtin Builtin.append, args := #[Operand.tmp 40, Operand.tmp 50], argTypes := #[23, 23] }, type := 23, pos := "law.go:29", after := #[{ on := 1, ground := Ground.data }, { on := 11, ground := Ground.data }, { on := 9, ground := Ground.chain }], guard := none }) (by kernel_rfl) rfl (fun K hK => ?_)
          refine step_rowB okPt rfl (.tmp 40) (.tmp 50) rfl (B := w.heap.size) (w0 := w2) (v := .slice a' c' d') (es := rs) rfl S2.out.p LB.out ⟨xn, ⟨a4, n4, c4⟩, ⟨a5, n5, c5⟩⟩ rfl rfl LN.out ?_
          intro a6 n6 c6 w7 H7
          have GN := Lib.hid (S2.out.rows (grown_kept H7.out.2.1) (own_tb S2.out.p _ (by decide))).2.2
          have f2 : w7.frozen? ⟨bo, 5, none⟩ = false := frozen_of_row _ _ _ _ _ GN.out
          have z2 : w7.cell? ⟨bo, 5, none⟩ = some (.slice a' c' d') := (by rw [cell_of_row w7 _ 5 _ _ _ GN.out]; rfl)
          have S7 : w7.cell? ⟨b6, 0, none⟩ = some (.string xn) ∧ w7.cell? ⟨b6, 1, none⟩ = some (.slice ra1 ra2 ra3) ∧ w7.cell? ⟨b6, 2, none⟩ = some (.slice rb1 rb2 rb3) := ⟨(grown_cell H7.out.2.1 NE.out.1 (block_lt_of_cell t0)).trans t0, (grown_cell H7.out.2.1 NE.out.1 (block_lt_of_cell t1)).trans t1, (grown_cell H7.out.2.1 NE.out.1 (block_lt_of_cell t2)).trans t2⟩
          have SS : ∀ y, (w7.setCell ⟨bo, 5, none⟩ y).cell? ⟨b6, 0, none⟩ = some (.string xn) ∧ (w7.setCell ⟨bo, 5, none⟩ y).cell? ⟨b6, 1, none⟩ = some (.slice ra1 ra2 ra3) ∧ (w7.setCell ⟨bo, 5, none⟩ y).cell? ⟨b6, 2, none⟩ = some (.slice rb1 rb2 rb3) := (fun y => ⟨(set_cell NE.out.2 (block_lt_of_cell S7.1)).trans S7.1, (set_cell NE.out.2 (block_lt_of_cell S7.2.1)).trans S7.2.1, (set_cell NE.out.2 (block_lt_of_cell S7.2.2)).trans S7.2.2⟩)
          refine hK.out _ _ ⟨S7, fun q => absurd (show (true : Bool) = false from q) (by decide)⟩ ?_
          clear hK K
          try simp only [Act.put, List.setIfInBounds_toArray, List.set_cons_zero, List.set_cons_succ]
          refine two_take0 (i := 13) (oi := { dst := some 52, op := Op.fieldAddr 25 (Operand.tmp 3) 5, type := 0, pos := "law.go:29", after := #[{ on := 0, ground := Ground.phase }, { on := 1, ground := Ground.phase }, { on := 2, ground := Ground.phase }, { on := 3, ground := Ground.phase }, { on := 4, ground := Ground.phase }, { on := 5, ground := Ground.phase }, { on := 6, ground := Ground.phase }, { on := 7, ground := Ground.phase }, { on := 8, ground := Ground.phase }, { on := 9, ground := Ground.phase }, { on := 10, ground := Ground.phase }, { on := 11, ground := Ground.phase }, { on := 12, ground := Ground.phase }], guard := none }) (v := ?v13) rfl (by kernel_rfl) (by kernel_rfl) (by kernel_rfl) rfl (fun _ _ _ h => h) (Or.inl ⟨by rfl, ?y13⟩) ⟨S7, fun q => absurd (show (true : Bool) = false from q) (by decide)⟩ ?r13
          case y13 => (intro wS hS; obtain ⟨i0, i1, i2⟩ := hS; go_simp; (try with_reducible rfl))
          try simp only [Act.put, List.setIfInBounds_toArray, List.set_cons_zero, List.set_cons_succ]
          refine two_one (j := 14) (o := { dst := none, op := Op.store 23 (Operand.tmp 52) (Operand.tmp 51), type := 0, pos := "law.go:29", after := #[{ on := 13, ground := Ground.data }, { on := 12, ground := Ground.data }, { on := 12, ground := Ground.chain }, { on := 0, ground := Ground.phase }, { on := 1, ground := Ground.phase }, { on := 2, ground := Ground.phase }, { on := 3, ground := Ground.phase }, { on := 4, ground := Ground.phase }, { on := 5, ground := Ground.phase }, { on := 6, ground := Ground.phase }, { on := 7, ground := Ground.phase }, { on := 8, ground := Ground.phase }, { on := 9, ground := Ground.phase }, { on := 10, ground := Ground.phase }, { on := 11, ground := Ground.phase }, { on := 12, ground := Ground.phase }], guard := none }) (by kernel_rfl) rfl (fun K hK => ?_)
          go_simp
          refine hK.out _ _ ⟨SS _, fun q => absurd (show (true : Bool) = false from q) (by decide)⟩ ?_
          clear hK K
          try simp only [Act.put, List.setIfInBounds_toArray, List.set_cons_zero, List.set_cons_succ]
          refine two_done (by kernel_rfl) ?_ _
          refine NoPanic.normal ?_
          · skip
            have S8 := Lib.hid (S2.out.part (y := ⟨xn, xr, xl⟩) H7.out.1 H7.out.2.1 rfl O4.out O3.out)
            rw [← ST.out] at S8
            clear f2 z2 mA t0 t1 t2 t5 q0 q1 q2 q5 x0 x1 x2 d0 d1 d2 e5 g5 k5 AL S7 SS
            obtain ⟨W4, hW4⟩ : ∃ W4, w7.setCell ⟨bo, 5, none⟩ (.slice a6 n6 c6) = W4 := ⟨_, rfl⟩
            rw [hW4] at S8
            rw [hW4]
            clear hW4
            go_wp2_with fail
            go_roundg (np - (k + 1))
            case measure => have := R.out.1; omega
            case rel => exact ⟨k + 1, _, a6, n6, c6, by omega, rfl, by go_num, S8.out⟩
        · have T6 : Hid (OO w w.heap.size (w.heap.size + 1) bo ⟨op, on, ols, opr, odl, ops, ov⟩ (.slice la nl lc) (.slice pa np pc) (.slice a c d) (.slice a' c' d') ols rs ops wr) := Lib.hid (by
            have := R.out.2; rw [List.take_of_length_le (by rw [← HN.out.2]; omega)] at this; exact this)
          have cc : ∀ j y, (#[.string op, .string on, .slice a c d, .int .i64 opr, .int .i64 odl, .slice a' c' d', .int .i64 ov] : Array Value)[j]? = some y → wr.cell? ⟨bo, j, none⟩ = some y := fun j y hy => by rw [cell_of_row wr _ j _ _ _ T6.out.o]; exact hy
          have e0 := cc 0 _ rfl
          have e1 := cc 1 _ rfl
          have e2 := cc 2 _ rfl
          have e3 := cc 3 _ rfl
          have e4 := cc 4 _ rfl
          have e5 := cc 5 _ rfl
          have e6 := cc 6 _ rfl
          have ON : Hid ((#[.string op, .string on, .slice a c d, .int .i64 opr, .int .i64 odl, .slice a' c' d', .int .i64 ov] : Array Value).all (·.oneCell') = true) := Lib.hid (by simp [Value.oneCell'])
          clear cc
          go_wp2_with (refine wpList_store_row rfl 25 (.tmp 2) (.tmp 53) rfl (w.heap.size + 1) #[.string op, .string on, .slice a c d, .int .i64 opr, .int .i64 odl, .slice a' c' d', .int .i64 ov] rfl rfl 25 #[.string ⟨#[]⟩, .string ⟨#[]⟩, .slice none 0 0, .int .i64 0, .int .i64 0, .slice none 0 0, .int .i64 0] T6.out.z size_obj rfl ON.out ?_)
          have D := T6.out.done #[.string op, .string on, .slice a c d, .int .i64 opr, .int .i64 odl, .slice a' c' d', .int .i64 ov]
          refine bodyPost_ret (results_cell_row rfl _ _ (w.heap.size + 1) 25 #[.string op, .string on, .slice a c d, .int .i64 opr, .int .i64 odl, .slice a' c' d', .int .i64 ov] (0, 0) _ rfl (setRow_heap _ _ _ _ _ _ T6.out.z) Tryz.underlying25 rfl size_obj) rfl ?_
          exact ⟨.slice a c d, .slice a' c' d', rfl, D.1, D.2⟩
end Go.Proofs.YtehgnbgbmicheaaGreatDoor
