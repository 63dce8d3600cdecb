/-
  ObBd, ObBe, ObQu, ObQv, ObQw, ObQx, ObQy, ObQz, ObLa, ObLb, ObLc, joined.
-/
import Derived.Test.YthomdgnmoapbkaaGreatDoorObF
import Derived.Test.YthomdgnmoapbkaaGreatDoorObU
import Derived.Deep.MidRow
section S0
namespace Go.Proofs.YthomdgnmoapbkaaGreatDoor
open Go.RowKit
structure Bd where
  p : ByteArray
  n : ByteArray
  s : ByteArray
  v : Int
def Bd.z : Bd := ⟨⟨#[]⟩, ⟨#[]⟩, ⟨#[]⟩, 0⟩
def Bd.val (b : Bd) : Value := .agg #[.string b.p, .string b.n, .string b.s, .int .i64 b.v]
structure Bd.Fit (b : Bd) : Prop where
  s : b.p.size ≤ 140737488355328 ∧ b.n.size ≤ 140737488355328 ∧ b.s.size ≤ 140737488355328
  n : -9223372036854775808 ≤ b.v ∧ b.v ≤ 9223372036854775807
def bdL (b : Bd) : List (List UInt8) := [tx b.p, tx b.n, tx b.s, [by8 b.v]]
def bdE (b : Bd) : List (List UInt8) := [66] :: [1] :: bdL b
def bdS (b : Bd) : Bool := namedB b.p b.n && (L.nameB b.s && inB b.v 0 3)
def bdR (b : Bd) : ByteArray × Nat := if bdS b = true then outR (bdE b) else (⟨#[]⟩, 130)
theorem size_bd : (Tryz.prog.info? 35).map (·.size) = some 4 := by kernel_rfl
set_option maxHeartbeats 4000000 in
set_option maxRecDepth 100000 in
theorem bindingStands_any (b : Bd) (w : World) (hm : L.HasM w) : Calls Tryz.prog 46 #[b.val] w fun e w' => e = .returned (.bool (bdS b)) ∧ Below w.heap.size w w' := by
  obtain ⟨p, n, s, v⟩ := b
  obtain ⟨S, hS⟩ : ∃ S, S = bdS ⟨p, n, s, v⟩ := ⟨_, rfl⟩
  have ES : Aside (S = (namedB p n && (L.nameB s && inB v 0 3))) := hS
  rw [← hS]
  clear hS
  unfold Bd.val
  simp only
  obtain ⟨X, hX⟩ : ∃ X, X = w.alloc (.cells #[.string p, .string n, .string s, .int .i64 v] 35) := ⟨_, rfl⟩
  have AX : Hid (Below w.heap.size w X) := Lib.hid (by rw [hX]; exact (Below.refl _ w).alloc (Nat.le_refl _) _)
  have CX : Hid (∀ i y, #[Value.string p, .string n, .string s, .int .i64 v][i]? = some y → X.cell? ⟨w.heap.size, i, none⟩ = some y) := Lib.hid fun i y h => by
    rw [hX, World.cell?_alloc_new]; exact h
  have d0 := CX.out 0 _ rfl
  have d1 := CX.out 1 _ rfl
  have NA := Lib.hid (named_any p n X (hm.below AX.out))
  have hX' := hX.symm
  clear hX hm
  go_enter Tryz.func46, Tryz.ntmps46
  go_wp2_with fail
  refine NA.out.mono ?_
  rintro e w1 ⟨rfl, hb⟩
  have B1 := Lib.hid hb
  clear hb NA hX' d0 d1
  cases h1 : namedB p n with
  | false =>
    have F : Aside (S = false) := by show _ = _; rw [ES.out, h1]; rfl
    go_wp2_with fail
    go_ret
    exact ⟨by rw [F.out]; rfl, AX.out.trans (B1.out.mono AX.out.size)⟩
  | true =>
  have d2 := (B1.out.cell (block_lt_of_cell (CX.out 2 _ rfl))).trans (CX.out 2 _ rfl)
  have NB := Lib.hid (L.name_any s w1)
  go_wp2_with fail
  refine NB.out.mono ?_
  rintro e w2 ⟨rfl, hb⟩
  have B2 := Lib.hid (B1.out.trans (hb.mono B1.out.size))
  clear hb NB d2
  cases h2 : L.nameB s with
  | false =>
    have F : Aside (S = false) := by show _ = _; rw [ES.out, h2]; simp
    go_wp2_with fail
    go_ret
    exact ⟨by rw [F.out]; rfl, AX.out.trans (B2.out.mono AX.out.size)⟩
  | true =>
  have d3 := (B2.out.cell (block_lt_of_cell (CX.out 3 _ rfl))).trans (CX.out 3 _ rfl)
  have W3 := Lib.hid (within_any v 0 3 w2)
  have F : Aside (S = inB v 0 3) := by show _ = _; rw [ES.out, h1, h2]; rfl
  go_wp2_with fail
  refine W3.out.mono ?_
  rintro e w3 ⟨rfl, hw3⟩
  subst hw3
  clear d3 W3
  go_wp2_with fail
  go_ret
  exact ⟨by rw [F.out]; rfl, AX.out.trans (B2.out.mono AX.out.size)⟩
set_option maxHeartbeats 4000000 in
set_option maxRecDepth 100000 in
theorem layBinding_any (B g : Nat) (v : Value) (s : WS) (b : Bd) (w : World) (H : WAt B w g v s) (hf : b.Fit) (hn : 0 ≤ b.v ∧ b.v ≤ 9) :
    Calls Tryz.prog 48 #[.pointer (some ⟨g, 0, none⟩), b.val] w fun e w' => e = .returned (.tuple #[]) ∧ Laid B g v ((bdL b).foldl WS.lay s) w w' := by
  have SZ := Lib.hid hf.s
  obtain ⟨bp, bn, bs, bv⟩ := b
  simp only at SZ hn
  have hPR := by8_c8 bv hn.1 hn.2
  obtain ⟨c, hc⟩ : ∃ c, c = by8 bv := ⟨_, rfl⟩
  rw [← hc] at hPR
  have EL : Aside (bdL ⟨bp, bn, bs, bv⟩ = [tx bp, tx bn, tx bs, [c]]) := by show _ = _; rw [hc]; rfl
  have P9 : Aside (bv = c8 c) := hPR
  have pr9 : 0 ≤ bv ∧ bv ≤ 255 := by omega
  obtain ⟨cs, hcs⟩ : ∃ cs : Array Value, cs = #[.string bp, .string bn, .string bs, .int .i64 bv] := ⟨_, rfl⟩
  obtain ⟨bo, hbo⟩ : ∃ bo, bo = w.heap.size := ⟨_, rfl⟩
  have W0 : Aside (LX w B g v s [(bo, cs, 35)] (w.alloc (.cells #[.string bp, .string bn, .string bs, .int .i64 bv] 35))) := by
    rw [hcs, hbo]; exact (Laid.refl H).lx.box _ _
  have CSA : Aside (cs = #[.string bp, .string bn, .string bs, .int .i64 bv]) := hcs
  clear hcs H hf hn hc hPR
  have c0 := W0.out.cell (List.mem_cons_self ..) (i := 0) (by rw [CSA.out]; rfl)
  rw [hbo] at c0
  unfold Bd.val
  simp only
  rw [EL.out]
  go_enter Tryz.func48, Tryz.ntmps48
  go_wp2_with fail
  rw [← hbo]
  clear hbo
  refine (W0.out.calls (fun v' hv => wText_any B g v' _ bp _ SZ.out.1 hv)).mono ?_
  rintro e w1 ⟨rfl, hw⟩
  have W1 : Aside (LX w B g v (s.lay (tx bp)) [(bo, cs, 35)] w1) := hw
  clear hw W0 c0
  have c1 := W1.out.cell (List.mem_cons_self ..) (i := 1) (by rw [CSA.out]; rfl)
  go_wp2_with fail
  refine (W1.out.calls (fun v' hv => wText_any B g v' _ bn _ SZ.out.2.1 hv)).mono ?_
  rintro e w2 ⟨rfl, hw⟩
  have W2 : Aside (LX w B g v ((s.lay (tx bp)).lay (tx bn)) [(bo, cs, 35)] w2) := hw
  clear hw W1 c1
  have c2 := W2.out.cell (List.mem_cons_self ..) (i := 2) (by rw [CSA.out]; rfl)
  go_wp2_with fail
  refine (W2.out.calls (fun v' hv => wText_any B g v' _ bs _ SZ.out.2.2 hv)).mono ?_
  rintro e w3 ⟨rfl, hw⟩
  have W3 : Aside (LX w B g v (((s.lay (tx bp)).lay (tx bn)).lay (tx bs)) [(bo, cs, 35)] w3) := hw
  clear hw W2 c2
  have c3 := W3.out.cell (List.mem_cons_self ..) (i := 3) (by rw [CSA.out]; rfl)
  go_wp2_with fail
  refine (W3.out.calls (fun v' hv => wByte_eq P9.out B g v' _ _ hv)).mono ?_
  rintro e w4 ⟨rfl, hw⟩
  have W4 : Aside (Laid B g v ([tx bp, tx bn, tx bs, [c]].foldl WS.lay s) w w4) := hw.laid
  clear hw W3 c3
  go_wp2_with fail
  go_end0
  exact ⟨rfl, W4.out⟩
set_option maxHeartbeats 2000000 in
theorem layB1_any (w0 : World) (bo B g : Nat) (v : Value) (s : WS) (b : Bd) (w : World) (H : WAt B w g v s) (h0 : Below w0.heap.size w0 w) (hf : b.Fit) (hn : 0 ≤ b.v ∧ b.v ≤ 9)
    (hb : w0.heap[bo]? = some (.cells #[.string b.p, .string b.n, .string b.s, .int .i64 b.v] 35 (0, 0))) :
    Calls Tryz.prog 47 #[.pointer (some ⟨g, 0, none⟩), .pointer (some ⟨bo, 0, none⟩)] w fun e w' => e = .returned (.tuple #[]) ∧ Laid B g v ((bdL b).foldl WS.lay s) w w' := by
  have LA := Lib.hid (layBinding_any B g v s b w H hf hn)
  have hc : ∀ i y, (#[.string b.p, .string b.n, .string b.s, .int .i64 b.v] : Array Value)[i]? = some y → w.cell? ⟨bo, i, none⟩ = some y := fun i y hy => by
    have q : w0.cell? ⟨bo, i, none⟩ = some y := by rw [cell_of_row w0 bo i _ _ _ hb]; exact hy
    exact (h0.cell (block_lt_of_cell q)).trans q
  have d0 := hc 0 _ rfl
  have d1 := hc 1 _ rfl
  have d2 := hc 2 _ rfl
  have d3 := hc 3 _ rfl
  unfold Bd.val at LA
  clear H h0 hf hn hb hc
  go_enter Tryz.func47, Tryz.ntmps47
  go_wp2_with fail
  refine LA.out.mono ?_
  rintro e w1 ⟨rfl, hl⟩
  have L1 := Lib.hid hl
  clear hl d0 d1 d2 d3
  go_wp2_with fail
  go_end0
  exact ⟨rfl, L1.out⟩
set_option maxHeartbeats 4000000 in
set_option maxRecDepth 100000 in
theorem bytesOfB_any (bo : Nat) (b : Bd) (w : World) (hf : b.Fit) (hn : 0 ≤ b.v ∧ b.v ≤ 9) (hb : w.heap[bo]? = some (.cells #[.string b.p, .string b.n, .string b.s, .int .i64 b.v] 35 (0, 0))) :
    Calls Tryz.prog 26 #[.bool true, .int .u8 66, .func (.func 47) #[] #[.pointer (some ⟨bo, 0, none⟩)]] w fun e w' => e = .returned (.tuple #[.string (outR (bdE b)).1, .int .i64 (outR (bdE b)).2]) ∧ Below w.heap.size w w' := by
  have V := Lib.hid (And.intro hf (And.intro hn hb))
  clear hf hn hb
  go_enter Tryz.func26, Tryz.ntmps26
  go_wp2_with fail
  refine (newWriter_any 8192 w).mono ?_
  rintro e w3 ⟨rfl, hw, _, hb⟩
  obtain ⟨B, hB⟩ : ∃ B, B = w.heap.size := ⟨_, rfl⟩
  rw [← hB] at hw ⊢
  have W3 : Aside (WW w B B wr0 w3) := ⟨⟨_, hw⟩, by rw [hB]; exact Nat.le_refl _, hb⟩
  clear hw hb hB
  go_wp2_with fail
  refine (W3.out.calls (fun v hv => wByte_eq (n := 66) (c := 66) rfl B B v _ w3 hv)).mono ?_
  rintro e w4 ⟨rfl, hw⟩
  have W4 : Aside (WW w B B (wr0.lay [66]) w4) := hw
  clear hw W3
  go_wp2_with fail
  refine (W4.out.calls (fun v hv => wByte_eq (n := 1) (c := 1) rfl B B v _ w4 hv)).mono ?_
  rintro e w5 ⟨rfl, hw⟩
  have W5 : Aside (WW w B B ((wr0.lay [66]).lay [1]) w5) := hw
  clear hw W4
  go_wp2_with fail
  refine (W5.out.calls (fun v hv => layB1_any w bo B B v _ b w5 hv W5.out.be V.out.1 V.out.2.1 V.out.2.2)).mono ?_
  rintro e w6 ⟨rfl, hw⟩
  have W6 : Aside (WW w B B ((bdE b).foldl WS.lay wr0) w6) := hw
  clear hw W5
  go_wp2_with fail
  obtain ⟨u, hu⟩ := W6.out.wr
  refine (wOut_any _ _ _ _ w6 hu).mono ?_
  rintro e w7 ⟨v2, rfl, ho, hb⟩
  have hc := convT ho.bytes
  have A : Aside (Below w.heap.size w w7) := W6.out.be.trans (hb.mono W6.out.be.size)
  have E : Aside _ := lays_out (bdE b)
  clear ho hb hu
  go_wp2_with fail
  go_ret2
  exact ⟨by rw [← E.out]; rfl, A.out⟩
set_option maxHeartbeats 4000000 in
set_option maxRecDepth 100000 in
theorem encodeB_any (b : Bd) (w : World) (hm : L.HasM w) (hf : b.Fit) :
    Calls Tryz.prog 21 #[b.val] w fun e w' => e = .returned (.tuple #[.string (bdR b).1, .int .i64 (bdR b).2]) ∧ Below w.heap.size w w' := by
  obtain ⟨X, hX⟩ : ∃ X, X = w.alloc (.cells #[.string b.p, .string b.n, .string b.s, .int .i64 b.v] 35) := ⟨_, rfl⟩
  have AX : Hid (Below w.heap.size w X) := Lib.hid (by rw [hX]; exact (Below.refl _ w).alloc (Nat.le_refl _) _)
  have HX : X.heap[w.heap.size]? = some (.cells #[.string b.p, .string b.n, .string b.s, .int .i64 b.v] 35 (0, 0)) := by rw [hX, heap_alloc_new]
  have hc : ∀ i y, (#[.string b.p, .string b.n, .string b.s, .int .i64 b.v] : Array Value)[i]? = some y → X.cell? ⟨w.heap.size, i, none⟩ = some y := fun i y hy => by
    rw [cell_of_row X w.heap.size i _ _ _ HX]; exact hy
  have d0 := hc 0 _ rfl
  have d1 := hc 1 _ rfl
  have d2 := hc 2 _ rfl
  have d3 := hc 3 _ rfl
  have V := Lib.hid (And.intro hf HX)
  have OS := Lib.hid (bindingStands_any b X (hm.below AX.out))
  unfold Bd.val at OS ⊢
  have hX' := hX.symm
  clear hX HX hc hf hm
  go_enter Tryz.func21, Tryz.ntmps21
  go_wp2_with fail
  refine OS.out.mono ?_
  rintro e w1 ⟨rfl, hb⟩
  have B1 := Lib.hid hb
  clear hb d0 d1 d2 d3 hX' OS
  cases hS : bdS b with
  | false =>
    have E : Aside (bdR b = (⟨#[]⟩, 130)) := by show _ = _; unfold bdR; rw [hS]; rfl
    go_wp2_with fail
    refine (bytesOf_no _ _ w1).mono ?_
    rintro e w2 ⟨rfl, rfl⟩
    go_wp2_with fail
    go_ret2
    exact ⟨by rw [E.out]; rfl, AX.out.trans (B1.out.mono AX.out.size)⟩
  | true =>
    have E : Aside (bdR b = outR (bdE b)) := by show _ = _; unfold bdR; rw [hS]; rfl
    have hv : 0 ≤ b.v ∧ b.v ≤ 9 := by
      unfold bdS inB at hS
      simp only [Bool.and_eq_true, decide_eq_true_iff] at hS
      exact ⟨hS.2.2.1, by omega⟩
    have BO := Lib.hid (bytesOfB_any w.heap.size b w1 V.out.1 hv (by rw [B1.out.block w.heap.size (lt_of_some V.out.2)]; exact V.out.2))
    clear hS hv
    go_wp2_with fail
    refine BO.out.mono ?_
    rintro e w2 ⟨rfl, hb⟩
    have B2 := Lib.hid hb
    clear hb BO
    go_wp2_with fail
    go_ret2
    exact ⟨by rw [E.out]; rfl, AX.out.trans ((B1.out.trans (B2.out.mono B1.out.size)).mono AX.out.size)⟩
end Go.Proofs.YthomdgnmoapbkaaGreatDoor
end S0

section S1
namespace Go.Proofs.YthomdgnmoapbkaaGreatDoor
open Go.RowKit
def tkB (s : RS) : Bd := ⟨txt (s.text 8192).1, txt ((tk1 s).text 8192).1, txt ((tk2 s).text 8192).1, c8 ((tk2 s).text 8192).2.byte.1⟩
def tkBE (s : RS) : RS := ((tk2 s).text 8192).2.byte.2
set_option maxHeartbeats 4000000 in
set_option maxRecDepth 100000 in
theorem takeBinding_any (g : Nat) (s : RS) (w : World) (H : RAt w g s) :
    Calls Tryz.prog 38 #[.pointer (some ⟨g, 0, none⟩)] w fun e w' => e = .returned (tkB s).val ∧ RAt w' g (tkBE s) ∧ Kept (fun k => k = g) w w' := by
  have H0 := Lib.hid H
  clear H
  obtain ⟨X0, hX0⟩ : ∃ X0, X0 = w.alloc (.cells #[.string ⟨#[]⟩, .string ⟨#[]⟩, .string ⟨#[]⟩, .int .i64 0] 35) := ⟨_, rfl⟩
  have AX : Hid (Below w.heap.size w X0 ∧ X0.heap.size = w.heap.size + 1 ∧ X0.heap[w.heap.size]? = some (.cells #[.string ⟨#[]⟩, .string ⟨#[]⟩, .string ⟨#[]⟩, .int .i64 0] 35 (0, 0))) := Lib.hid (by
    rw [hX0]; exact ⟨(Below.refl _ w).alloc (Nat.le_refl _) _, by simp, by rw [heap_alloc_new]⟩)
  have R0 : Hid (RAt X0 g s) := Lib.hid (H0.out.below AX.out.1)
  have hX0' := hX0.symm
  clear hX0
  go_enter Tryz.func38, Tryz.ntmps38
  go_wp2_with fail
  clear hX0'
  refine (takeText_any g s X0 R0.out).mono ?_
  rintro e w1 ⟨rfl, hr⟩
  have R1 := Lib.hid hr
  clear hr
  go_wp2_with fail
  refine (takeText_any g _ w1 R1.out.1).mono ?_
  rintro e w2 ⟨rfl, hr⟩
  have R2 := Lib.hid (R1.out.trans hr)
  clear hr R1
  go_wp2_with fail
  refine (takeText_any g _ w2 R2.out.1).mono ?_
  rintro e w3 ⟨rfl, hr⟩
  have R3 := Lib.hid (R2.out.trans hr)
  clear hr R2
  go_wp2_with fail
  refine (rByte_any g _ w3 R3.out.1).mono ?_
  rintro e w4 ⟨rfl, hr⟩
  have R4 : Hid (Read g (tkBE s) X0 w4) := Lib.hid (R3.out.trans hr)
  clear hr R3
  have hB8 : 0 ≤ c8 ((tk2 s).text 8192).2.byte.1 ∧ c8 ((tk2 s).text 8192).2.byte.1 ≤ 255 := by unfold c8; have := ((tk2 s).text 8192).2.byte.1.toNat_lt; omega
  obtain ⟨A, hA⟩ : ∃ A, A = txt (s.text 8192).1 := ⟨_, rfl⟩
  obtain ⟨B, hB⟩ : ∃ B, B = txt ((tk1 s).text 8192).1 := ⟨_, rfl⟩
  obtain ⟨C, hC⟩ : ∃ C, C = txt ((tk2 s).text 8192).1 := ⟨_, rfl⟩
  obtain ⟨D, hD⟩ : ∃ D, D = c8 ((tk2 s).text 8192).2.byte.1 := ⟨_, rfl⟩
  have eB : txt ((s.text 8192).2.text 8192).1 = B := hB.symm
  have eC : txt (((s.text 8192).2.text 8192).2.text 8192).1 = C := hC.symm
  have eD : c8 (((s.text 8192).2.text 8192).2.text 8192).2.byte.1 = D := hD.symm
  rw [← hD] at hB8
  rw [← hA, eB, eC, eD]
  have EV : Aside (tkB s = ⟨A, B, C, D⟩) := by show _ = _; unfold tkB; rw [← hA, ← hB, ← hC, ← hD]
  clear hA hB hC hD eB eC eD
  have Z4 : Hid (w4.heap[w.heap.size]? = some (.cells #[.string ⟨#[]⟩, .string ⟨#[]⟩, .string ⟨#[]⟩, .int .i64 0] 35 (0, 0))) := Lib.hid (by
    have := H0.out.lt
    rw [R4.out.2.block w.heap.size (by have := AX.out.2.1; omega) (by omega)]; exact AX.out.2.2)
  have ON : Hid ((#[.string A, .string B, .string C, .int .i64 D] : Array Value).all (·.oneCell') = true) := Lib.hid (by simp [Value.oneCell'])
  go_wp2_with (refine wpList_store_row rfl 35 (.tmp 2) (.tmp 12) rfl w.heap.size #[.string A, .string B, .string C, .int .i64 D] rfl rfl 35 #[.string ⟨#[]⟩, .string ⟨#[]⟩, .string ⟨#[]⟩, .int .i64 0] Z4.out size_bd rfl ON.out ?_)
  have hk := kept_setRow w4 w.heap.size #[.string A, .string B, .string C, .int .i64 D]
  have hlt := H0.out.lt
  refine bodyPost_ret (results_cell_row rfl _ _ w.heap.size 35 #[.string A, .string B, .string C, .int .i64 D] (0, 0) _ rfl (setRow_heap _ _ _ _ _ _ Z4.out) Tryz.underlying35 rfl size_bd) rfl ?_
  refine ⟨by rw [EV.out]; rfl, R4.out.1.kept hk (by omega) (fun b cs m hc e => ?_), ((Below.kept AX.out.1 (fun k => k = g)).trans R4.out.2 (fun _ _ q => q)).trans hk (fun y hy e => by omega)⟩
  rw [e, Z4.out] at hc
  simp only [Option.some.injEq, Obj.cells.injEq] at hc
  exact absurd hc.2.1 (by decide)
def dcB (t : ByteArray) : Bd := tkB (rs2 t)
def decB (t : ByteArray) : Bd × Nat := if bdR (dcB t) = (t, 0) then (dcB t, 0) else (Bd.z, 2)
theorem tkB_fit (s : RS) : (tkB s).Fit := by
  have t1 := text_sz s
  have t2 := text_sz (tk1 s)
  have t3 := text_sz (tk2 s)
  have hb : 0 ≤ c8 ((tk2 s).text 8192).2.byte.1 ∧ c8 ((tk2 s).text 8192).2.byte.1 ≤ 255 := by unfold c8; have := ((tk2 s).text 8192).2.byte.1.toNat_lt; omega
  unfold tkB
  generalize txt (s.text 8192).1 = A at t1 ⊢
  generalize txt ((tk1 s).text 8192).1 = B at t2 ⊢
  generalize c8 ((tk2 s).text 8192).2.byte.1 = D at hb ⊢
  generalize txt ((tk2 s).text 8192).1 = C at t3 ⊢
  exact ⟨⟨by show A.size ≤ _; omega, by show B.size ≤ _; omega, by show C.size ≤ _; omega⟩, by show _ ≤ D; omega, by show D ≤ _; omega⟩
theorem load_bd {w : World} {g : Nat} {a : Array Value} (h : w.heap[g]? = some (.cells a 35 (0, 0))) (hs : a.size = 4) : (loadVar 35 ⟨g, 0, none⟩).run Tryz.prog w = .ok (.agg a) w :=
  run_loadVar_row w g _ _ _ _ _ h Tryz.underlying35 rfl (by rw [hs]; exact size_bd)
set_option maxHeartbeats 8000000 in
set_option maxRecDepth 100000 in
theorem decodedB_any (t : ByteArray) (w : World) (hm : L.HasM w) (ht : t.size ≤ 140737488355328) :
    Calls Tryz.prog 37 #[.string t, .func (.func 38) #[] #[], .func (.func 21) #[] #[]] w fun e w' => e = .returned (.tuple #[(decB t).1.val, .int .i64 (decB t).2]) ∧ Below w.heap.size w w' := by
  obtain ⟨X0, hX0⟩ : ∃ X0, X0 = w.alloc (.cells #[.string ⟨#[]⟩, .string ⟨#[]⟩, .string ⟨#[]⟩, .int .i64 0] 35) := ⟨_, rfl⟩
  have AX : Hid (Below w.heap.size w X0 ∧ X0.heap.size = w.heap.size + 1 ∧ X0.heap[w.heap.size]? = some (.cells #[.string ⟨#[]⟩, .string ⟨#[]⟩, .string ⟨#[]⟩, .int .i64 0] 35 (0, 0))) := Lib.hid (by
    rw [hX0]; exact ⟨(Below.refl _ w).alloc (Nat.le_refl _) _, by simp, by rw [heap_alloc_new]⟩)
  obtain ⟨cap, w1, hcv, hb1, hby⟩ := conv_text X0 t ht
  have HM := Lib.hid hm
  have C1 : Aside (Below X0.heap.size X0 w1 ∧ Bytes w1 (.slice (some ⟨X0.heap.size, 0, none⟩) t.size cap) t.data.toList) := ⟨hb1, hby⟩
  have hX0' := hX0.symm
  clear hb1 hby hX0 hm
  go_enter Tryz.func37, Tryz.ntmps37
  go_wp2_with fail
  clear hX0'
  refine (newReader_any _ t.data.toList w1 C1.out.2 (by rw [str_size]; omega)).mono ?_
  rintro e w2 ⟨g, rfl, hr, hg, hb⟩
  have hw1 := C1.out.1.size
  have h1 := AX.out.2.1
  have R2 : Aside (RAt w2 g ⟨t.data.toList, 0⟩ ∧ w.heap.size + 1 ≤ g ∧ Below (w.heap.size + 1) X0 w2) := ⟨hr, by omega, (C1.out.1.mono (by omega)).trans (hb.mono (by omega))⟩
  clear hr hg hb C1 hcv hw1 h1
  go_wp2_with fail
  refine (rByte_any g _ w2 R2.out.1).mono ?_
  rintro e w3 ⟨rfl, hl⟩
  have R3 : Aside (RAt w3 g (RS.byte ⟨t.data.toList, 0⟩).2 ∧ w.heap.size + 1 ≤ g ∧ Below (w.heap.size + 1) X0 w3) := ⟨hl.1, R2.out.2.1, R2.out.2.2.trans (hl.2.below (by have := R2.out.2.2.size; have := AX.out.2.1; omega) (fun x hx => by rw [hx]; exact R2.out.2.1))⟩
  clear hl R2
  go_wp2_with fail
  refine (rByte_any g _ w3 R3.out.1).mono ?_
  rintro e w4 ⟨rfl, hl⟩
  have R4 : Aside (RAt w4 g (rs2 t) ∧ w.heap.size + 1 ≤ g ∧ Below (w.heap.size + 1) X0 w4) := ⟨hl.1, R3.out.2.1, R3.out.2.2.trans (hl.2.below (by have := R3.out.2.2.size; have := AX.out.2.1; omega) (fun x hx => by rw [hx]; exact R3.out.2.1))⟩
  clear hl R3
  go_wp2_with fail
  refine (takeBinding_any g _ w4 R4.out.1).mono ?_
  rintro e w5 ⟨rfl, _, hk⟩
  obtain ⟨o, ho⟩ : ∃ o, o = tkB (rs2 t) := ⟨_, rfl⟩
  rw [← ho]
  have R5 : Aside (Below (w.heap.size + 1) X0 w5) := R4.out.2.2.trans (hk.below (by have := R4.out.2.2.size; have := AX.out.2.1; omega) (fun x hx => by rw [hx]; exact R4.out.2.1))
  have HO : Aside (o = dcB t ∧ o.Fit) := ⟨ho, by rw [ho]; exact tkB_fit _⟩
  clear hk R4 ho
  unfold Bd.val
  obtain ⟨X5, hX5⟩ : ∃ X5, X5 = w5.alloc (.cells #[.string o.p, .string o.n, .string o.s, .int .i64 o.v] 35) := ⟨_, rfl⟩
  obtain ⟨b9, hb9⟩ : ∃ b9, b9 = w5.heap.size := ⟨_, rfl⟩
  have A5 : Hid (Below w5.heap.size w5 X5 ∧ X5.heap[b9]? = some (.cells #[.string o.p, .string o.n, .string o.s, .int .i64 o.v] 35 (0, 0))) := Lib.hid (by
    rw [hX5, hb9]; exact ⟨(Below.refl _ _).alloc (Nat.le_refl _) _, by rw [heap_alloc_new]⟩)
  have cc : ∀ i y, (#[.string o.p, .string o.n, .string o.s, .int .i64 o.v] : Array Value)[i]? = some y → X5.cell? ⟨b9, i, none⟩ = some y := fun i y hy => by
    rw [cell_of_row X5 b9 i _ _ _ A5.out.2]; exact hy
  have CC := Lib.hid cc
  have k0 := CC.out 0 _ rfl
  have k1 := CC.out 1 _ rfl
  have k2 := CC.out 2 _ rfl
  have k3 := CC.out 3 _ rfl
  have B5 : Hid (Below (w.heap.size + 1) X0 X5) := Lib.hid (R5.out.trans (A5.out.1.mono (by have := R5.out.size; have := AX.out.2.1; omega)))
  have BW : ∀ (Z : World), Below (w.heap.size + 1) X0 Z → Below w.heap.size w Z := fun Z hz => AX.out.1.trans (hz.mono (Nat.le_succ _))
  have HB := Lib.hid BW
  have EN := Lib.hid (encodeB_any o X5 (HM.out.below (BW _ B5.out)) HO.out.2)
  have hX5' := hX5.symm
  have hb9' := hb9.symm
  clear hX5 hb9 cc BW
  unfold Bd.val at EN
  go_wp2_with fail
  refine EN.out.mono ?_
  rintro e w6 ⟨rfl, hb⟩
  have B6 := Lib.hid hb
  clear hb EN hX5' k0 k1 k2 k3
  have B6' : Hid (Below (w.heap.size + 1) X0 w6) := Lib.hid (B5.out.trans (B6.out.mono (by have := B5.out.size; have := AX.out.2.1; omega)))
  have Z6 : Hid (w6.heap[w.heap.size]? = some (.cells #[.string ⟨#[]⟩, .string ⟨#[]⟩, .string ⟨#[]⟩, .int .i64 0] 35 (0, 0))) := Lib.hid (by rw [B6'.out.block w.heap.size (by omega)]; exact AX.out.2.2)
  have ON : Hid ((#[.string o.p, .string o.n, .string o.s, .int .i64 o.v] : Array Value).all (·.oneCell') = true) := Lib.hid (by simp [Value.oneCell'])
  have ONZ : Hid ((#[.string ⟨#[]⟩, .string ⟨#[]⟩, .string ⟨#[]⟩, .int .i64 0] : Array Value).all (·.oneCell') = true) := Lib.hid (by simp [Value.oneCell'])
  obtain ⟨T, hT⟩ : ∃ T, T = (bdR o).1 := ⟨_, rfl⟩
  obtain ⟨C, hC⟩ : ∃ C, C = (bdR o).2 := ⟨_, rfl⟩
  rw [← hT, ← hC]
  have EO : Aside (bdR (dcB t) = (T, C)) := by show _ = _; rw [← HO.out.1, hT, hC]
  clear hT hC
  have NO : Aside (¬ (T, C) = (t, 0) → decB t = (Bd.z, 2)) := fun q => by unfold decB; rw [EO.out, if_neg q]
  have noend : Hid (∀ {Z : World} {K : Prop}, Below w6.heap.size w6 Z → True) := Lib.hid fun _ => trivial
  clear noend
  by_cases hE : C = 0
  · subst hE
    by_cases hq : T = t
    · have E : Aside (decB t = (o, 0)) := by
        show _ = _
        unfold decB
        rw [EO.out, hq, if_pos rfl, HO.out.1]
      have g1 : (T.toList == t.toList) = true := by rw [hq]; simp
      clear hq NO
      have k0 := (B6.out.cell (block_lt_of_cell (CC.out 0 _ rfl))).trans (CC.out 0 _ rfl)
      have k1 := (B6.out.cell (block_lt_of_cell (CC.out 1 _ rfl))).trans (CC.out 1 _ rfl)
      have k2 := (B6.out.cell (block_lt_of_cell (CC.out 2 _ rfl))).trans (CC.out 2 _ rfl)
      have k3 := (B6.out.cell (block_lt_of_cell (CC.out 3 _ rfl))).trans (CC.out 3 _ rfl)
      go_wp2_with (refine wpList_store_row rfl 35 (.tmp 6) (.tmp 37) rfl w.heap.size #[.string o.p, .string o.n, .string o.s, .int .i64 o.v] rfl rfl 35 #[.string ⟨#[]⟩, .string ⟨#[]⟩, .string ⟨#[]⟩, .int .i64 0] Z6.out size_bd rfl ON.out ?_)
      have hk := kept_setRow w6 w.heap.size #[.string o.p, .string o.n, .string o.s, .int .i64 o.v]
      refine bodyPost_ret (results_ob rfl _ _ ⟨w.heap.size, 0, none⟩ (.agg #[.string o.p, .string o.n, .string o.s, .int .i64 o.v]) rfl (load_bd (setRow_heap _ _ _ _ _ _ Z6.out) rfl)) rfl ?_
      exact ⟨by rw [E.out]; rfl, (HB.out _ B6'.out).trans (hk.below (HB.out _ B6'.out).size (fun x hx => by omega))⟩
    · have E : Aside (decB t = (Bd.z, 2)) := NO.out (fun q => hq (congrArg Prod.fst q))
      have g1 : (T.toList == t.toList) = false := by
        rw [beq_eq_false_iff_ne]; intro q; exact hq (same_of_list q)
      clear hq NO
      have ZA : Hid ((w6.alloc (.cells #[.string ⟨#[]⟩, .string ⟨#[]⟩, .string ⟨#[]⟩, .int .i64 0] 35)).heap[w.heap.size]? = some (.cells #[.string ⟨#[]⟩, .string ⟨#[]⟩, .string ⟨#[]⟩, .int .i64 0] 35 (0, 0))) := Lib.hid (by rw [Below.heap_alloc _ _ _ (lt_of_some Z6.out)]; exact Z6.out)
      go_wp2_with (refine wpList_store_row rfl 35 (.tmp 6) (.tmp 36) rfl w.heap.size #[.string ⟨#[]⟩, .string ⟨#[]⟩, .string ⟨#[]⟩, .int .i64 0] rfl rfl 35 #[.string ⟨#[]⟩, .string ⟨#[]⟩, .string ⟨#[]⟩, .int .i64 0] ZA.out size_bd rfl ONZ.out ?_)
      have hk := kept_setRow (w6.alloc (.cells #[.string ⟨#[]⟩, .string ⟨#[]⟩, .string ⟨#[]⟩, .int .i64 0] 35)) w.heap.size #[.string ⟨#[]⟩, .string ⟨#[]⟩, .string ⟨#[]⟩, .int .i64 0]
      have BZ : Below w.heap.size w (w6.alloc (.cells #[.string ⟨#[]⟩, .string ⟨#[]⟩, .string ⟨#[]⟩, .int .i64 0] 35)) := (HB.out _ B6'.out).trans (((Below.refl _ w6).alloc (Nat.le_refl _) _).mono (HB.out _ B6'.out).size)
      refine bodyPost_ret (results_ob rfl _ _ ⟨w.heap.size, 0, none⟩ (.agg #[.string ⟨#[]⟩, .string ⟨#[]⟩, .string ⟨#[]⟩, .int .i64 0]) rfl (load_bd (setRow_heap _ _ _ _ _ _ ZA.out) rfl)) rfl ?_
      refine ⟨by rw [E.out]; rfl, BZ.trans (hk.below BZ.size (fun x hx => by omega))⟩
  · have E : Aside (decB t = (Bd.z, 2)) := NO.out (fun q => hE (congrArg Prod.snd q))
    have h1 : ¬ (C : Int) = 0 := by omega
    have g1 : ((C : Int) != 0) = true := by rw [bne_iff_ne]; exact h1
    clear NO hE
    have ZA : Hid ((w6.alloc (.cells #[.string ⟨#[]⟩, .string ⟨#[]⟩, .string ⟨#[]⟩, .int .i64 0] 35)).heap[w.heap.size]? = some (.cells #[.string ⟨#[]⟩, .string ⟨#[]⟩, .string ⟨#[]⟩, .int .i64 0] 35 (0, 0))) := Lib.hid (by rw [Below.heap_alloc _ _ _ (lt_of_some Z6.out)]; exact Z6.out)
    go_wp2_with (refine wpList_store_row rfl 35 (.tmp 6) (.tmp 36) rfl w.heap.size #[.string ⟨#[]⟩, .string ⟨#[]⟩, .string ⟨#[]⟩, .int .i64 0] rfl rfl 35 #[.string ⟨#[]⟩, .string ⟨#[]⟩, .string ⟨#[]⟩, .int .i64 0] ZA.out size_bd rfl ONZ.out ?_)
    have hk := kept_setRow (w6.alloc (.cells #[.string ⟨#[]⟩, .string ⟨#[]⟩, .string ⟨#[]⟩, .int .i64 0] 35)) w.heap.size #[.string ⟨#[]⟩, .string ⟨#[]⟩, .string ⟨#[]⟩, .int .i64 0]
    have BZ : Below w.heap.size w (w6.alloc (.cells #[.string ⟨#[]⟩, .string ⟨#[]⟩, .string ⟨#[]⟩, .int .i64 0] 35)) := (HB.out _ B6'.out).trans (((Below.refl _ w6).alloc (Nat.le_refl _) _).mono (HB.out _ B6'.out).size)
    refine bodyPost_ret (results_ob rfl _ _ ⟨w.heap.size, 0, none⟩ (.agg #[.string ⟨#[]⟩, .string ⟨#[]⟩, .string ⟨#[]⟩, .int .i64 0]) rfl (load_bd (setRow_heap _ _ _ _ _ _ ZA.out) rfl)) rfl ?_
    refine ⟨by rw [E.out]; rfl, BZ.trans (hk.below BZ.size (fun x hx => by omega))⟩
set_option maxHeartbeats 2000000 in
theorem decodeB_any (t : ByteArray) (w : World) (hm : L.HasM w) (ht : t.size ≤ 140737488355328) :
    Calls Tryz.prog 11 #[.string t] w fun e w' => e = .returned (.tuple #[(decB t).1.val, .int .i64 (decB t).2]) ∧ Below w.heap.size w w' := by
  obtain ⟨X0, hX0⟩ : ∃ X0, X0 = w.alloc (.cells #[.string ⟨#[]⟩, .string ⟨#[]⟩, .string ⟨#[]⟩, .int .i64 0] 35) := ⟨_, rfl⟩
  have AX : Hid (Below w.heap.size w X0 ∧ X0.heap.size = w.heap.size + 1 ∧ X0.heap[w.heap.size]? = some (.cells #[.string ⟨#[]⟩, .string ⟨#[]⟩, .string ⟨#[]⟩, .int .i64 0] 35 (0, 0))) := Lib.hid (by
    rw [hX0]; exact ⟨(Below.refl _ w).alloc (Nat.le_refl _) _, by simp, by rw [heap_alloc_new]⟩)
  have DE := Lib.hid (decodedB_any t X0 (hm.below AX.out.1) ht)
  have hX0' := hX0.symm
  clear hX0 hm
  go_enter Tryz.func11, Tryz.ntmps11
  go_wp2_with fail
  clear hX0'
  refine DE.out.mono ?_
  rintro e w1 ⟨rfl, hb⟩
  obtain ⟨o, ho⟩ : ∃ o, o = (decB t).1 := ⟨_, rfl⟩
  rw [← ho]
  have B1 := Lib.hid hb
  have Z1 : Hid (w1.heap[w.heap.size]? = some (.cells #[.string ⟨#[]⟩, .string ⟨#[]⟩, .string ⟨#[]⟩, .int .i64 0] 35 (0, 0))) := Lib.hid (by rw [hb.block w.heap.size (by have := AX.out.2.1; omega)]; exact AX.out.2.2)
  have ON : Hid ((#[.string o.p, .string o.n, .string o.s, .int .i64 o.v] : Array Value).all (·.oneCell') = true) := Lib.hid (by simp [Value.oneCell'])
  have HO : Aside ((decB t).1 = o) := ho.symm
  clear hb ho DE
  unfold Bd.val
  go_wp2_with (refine wpList_store_row rfl 35 (.tmp 2) (.tmp 6) rfl w.heap.size #[.string o.p, .string o.n, .string o.s, .int .i64 o.v] rfl rfl 35 #[.string ⟨#[]⟩, .string ⟨#[]⟩, .string ⟨#[]⟩, .int .i64 0] Z1.out size_bd rfl ON.out ?_)
  have hk := kept_setRow w1 w.heap.size #[.string o.p, .string o.n, .string o.s, .int .i64 o.v]
  have BW : Below w.heap.size w w1 := AX.out.1.trans (B1.out.mono AX.out.1.size)
  refine bodyPost_ret (results_ob rfl _ _ ⟨w.heap.size, 0, none⟩ (.agg #[.string o.p, .string o.n, .string o.s, .int .i64 o.v]) rfl (load_bd (setRow_heap _ _ _ _ _ _ Z1.out) rfl)) rfl ?_
  refine ⟨by rw [HO.out]; rfl, BW.trans (hk.below BW.size (fun x hx => by omega))⟩
end Go.Proofs.YthomdgnmoapbkaaGreatDoor
end S1

section S2
namespace Go.Proofs.YthomdgnmoapbkaaGreatDoor
open Go.RowKit
structure Qt where
  p : ByteArray
  n : ByteArray
  k : Int
  a : Int
  h : List Am
def Qt.val (q : Qt) (hs : Value) : Value := .agg #[.string q.p, .string q.n, .int .i64 q.k, .int .i64 q.a, hs]
structure Qt.Fit (q : Qt) : Prop where
  s : q.p.size ≤ 140737488355328 ∧ q.n.size ≤ 140737488355328
  n : -9223372036854775808 ≤ q.k ∧ q.k ≤ 9223372036854775807 ∧ -9223372036854775808 ≤ q.a ∧ q.a ≤ 9223372036854775807
  h : ∀ x ∈ q.h, x.fit
def qtL (q : Qt) : List (List UInt8) := [tx q.p, tx q.n, [by8 q.k], [by8 q.a]] ++ amsE q.h
def scB (k a : Int) : Bool := if k = 5 then inB a 0 9 else inB k 0 4 && decide (a = 0)
set_option maxHeartbeats 4000000 in
set_option maxRecDepth 100000 in
theorem scopeStands_any (k a : Int) (w : World) : Calls Tryz.prog 70 #[.agg #[.int .i64 k, .int .i64 a]] w fun e w' => e = .returned (.bool (scB k a)) ∧ Below w.heap.size w w' := by
  obtain ⟨S, hS⟩ : ∃ S, S = scB k a := ⟨_, rfl⟩
  have ES : Aside (S = scB k a) := hS
  rw [← hS]
  clear hS
  obtain ⟨X, hX⟩ : ∃ X, X = w.alloc (.cells #[.int .i64 k, .int .i64 a] 27) := ⟨_, rfl⟩
  have AX : Hid (Below w.heap.size w X) := Lib.hid (by rw [hX]; exact (Below.refl _ w).alloc (Nat.le_refl _) _)
  have CX : Hid (∀ i y, #[Value.int .i64 k, .int .i64 a][i]? = some y → X.cell? ⟨w.heap.size, i, none⟩ = some y) := Lib.hid fun i y h => by
    rw [hX, World.cell?_alloc_new]; exact h
  have d0 := CX.out 0 _ rfl
  have d1 := CX.out 1 _ rfl
  have hX' := hX.symm
  have WA := Lib.hid (within_any a 0 9 X)
  have WB := Lib.hid (within_any k 0 4 X)
  clear hX
  by_cases h5 : k = 5
  · have F : Aside (S = inB a 0 9) := by show _ = _; rw [ES.out]; unfold scB; rw [if_pos h5]
    subst h5
    go_enter Tryz.func70, Tryz.ntmps70
    go_wp2_with fail
    refine WA.out.mono ?_
    rintro e w1 ⟨rfl, rfl⟩
    go_wp2_with fail
    go_ret
    exact ⟨by rw [F.out]; rfl, AX.out⟩
  · have F : Aside (S = (inB k 0 4 && decide (a = 0))) := by show _ = _; rw [ES.out]; unfold scB; rw [if_neg h5]
    go_enter Tryz.func70, Tryz.ntmps70
    go_wp2_with fail
    refine WB.out.mono ?_
    rintro e w1 ⟨rfl, rfl⟩
    cases h1 : inB k 0 4 with
    | false =>
      rw [h1] at F
      go_wp2_with fail
      go_ret
      exact ⟨by rw [F.out]; rfl, AX.out⟩
    | true =>
      rw [h1] at F
      go_wp2_with fail
      go_ret
      exact ⟨by rw [F.out]; rfl, AX.out⟩
set_option maxHeartbeats 4000000 in
set_option maxRecDepth 100000 in
theorem layQuota_any (w0 : World) (B g : Nat) (v : Value) (s : WS) (q : Qt) (hs : Value) (w : World) (H : WAt B w g v s) (h0 : Below w0.heap.size w0 w) (lo : w0.heap.size ≤ B) (hv : Row kAm w0 hs q.h) (hf : q.Fit) (hn : 0 ≤ q.k ∧ q.k ≤ 9 ∧ 0 ≤ q.a ∧ q.a ≤ 9) (hl : q.h.length ≤ 4096)
    (hp : ∀ x ∈ q.h, 0 ≤ x.v) :
    Calls Tryz.prog 42 #[.pointer (some ⟨g, 0, none⟩), q.val hs] w fun e w' => e = .returned (.tuple #[]) ∧ Laid B g v ((qtL q).foldl WS.lay s) w w' := by
  have SZ := Lib.hid hf.s
  have HP : Aside (∀ x ∈ q.h, x.n.size ≤ 140737488355328 ∧ 0 ≤ x.v ∧ x.v ≤ 9223372036854775807) := fun x hx => ⟨(hf.h x hx).1, hp x hx, (hf.h x hx).2.2⟩
  obtain ⟨qp, qn, qk, qa, qh⟩ := q
  simp only at SZ hn HP hv hl
  obtain ⟨u1, u3, rfl, hlc, hcm⟩ := hv.len
  unfold maxLen at hcm
  have V : Aside (WAt B w g v s ∧ Below w0.heap.size w0 w ∧ w0.heap.size ≤ B ∧ Row kAm w0 (.slice u1 qh.length u3) qh ∧ qh.length ≤ 4096) := ⟨H, h0, lo, hv, hl⟩
  have hK := by8_c8 qk hn.1 hn.2.1
  have hA := by8_c8 qa hn.2.2.1 hn.2.2.2
  obtain ⟨c, hc⟩ : ∃ c, c = by8 qk := ⟨_, rfl⟩
  obtain ⟨d, hd⟩ : ∃ d, d = by8 qa := ⟨_, rfl⟩
  rw [← hc] at hK
  rw [← hd] at hA
  have EL : Aside (qtL ⟨qp, qn, qk, qa, qh⟩ = [tx qp, tx qn, [c], [d]] ++ amsE qh) := by show _ = _; rw [hc, hd]; rfl
  have PK : Aside (qk = c8 c) := hK
  have PA : Aside (qa = c8 d) := hA
  have k9 : 0 ≤ qk ∧ qk ≤ 255 := by omega
  have a9 : 0 ≤ qa ∧ qa ≤ 255 := by omega
  obtain ⟨cs, hcs⟩ : ∃ cs : Array Value, cs = #[.string qp, .string qn, .int .i64 qk, .int .i64 qa, .slice u1 qh.length u3] := ⟨_, rfl⟩
  obtain ⟨bo, hbo⟩ : ∃ bo, bo = w.heap.size := ⟨_, rfl⟩
  have W0 : Aside (LX w B g v s [(bo, cs, 30)] (w.alloc (.cells #[.string qp, .string qn, .int .i64 qk, .int .i64 qa, .slice u1 qh.length u3] 30))) := by
    rw [hcs, hbo]; exact (Laid.refl H).lx.box _ _
  have CSA : Aside (cs = #[.string qp, .string qn, .int .i64 qk, .int .i64 qa, .slice u1 qh.length u3]) := hcs
  clear hcs H h0 lo hv hl hf hn hp hc hd hK hA
  have c0 := W0.out.cell (List.mem_cons_self ..) (i := 0) (by rw [CSA.out]; rfl)
  rw [hbo] at c0
  unfold Qt.val
  simp only
  rw [EL.out]
  go_enter Tryz.func42, Tryz.ntmps42
  go_wp2_with fail
  rw [← hbo]
  clear hbo
  refine (W0.out.calls (fun v' hv => wText_any B g v' _ qp _ SZ.out.1 hv)).mono ?_
  rintro e w1 ⟨rfl, hw⟩
  have W1 : Aside (LX w B g v ((s).lay (tx qp)) [(bo, cs, 30)] w1) := hw
  clear hw W0 c0
  have c1 := W1.out.cell (List.mem_cons_self ..) (i := 1) (by rw [CSA.out]; rfl)
  go_wp2_with fail
  refine (W1.out.calls (fun v' hv => wText_any B g v' _ qn _ SZ.out.2 hv)).mono ?_
  rintro e w2 ⟨rfl, hw⟩
  have W2 : Aside (LX w B g v (((s).lay (tx qp)).lay (tx qn)) [(bo, cs, 30)] w2) := hw
  clear hw W1 c1
  have c2 := W2.out.cell (List.mem_cons_self ..) (i := 2) (by rw [CSA.out]; rfl)
  go_wp2_with fail
  refine (W2.out.calls (fun v' hv => wByte_eq PK.out B g v' _ _ hv)).mono ?_
  rintro e w3 ⟨rfl, hw⟩
  have W3 : Aside (LX w B g v ((((s).lay (tx qp)).lay (tx qn)).lay [c]) [(bo, cs, 30)] w3) := hw
  clear hw W2 c2
  have c3 := W3.out.cell (List.mem_cons_self ..) (i := 3) (by rw [CSA.out]; rfl)
  go_wp2_with fail
  refine (W3.out.calls (fun v' hv => wByte_eq PA.out B g v' _ _ hv)).mono ?_
  rintro e w4 ⟨rfl, hw⟩
  have W4 : Aside (LX w B g v (((((s).lay (tx qp)).lay (tx qn)).lay [c]).lay [d]) [(bo, cs, 30)] w4) := hw
  clear hw W3 c3
  have c4 := W4.out.cell (List.mem_cons_self ..) (i := 4) (by rw [CSA.out]; rfl)
  go_wp2_with fail
  refine (W4.out.calls (fun v' hv => layAmounts_any w0 B g v' _ (.slice u1 qh.length u3) qh w4 hv (W4.out.laid.belowB V.out.1 V.out.2.1 V.out.2.2.1) V.out.2.2.1 V.out.2.2.2.1 V.out.2.2.2.2 HP.out)).mono ?_
  rintro e w5 ⟨rfl, hw⟩
  have W5 : Aside (Laid B g v (([tx qp, tx qn, [c], [d]] ++ amsE qh).foldl WS.lay s) w w5) := by rw [foldl_app]; exact hw.laid
  clear hw W4 c4
  go_wp2_with fail
  go_end0
  exact ⟨rfl, W5.out⟩
end Go.Proofs.YthomdgnmoapbkaaGreatDoor
end S2

section S3
namespace Go.Proofs.YthomdgnmoapbkaaGreatDoor
open Go.RowKit
def kSt : Kd ByteArray := ⟨fun x => [.string x], 1, 9, 121, 16, ⟨#[]⟩⟩
theorem okSt : kSt.Ok := ⟨fun _ => rfl, by decide, fun x u hu => by simp only [kSt, List.mem_cons, List.not_mem_nil, or_false] at hu; rcases hu with rfl; rfl, Tryz.underlying121, ⟨_, (by kernel_rfl : (Tryz.prog.info? 9).map (fun i => (i.zero, i.size, i.bytes)) = some (some (.string ⟨#[]⟩), 1, 16)), rfl⟩, by decide⟩
theorem info_am : (Tryz.prog.info? 93).map (fun i => (i.zero, i.size, i.bytes)) = some (some (.agg #[.string ⟨#[]⟩, .int .i64 0]), 2, 24) := by kernel_rfl
theorem make_am (n : Nat) (hn : n ≤ 1000000) (w : World) : ∃ cur : Array Value, cur.size = n * 2 ∧ (Instr.makeSlice 28 (.int .i64 0) (.int .i64 n)).run Tryz.prog w = .ok (.slice (some ⟨w.heap.size, 0, none⟩) 0 n) (w.alloc (.cells cur 93)) := by
  obtain ⟨i0, hi, hz0, hz1, hz2⟩ := info_parts info_am
  have h := run_make (P := Tryz.prog) w 28 93 i0 _ Tryz.underlying28 hi hz0 .i64 .i64 0 n (by omega) (by omega) (by rw [hz2]; omega) (by omega)
  exact ⟨_, by rw [size_madeCells, hz1, Int.toNat_natCast], h⟩
theorem made_am {w : World} {n : Nat} {cur : Array Value} (hs : cur.size = n * 2) (hn : n ≤ 1000000) : OwnR kAm w.heap.size (w.alloc (.cells cur 93)) (.slice (some ⟨w.heap.size, 0, none⟩) 0 n) [] :=
  ⟨rfl, .inr ⟨w.heap.size, n, cur, rfl, Nat.le_refl _, heap_alloc_new .., Nat.zero_le _, by unfold maxLen; omega, hs, by simp [cellsR]⟩⟩
def zAm (x : ByteArray) : Am := ⟨x, 0⟩
def ressB (l : List ByteArray) : Bool := amsB (l.map zAm)
theorem zAm_step (l : List ByteArray) (k : Nat) (h : k < l.length) : (l.take (k + 1)).map zAm = (l.take k).map zAm ++ [⟨l.getD k kSt.z, 0⟩] := by
  rw [take_onez l k kSt.z h, List.map_append]; rfl
set_option maxHeartbeats 4000000 in
set_option maxRecDepth 100000 in
theorem resources_any (v : Value) (l : List ByteArray) (w : World) (hv : Row kSt w v l) (hl : l.length ≤ 1000) :
    Calls Tryz.prog 72 #[v] w fun e w' => e = .returned (.bool (ressB l)) ∧ Below w.heap.size w w' := by
  have V := Lib.hid hv
  obtain ⟨a, cap, rfl, hlc, hcm⟩ := hv.len
  unfold maxLen at hcm
  obtain ⟨n, hn⟩ : ∃ n, n = l.length := ⟨_, rfl⟩
  rw [← hn] at hlc hl V ⊢
  have HN := Lib.hid hn
  clear hv hn
  obtain ⟨cur, hc, mk⟩ := make_am n (by omega) w
  obtain ⟨B, hB⟩ : ∃ B, B = w.heap.size := ⟨_, rfl⟩
  have M := Lib.hid (And.intro (Below.alloc (Below.refl w.heap.size w) (Nat.le_refl _) (.cells cur 93)) (made_am (w := w) hc (by omega)))
  clear hc
  go_enter Tryz.func72, Tryz.ntmps72
  go_wp2_with fail
  clear mk
  go_loopg [3, 11] n (fun gg so si wr => ∃ (k : Nat) (a' : Option Addr) (m c : Nat), k ≤ n ∧ gg = n - k ∧ si = .int .i64 k ∧ so = .slice a' m c ∧ OwnR kAm w.heap.size wr (.slice a' m c) ((l.take k).map zAm) ∧ Below w.heap.size w wr)
  case atStart => exact ⟨0, _, _, _, Nat.zero_le _, rfl, rfl, rfl, M.out.2, M.out.1⟩
  case round =>
    clear M
    obtain ⟨k, a', m, c, hk, hg, rfl, rfl, ho, hb⟩ := hrel
    have R : Aside (gk = n - k ∧ OwnR kAm w.heap.size wr (.slice a' m c) ((l.take k).map zAm) ∧ Below w.heap.size w wr) := ⟨hg, ho, hb⟩
    clear hg ho hb
    by_cases hlt : k < n
    · have hlt' : (k : Int) < (n : Int) := by omega
      obtain ⟨b, off, rfl, pc⟩ := (V.out.below R.out.2.2).at k (by rw [← HN.out]; exact hlt)
      have ST := Lib.hid (zAm_step l k (by rw [← HN.out]; exact hlt))
      obtain ⟨x, hx⟩ : ∃ x, x = l.getD k kSt.z := ⟨_, rfl⟩
      rw [← hx] at pc ST
      have c0 : wr.cell? ⟨b, off + k, none⟩ = some (.string x) := by have := pc 0 _ rfl; rwa [show kSt.k = 1 from rfl, Nat.mul_one] at this
      have LN : Hid (((l.take k).map zAm).length < 100000000) := Lib.hid (by rw [List.length_map, List.length_take]; omega)
      clear pc hx
      obtain ⟨acc, hacc⟩ : ∃ acc, acc = (l.take k).map zAm := ⟨_, rfl⟩
      rw [← hacc] at ST LN R
      clear hacc
      go_wp2_with (at_builtin; refine app_row okAm (gg := wr.heap.size) rfl _ _ rfl rfl R.out.2.1 R.out.2.2.size ⟨x, 0⟩ ?hgg rfl rfl LN.out ?_)
      case hgg => simp
      intro v' w' h1 h2
      obtain ⟨a2, c2, rfl⟩ := h1.slice
      have A : Aside (OwnR kAm w.heap.size w' (.slice a2 (acc ++ [(⟨x, 0⟩ : Am)]).length c2) ((l.take (k + 1)).map zAm) ∧ Below w.heap.size w w') := by
        refine ⟨?_, R.out.2.2.trans (grown_belowR h2 R.out.2.1 R.out.2.2.size)⟩
        rw [ST.out]; exact h1
      clear h1 h2
      go_wp2_with fail
      go_roundg (n - (k + 1))
      case measure => have := R.out.1; omega
      case rel => exact ⟨k + 1, a2, _, c2, by omega, rfl, by go_num, rfl, A.out.1, A.out.2⟩
    · have E : Aside ((l.take k).map zAm = l.map zAm) := by show _ = _; rw [List.take_of_length_le (by rw [← HN.out]; omega)]
      have VA := Lib.hid (valid_any _ _ wr (R.out.2.1.row okAm))
      rw [E.out] at VA
      go_wp2_with fail
      refine VA.out.mono ?_
      rintro e w2 ⟨rfl, hb⟩
      have B2 := Lib.hid (R.out.2.2.trans (hb.mono R.out.2.2.size))
      clear hb VA
      have E2 : Aside ((amsC (l.map zAm) == 0) = ressB l) := by
        show _ = _
        cases hS : ressB l with
        | false => exact beq_eq_false_iff_ne.2 (fun q => by rw [amsC_zero] at q; unfold ressB at hS; rw [hS] at q; cases q)
        | true => exact beq_iff_eq.2 ((amsC_zero _).2 hS)
      go_wp2_with fail
      go_ret
      exact ⟨by rw [← E2.out]; rfl, B2.out⟩
def pRq : List UInt8 := [114, 101, 113, 117, 101, 115, 116, 115, 46]
def pLi : List UInt8 := [108, 105, 109, 105, 116, 115, 46]
def cutP (s : ByteArray) (p : List UInt8) : ByteArray := ⟨(Lib.trimPrefix s.data.toList p).toArray⟩
def hardB (s : ByteArray) : Bool := s.toList == [99, 111, 117, 110, 116] || (if Lib.hasPrefix s.data.toList pRq = true then ressB [cutP s pRq] else Lib.hasPrefix s.data.toList pLi && ressB [cutP s pLi])
theorem one_st (w : World) (x : ByteArray) : Row kSt (w.alloc (.cells #[.string x] 9)) (.slice (some ⟨w.heap.size, 0, none⟩) 1 1) [x] :=
  (row_built (K := kSt) w [x] okSt rfl rfl (by unfold maxLen; simp)).row okSt
set_option maxHeartbeats 4000000 in
set_option maxRecDepth 100000 in
theorem hardName_any (s : ByteArray) (w : World) : Calls Tryz.prog 90 #[.string s] w fun e w' => e = .returned (.bool (hardB s)) ∧ Below w.heap.size w w' := by
  have CP : Hid (∀ W, Calls Tryz.prog 93 #[.string s, .string ⟨#[114, 101, 113, 117, 101, 115, 116, 115, 46]⟩] W fun e w' => e = .returned (.tuple #[.string (cutP s pRq), .bool (Lib.hasPrefix s.data.toList pRq)]) ∧ w' = W) := Lib.hid fun W => Tryz.strings_CutPrefix s ⟨#[114, 101, 113, 117, 101, 115, 116, 115, 46]⟩ W
  have CQ : Hid (∀ W, Calls Tryz.prog 93 #[.string s, .string ⟨#[108, 105, 109, 105, 116, 115, 46]⟩] W fun e w' => e = .returned (.tuple #[.string (cutP s pLi), .bool (Lib.hasPrefix s.data.toList pLi)]) ∧ w' = W) := Lib.hid fun W => Tryz.strings_CutPrefix s ⟨#[108, 105, 109, 105, 116, 115, 46]⟩ W
  have RR : Hid (∀ x, Calls Tryz.prog 72 #[.slice (some ⟨w.heap.size, 0, none⟩) 1 1] (w.alloc (.cells #[.string x] 9)) fun e w' => e = .returned (.bool (ressB [x])) ∧ Below w.heap.size w w') := Lib.hid fun x =>
    (resources_any _ _ _ (one_st w x) (by simp)).mono fun e w' q => ⟨q.1, ((Below.refl _ w).alloc (Nat.le_refl _) _).trans (q.2.mono (by simp))⟩
  obtain ⟨S, hS⟩ : ∃ S, S = hardB s := ⟨_, rfl⟩
  have ES : Aside (S = (s.toList == [99, 111, 117, 110, 116] || (if Lib.hasPrefix s.data.toList pRq = true then ressB [cutP s pRq] else Lib.hasPrefix s.data.toList pLi && ressB [cutP s pLi]))) := hS
  rw [← hS]
  clear hS
  obtain ⟨h1, e1⟩ : ∃ h1, h1 = Lib.hasPrefix s.data.toList pRq := ⟨_, rfl⟩
  obtain ⟨h2, e2⟩ : ∃ h2, h2 = Lib.hasPrefix s.data.toList pLi := ⟨_, rfl⟩
  obtain ⟨x1, f1⟩ : ∃ x1, x1 = cutP s pRq := ⟨_, rfl⟩
  obtain ⟨x2, f2⟩ : ∃ x2, x2 = cutP s pLi := ⟨_, rfl⟩
  rw [← e1, ← e2, ← f1, ← f2] at ES
  rw [← e1, ← f1] at CP
  rw [← e2, ← f2] at CQ
  clear e1 e2 f1 f2
  cases h0 : (s.toList == [99, 111, 117, 110, 116]) with
  | true =>
    rw [h0] at ES
    go_enter Tryz.func90, Tryz.ntmps90
    go_wp2_with fail
    go_ret
    exact ⟨by rw [ES.out]; rfl, Below.refl _ _⟩
  | false =>
    rw [h0] at ES
    go_enter Tryz.func90, Tryz.ntmps90
    go_wp2_with fail
    refine (CP.out w).mono ?_
    rintro e w1 ⟨rfl, rfl⟩
    clear CP
    cases h1 with
    | true =>
      go_wp2_with fail
      refine (RR.out x1).mono ?_
      rintro e w2 ⟨rfl, hb⟩
      have B := Lib.hid hb
      clear hb
      go_wp2_with fail
      go_ret
      exact ⟨by rw [ES.out]; rfl, B.out⟩
    | false =>
      go_wp2_with fail
      refine (CQ.out _).mono ?_
      rintro e w2 ⟨rfl, rfl⟩
      clear CQ
      cases h2 with
      | false =>
        go_wp2_with fail
        go_ret
        exact ⟨by rw [ES.out]; rfl, Below.refl _ _⟩
      | true =>
        go_wp2_with fail
        refine (RR.out x2).mono ?_
        rintro e w3 ⟨rfl, hb⟩
        have B := Lib.hid hb
        clear hb
        go_wp2_with fail
        go_ret
        exact ⟨by rw [ES.out]; rfl, B.out⟩
end Go.Proofs.YthomdgnmoapbkaaGreatDoor
end S3

section S4
namespace Go.Proofs.YthomdgnmoapbkaaGreatDoor
open Go.RowKit
def hdB (b : ByteArray) (x : Am) : Bool := L.ltS b x.n && (hardB x.n && decide (0 ≤ x.v))
def hdsUp : ByteArray → List Am → Bool
  | _, [] => true
  | b, x :: r => hdB b x && hdsUp x.n r
def hdsB (l : List Am) : Bool := decide (1 ≤ l.length) && (decide (l.length ≤ 16) && hdsUp ⟨#[]⟩ l)
set_option maxHeartbeats 8000000 in
set_option maxRecDepth 100000 in
theorem hardStands_any (v : Value) (l : List Am) (w : World) (hv : Row kAm w v l) : Calls Tryz.prog 71 #[v] w fun e w' => e = .returned (.bool (hdsB l)) ∧ Below w.heap.size w w' := by
  have V := Lib.hid hv
  obtain ⟨a, cap, rfl, hlc, hcm⟩ := hv.len
  unfold maxLen at hcm
  obtain ⟨n, hn⟩ : ∃ n, n = l.length := ⟨_, rfl⟩
  rw [← hn] at hlc V ⊢
  have HN := Lib.hid hn
  clear hv hn
  by_cases h1 : n < 1
  · have g : decide ((n : Int) < 1) = true := decide_eq_true (by omega)
    have E : Aside (hdsB l = false) := by show _ = _; unfold hdsB; rw [decide_eq_false (by rw [← HN.out]; omega)]; rfl
    go_enter Tryz.func71, Tryz.ntmps71
    go_wp2_with fail
    go_ret
    exact ⟨by rw [E.out]; rfl, Below.refl _ _⟩
  have g1 : decide ((n : Int) < 1) = false := decide_eq_false (by omega)
  by_cases h8 : n > 16
  · have g : decide ((n : Int) > 16) = true := decide_eq_true (by omega)
    have E : Aside (hdsB l = false) := by show _ = _; unfold hdsB; rw [decide_eq_false (show ¬ l.length ≤ 16 by rw [← HN.out]; omega)]; simp
    go_enter Tryz.func71, Tryz.ntmps71
    go_wp2_with fail
    go_ret
    exact ⟨by rw [E.out]; rfl, Below.refl _ _⟩
  have g8 : decide ((n : Int) > 16) = false := decide_eq_false (by omega)
  have E : Aside (hdsB l = hdsUp ⟨#[]⟩ l) := by show _ = _; unfold hdsB; rw [decide_eq_true (show 1 ≤ l.length by rw [← HN.out]; omega), decide_eq_true (show l.length ≤ 16 by rw [← HN.out]; omega)]; rfl
  go_enter Tryz.func71, Tryz.ntmps71
  go_wp2_with fail
  clear g1 g8
  go_loopg [3, 16] n (fun g sb si wr => ∃ (k : Nat) (b : ByteArray), k ≤ n ∧ g = n - k ∧ si = .int .i64 k ∧ sb = .string b ∧ hdsUp ⟨#[]⟩ l = hdsUp b (l.drop k) ∧ Below w.heap.size w wr)
  case atStart => exact ⟨0, ⟨#[]⟩, Nat.zero_le _, rfl, rfl, rfl, rfl, Below.refl _ _⟩
  case round =>
    obtain ⟨k, b0, hk, hg, rfl, rfl, hpr, hb⟩ := hrel
    have R : Aside (gk = n - k ∧ hdsUp ⟨#[]⟩ l = hdsUp b0 (l.drop k) ∧ Below w.heap.size w wr) := ⟨hg, hpr, hb⟩
    clear hg hpr hb
    by_cases hlt : k < n
    · have hlt' : (k : Int) < (n : Int) := by omega
      obtain ⟨b, off, rfl, pc⟩ := (V.out.below R.out.2.2).at k (by rw [← HN.out]; exact hlt)
      obtain ⟨x, hx⟩ : ∃ x, x = l.getD k kAm.z := ⟨_, rfl⟩
      have UP : Aside (hdsUp ⟨#[]⟩ l = (hdB b0 x && hdsUp x.n (l.drop (k + 1)))) := by
        show _ = _
        rw [R.out.2.1, drop_onez l k kAm.z (by rw [← HN.out]; exact hlt), ← hx]; rfl
      rw [← hx] at pc
      clear hx
      obtain ⟨xn, xv⟩ := x
      have c0 : wr.cell? ⟨b, off + k * 2, none⟩ = some (.string xn) := pc 0 _ rfl
      have c1 : wr.cell? ⟨b, off + k * 2 + 1, none⟩ = some (.int .i64 xv) := pc 1 _ rfl
      obtain ⟨X, hX⟩ : ∃ X, X = wr.alloc (.cells #[.string xn, .int .i64 xv] 93) := ⟨_, rfl⟩
      have AX : Hid (Below wr.heap.size wr X) := Lib.hid (by rw [hX]; exact (Below.refl _ wr).alloc (Nat.le_refl _) _)
      have BX : Hid (X.cell? ⟨wr.heap.size, 0, none⟩ = some (.string xn) ∧ X.cell? ⟨wr.heap.size, 1, none⟩ = some (.int .i64 xv)) :=
        Lib.hid ⟨by rw [hX, World.cell?_alloc_new]; rfl, by rw [hX, World.cell?_alloc_new]; rfl⟩
      have b1 := BX.out.1
      have NK := Lib.hid (hardName_any xn)
      have hX' := hX.symm
      clear hX pc
      cases hL : Op.bytesLess b0.toList xn.toList with
      | false =>
        have F : Aside (hdsUp ⟨#[]⟩ l = false) := by show _ = _; rw [UP.out]; unfold hdB L.ltS; rw [hL]; rfl
        by_cases hq : xn.toList = b0.toList
        · have q1 : (xn.toList == b0.toList) = true := by rw [beq_iff_eq]; exact hq
          have q2 : Op.bytesLess xn.toList b0.toList = false := by rw [hq]; exact K.bl_refl _
          clear hq
          go_wp2_with fail
          go_ret
          exact ⟨by rw [E.out, F.out]; rfl, R.out.2.2.trans (AX.out.mono R.out.2.2.size)⟩
        · have q2 : Op.bytesLess xn.toList b0.toList = true := by
            cases q : Op.bytesLess xn.toList b0.toList with
            | true => rfl
            | false => exact absurd (K.bl_total _ _ q hL) hq
          have q1 : (xn.toList == b0.toList) = false := by rw [beq_eq_false_iff_ne]; exact hq
          clear hq
          go_wp2_with fail
          go_ret
          exact ⟨by rw [E.out, F.out]; rfl, R.out.2.2.trans (AX.out.mono R.out.2.2.size)⟩
      | true =>
        have q2 : Op.bytesLess xn.toList b0.toList = false := K.bl_asymm _ _ hL
        have q1 : (xn.toList == b0.toList) = false := by
          rw [beq_eq_false_iff_ne]; intro q; rw [q] at hL; have h9 := K.bl_refl b0.toList; exact absurd (hL.symm.trans h9) (by simp)
        go_wp2_with fail
        refine (NK.out X).mono ?_
        rintro e w2 ⟨rfl, hb⟩
        have B2 := Lib.hid hb
        clear hX' b1 NK
        cases hN : hardB xn with
        | false =>
          have F : Aside (hdsUp ⟨#[]⟩ l = false) := by show _ = _; rw [UP.out]; unfold hdB; simp [hN]
          clear hb
          go_wp2_with fail
          go_ret
          exact ⟨by rw [E.out, F.out]; rfl, R.out.2.2.trans ((AX.out.trans (B2.out.mono AX.out.size)).mono R.out.2.2.size)⟩
        | true =>
          have b1 := (hb.cell (block_lt_of_cell BX.out.2)).trans BX.out.2
          have b2 := (hb.cell (block_lt_of_cell BX.out.1)).trans BX.out.1
          clear hb
          by_cases hR : xv < 0
          · have F : Aside (hdsUp ⟨#[]⟩ l = false) := by show _ = _; rw [UP.out]; unfold hdB; simp only [show decide (0 ≤ xv) = false from decide_eq_false (by omega), Bool.and_false, Bool.false_and]
            have g : decide (xv < 0) = true := decide_eq_true hR
            clear hR
            go_wp2_with fail
            go_ret
            exact ⟨by rw [E.out, F.out]; rfl, R.out.2.2.trans ((AX.out.trans (B2.out.mono AX.out.size)).mono R.out.2.2.size)⟩
          · have g : decide (xv < 0) = false := decide_eq_false hR
            have F : Aside (hdsUp ⟨#[]⟩ l = hdsUp xn (l.drop (k + 1))) := by
              show _ = _
              rw [UP.out]; unfold hdB L.ltS
              simp only [hL, hN, show decide (0 ≤ xv) = true from decide_eq_true (by omega), Bool.and_self, Bool.true_and]
            clear hR hL hN
            go_wp2_with fail
            go_roundg (n - (k + 1))
            case measure => have := R.out.1; omega
            case rel => exact ⟨k + 1, xn, by omega, rfl, by go_num, rfl, F.out, R.out.2.2.trans ((AX.out.trans (B2.out.mono AX.out.size)).mono R.out.2.2.size)⟩
    · have F : Aside (hdsUp ⟨#[]⟩ l = true) := by
        show _ = _
        rw [R.out.2.1, List.drop_eq_nil_of_le (by rw [← HN.out]; omega)]; rfl
      go_wp2_with fail
      go_ret
      exact ⟨by rw [E.out, F.out]; rfl, R.out.2.2⟩
def qtS (q : Qt) : Bool := namedB q.p q.n && (scB q.k q.a && hdsB q.h)
set_option maxHeartbeats 4000000 in
set_option maxRecDepth 100000 in
theorem quotaStands_any (q : Qt) (hs : Value) (w : World) (hm : L.HasM w) (hv : Row kAm w hs q.h) : Calls Tryz.prog 40 #[q.val hs] w fun e w' => e = .returned (.bool (qtS q)) ∧ Below w.heap.size w w' := by
  obtain ⟨p, n, k, a, h⟩ := q
  simp only at hv
  obtain ⟨u1, u3, rfl, hlc, hcm⟩ := hv.len
  have V := Lib.hid hv
  clear hlc hcm hv
  obtain ⟨S, hS⟩ : ∃ S, S = qtS ⟨p, n, k, a, h⟩ := ⟨_, rfl⟩
  have ES : Aside (S = (namedB p n && (scB k a && hdsB h))) := hS
  rw [← hS]
  clear hS
  unfold Qt.val
  simp only
  obtain ⟨X, hX⟩ : ∃ X, X = w.alloc (.cells #[.string p, .string n, .int .i64 k, .int .i64 a, .slice u1 h.length u3] 30) := ⟨_, rfl⟩
  have AX : Hid (Below w.heap.size w X) := Lib.hid (by rw [hX]; exact (Below.refl _ w).alloc (Nat.le_refl _) _)
  have CX : Hid (∀ i y, #[Value.string p, .string n, .int .i64 k, .int .i64 a, .slice u1 h.length u3][i]? = some y → X.cell? ⟨w.heap.size, i, none⟩ = some y) := Lib.hid fun i y h => by
    rw [hX, World.cell?_alloc_new]; exact h
  have d0 := CX.out 0 _ rfl
  have d1 := CX.out 1 _ rfl
  have NA := Lib.hid (named_any p n X (hm.below AX.out))
  have hX' := hX.symm
  clear hX hm
  go_enter Tryz.func40, Tryz.ntmps40
  go_wp2_with fail
  refine NA.out.mono ?_
  rintro e w1 ⟨rfl, hb⟩
  have B1 := Lib.hid hb
  clear hb NA hX' d0 d1
  cases h1 : namedB p n with
  | false =>
    have F : Aside (S = false) := by show _ = _; rw [ES.out, h1]; rfl
    go_wp2_with fail
    go_ret
    exact ⟨by rw [F.out]; rfl, AX.out.trans (B1.out.mono AX.out.size)⟩
  | true =>
  have d2 := (B1.out.cell (block_lt_of_cell (CX.out 2 _ rfl))).trans (CX.out 2 _ rfl)
  have d3 := (B1.out.cell (block_lt_of_cell (CX.out 3 _ rfl))).trans (CX.out 3 _ rfl)
  have NB := Lib.hid (scopeStands_any k a w1)
  go_wp2_with fail
  refine NB.out.mono ?_
  rintro e w2 ⟨rfl, hb⟩
  have B2 := Lib.hid (B1.out.trans (hb.mono B1.out.size))
  clear hb NB d2 d3
  cases h2 : scB k a with
  | false =>
    have F : Aside (S = false) := by show _ = _; rw [ES.out, h2]; simp
    go_wp2_with fail
    go_ret
    exact ⟨by rw [F.out]; rfl, AX.out.trans (B2.out.mono AX.out.size)⟩
  | true =>
  have d3 := (B2.out.cell (block_lt_of_cell (CX.out 4 _ rfl))).trans (CX.out 4 _ rfl)
  have W3 := Lib.hid (hardStands_any _ h w2 ((V.out.below AX.out).below B2.out))
  have F : Aside (S = hdsB h) := by show _ = _; rw [ES.out, h1, h2]; rfl
  go_wp2_with fail
  refine W3.out.mono ?_
  rintro e w3 ⟨rfl, hb⟩
  have B3 := Lib.hid (B2.out.trans (hb.mono B2.out.size))
  clear d3 W3 hb
  go_wp2_with fail
  go_ret
  exact ⟨by rw [F.out]; rfl, AX.out.trans (B3.out.mono AX.out.size)⟩
end Go.Proofs.YthomdgnmoapbkaaGreatDoor
end S4

section S5
namespace Go.Proofs.YthomdgnmoapbkaaGreatDoor
open Go.RowKit
def qtE (b : Qt) : List (List UInt8) := [81] :: [1] :: qtL b
def qtR (b : Qt) : ByteArray × Nat := if qtS b = true then outR (qtE b) else (⟨#[]⟩, 130)
theorem size_qt : (Tryz.prog.info? 30).map (·.size) = some 5 := by kernel_rfl
theorem scB_nice {k a : Int} (h : scB k a = true) : 0 ≤ k ∧ k ≤ 9 ∧ 0 ≤ a ∧ a ≤ 9 := by
  unfold scB inB at h
  by_cases h5 : k = 5
  · rw [if_pos h5] at h
    simp only [Bool.and_eq_true, decide_eq_true_iff] at h
    omega
  · rw [if_neg h5] at h
    simp only [Bool.and_eq_true, decide_eq_true_iff] at h
    omega
theorem hdsUp_nice (l : List Am) (b : ByteArray) (h : hdsUp b l = true) : ∀ x ∈ l, 0 ≤ x.v := by
  induction l generalizing b with
  | nil => intro x hx; cases hx
  | cons y r ih =>
    unfold hdsUp hdB at h
    simp only [Bool.and_eq_true, decide_eq_true_iff] at h
    intro x hx
    rcases List.mem_cons.1 hx with rfl | hx
    · exact h.1.2.2
    · exact ih _ h.2 x hx
theorem qtS_nice (b : Qt) (h : qtS b = true) : (0 ≤ b.k ∧ b.k ≤ 9 ∧ 0 ≤ b.a ∧ b.a ≤ 9) ∧ b.h.length ≤ 4096 ∧ ∀ x ∈ b.h, 0 ≤ x.v := by
  unfold qtS hdsB at h
  simp only [Bool.and_eq_true, decide_eq_true_iff] at h
  exact ⟨scB_nice h.2.1, by omega, hdsUp_nice _ _ h.2.2.2.2⟩
set_option maxHeartbeats 2000000 in
theorem layQ1_any (w0 : World) (bo B g : Nat) (v : Value) (s : WS) (b : Qt) (u1 : Option Addr) (u3 : Nat) (w : World) (H : WAt B w g v s) (h0 : Below w0.heap.size w0 w) (lo : w0.heap.size ≤ B) (hr : Row kAm w0 (.slice u1 b.h.length u3) b.h) (hf : b.Fit) (hn : (0 ≤ b.k ∧ b.k ≤ 9 ∧ 0 ≤ b.a ∧ b.a ≤ 9) ∧ b.h.length ≤ 4096 ∧ ∀ x ∈ b.h, 0 ≤ x.v)
    (hb : w0.heap[bo]? = some (.cells #[.string b.p, .string b.n, .int .i64 b.k, .int .i64 b.a, .slice u1 b.h.length u3] 30 (0, 0))) :
    Calls Tryz.prog 41 #[.pointer (some ⟨g, 0, none⟩), .pointer (some ⟨bo, 0, none⟩)] w fun e w' => e = .returned (.tuple #[]) ∧ Laid B g v ((qtL b).foldl WS.lay s) w w' := by
  have LA := Lib.hid (layQuota_any w0 B g v s b (.slice u1 b.h.length u3) w H h0 lo hr hf hn.1 hn.2.1 hn.2.2)
  have hc : ∀ i y, (#[.string b.p, .string b.n, .int .i64 b.k, .int .i64 b.a, .slice u1 b.h.length u3] : Array Value)[i]? = some y → w.cell? ⟨bo, i, none⟩ = some y := fun i y hy => by
    have q : w0.cell? ⟨bo, i, none⟩ = some y := by rw [cell_of_row w0 bo i _ _ _ hb]; exact hy
    exact (h0.cell (block_lt_of_cell q)).trans q
  have d0 := hc 0 _ rfl
  have d1 := hc 1 _ rfl
  have d2 := hc 2 _ rfl
  have d3 := hc 3 _ rfl
  have d4 := hc 4 _ rfl
  unfold Qt.val at LA
  clear H h0 lo hr hf hn hb hc
  go_enter Tryz.func41, Tryz.ntmps41
  go_wp2_with fail
  refine LA.out.mono ?_
  rintro e w1 ⟨rfl, hl⟩
  have L1 := Lib.hid hl
  clear hl d0 d1 d2 d3 d4
  go_wp2_with fail
  go_end0
  exact ⟨rfl, L1.out⟩
set_option maxHeartbeats 4000000 in
set_option maxRecDepth 100000 in
theorem bytesOfQ_any (bo : Nat) (b : Qt) (u1 : Option Addr) (u3 : Nat) (w : World) (hr : Row kAm w (.slice u1 b.h.length u3) b.h) (hf : b.Fit) (hn : (0 ≤ b.k ∧ b.k ≤ 9 ∧ 0 ≤ b.a ∧ b.a ≤ 9) ∧ b.h.length ≤ 4096 ∧ ∀ x ∈ b.h, 0 ≤ x.v) (hb : w.heap[bo]? = some (.cells #[.string b.p, .string b.n, .int .i64 b.k, .int .i64 b.a, .slice u1 b.h.length u3] 30 (0, 0))) :
    Calls Tryz.prog 26 #[.bool true, .int .u8 81, .func (.func 41) #[] #[.pointer (some ⟨bo, 0, none⟩)]] w fun e w' => e = .returned (.tuple #[.string (outR (qtE b)).1, .int .i64 (outR (qtE b)).2]) ∧ Below w.heap.size w w' := by
  have V := Lib.hid (And.intro hf (And.intro hn hb))
  have RV := Lib.hid hr
  clear hf hn hb hr
  go_enter Tryz.func26, Tryz.ntmps26
  go_wp2_with fail
  refine (newWriter_any 8192 w).mono ?_
  rintro e w3 ⟨rfl, hw, _, hb⟩
  obtain ⟨B, hB⟩ : ∃ B, B = w.heap.size := ⟨_, rfl⟩
  rw [← hB] at hw ⊢
  have W3 : Aside (WW w B B wr0 w3) := ⟨⟨_, hw⟩, by rw [hB]; exact Nat.le_refl _, hb⟩
  clear hw hb hB
  go_wp2_with fail
  refine (W3.out.calls (fun v hv => wByte_eq (n := 81) (c := 81) rfl B B v _ w3 hv)).mono ?_
  rintro e w4 ⟨rfl, hw⟩
  have W4 : Aside (WW w B B (wr0.lay [81]) w4) := hw
  clear hw W3
  go_wp2_with fail
  refine (W4.out.calls (fun v hv => wByte_eq (n := 1) (c := 1) rfl B B v _ w4 hv)).mono ?_
  rintro e w5 ⟨rfl, hw⟩
  have W5 : Aside (WW w B B ((wr0.lay [81]).lay [1]) w5) := hw
  clear hw W4
  go_wp2_with fail
  refine (W5.out.calls (fun v hv => layQ1_any w bo B B v _ b u1 u3 w5 hv W5.out.be W5.out.lo RV.out V.out.1 V.out.2.1 V.out.2.2)).mono ?_
  rintro e w6 ⟨rfl, hw⟩
  have W6 : Aside (WW w B B ((qtE b).foldl WS.lay wr0) w6) := hw
  clear hw W5
  go_wp2_with fail
  obtain ⟨u, hu⟩ := W6.out.wr
  refine (wOut_any _ _ _ _ w6 hu).mono ?_
  rintro e w7 ⟨v2, rfl, ho, hb⟩
  have hc := convT ho.bytes
  have A : Aside (Below w.heap.size w w7) := W6.out.be.trans (hb.mono W6.out.be.size)
  have E : Aside _ := lays_out (qtE b)
  clear ho hb hu
  go_wp2_with fail
  go_ret2
  exact ⟨by rw [← E.out]; rfl, A.out⟩
set_option maxHeartbeats 4000000 in
set_option maxRecDepth 100000 in
theorem encodeQ_any (b : Qt) (hs : Value) (w : World) (hm : L.HasM w) (hr : Row kAm w hs b.h) (hf : b.Fit) :
    Calls Tryz.prog 13 #[b.val hs] w fun e w' => e = .returned (.tuple #[.string (qtR b).1, .int .i64 (qtR b).2]) ∧ Below w.heap.size w w' := by
  obtain ⟨u1, u3, rfl, hlc, hcm⟩ := hr.len
  have RV := Lib.hid hr
  clear hr hlc hcm
  obtain ⟨X, hX⟩ : ∃ X, X = w.alloc (.cells #[.string b.p, .string b.n, .int .i64 b.k, .int .i64 b.a, .slice u1 b.h.length u3] 30) := ⟨_, rfl⟩
  have AX : Hid (Below w.heap.size w X) := Lib.hid (by rw [hX]; exact (Below.refl _ w).alloc (Nat.le_refl _) _)
  have HX : X.heap[w.heap.size]? = some (.cells #[.string b.p, .string b.n, .int .i64 b.k, .int .i64 b.a, .slice u1 b.h.length u3] 30 (0, 0)) := by rw [hX, heap_alloc_new]
  have hc : ∀ i y, (#[.string b.p, .string b.n, .int .i64 b.k, .int .i64 b.a, .slice u1 b.h.length u3] : Array Value)[i]? = some y → X.cell? ⟨w.heap.size, i, none⟩ = some y := fun i y hy => by
    rw [cell_of_row X w.heap.size i _ _ _ HX]; exact hy
  have d0 := hc 0 _ rfl
  have d1 := hc 1 _ rfl
  have d2 := hc 2 _ rfl
  have d3 := hc 3 _ rfl
  have d4 := hc 4 _ rfl
  have V := Lib.hid (And.intro hf HX)
  have OS := Lib.hid (quotaStands_any b _ X (hm.below AX.out) (RV.out.below AX.out))
  unfold Qt.val at OS ⊢
  have hX' := hX.symm
  clear hX HX hc hf hm
  go_enter Tryz.func13, Tryz.ntmps13
  go_wp2_with fail
  refine OS.out.mono ?_
  rintro e w1 ⟨rfl, hb⟩
  have B1 := Lib.hid hb
  clear hb d0 d1 d2 d3 d4 hX' OS
  cases hS : qtS b with
  | false =>
    have E : Aside (qtR b = (⟨#[]⟩, 130)) := by show _ = _; unfold qtR; rw [hS]; rfl
    go_wp2_with fail
    refine (bytesOf_no _ _ w1).mono ?_
    rintro e w2 ⟨rfl, rfl⟩
    go_wp2_with fail
    go_ret2
    exact ⟨by rw [E.out]; rfl, AX.out.trans (B1.out.mono AX.out.size)⟩
  | true =>
    have E : Aside (qtR b = outR (qtE b)) := by show _ = _; unfold qtR; rw [hS]; rfl
    have hv := qtS_nice b hS
    have BO := Lib.hid (bytesOfQ_any w.heap.size b u1 u3 w1 ((RV.out.below AX.out).below B1.out) V.out.1 hv (by rw [B1.out.block w.heap.size (lt_of_some V.out.2)]; exact V.out.2))
    clear hS hv
    go_wp2_with fail
    refine BO.out.mono ?_
    rintro e w2 ⟨rfl, hb⟩
    have B2 := Lib.hid hb
    clear hb BO
    go_wp2_with fail
    go_ret2
    exact ⟨by rw [E.out]; rfl, AX.out.trans ((B1.out.trans (B2.out.mono B1.out.size)).mono AX.out.size)⟩
end Go.Proofs.YthomdgnmoapbkaaGreatDoor
end S5

section S6
namespace Go.Proofs.YthomdgnmoapbkaaGreatDoor
open Go.RowKit
def tkQ (s : RS) : Qt := ⟨txt (s.text 8192).1, txt ((tk1 s).text 8192).1, c8 (tk2 s).byte.1, c8 (tk2 s).byte.2.byte.1, (tkAms (tk2 s).byte.2.byte.2).1⟩
def tkQE (s : RS) : RS := (tkAms (tk2 s).byte.2.byte.2).2
/-- A quota that is being read. -/
structure QK (w : World) (g bz bo : Nat) (s : RS) (cs : Array Value) (W : World) : Prop where
  r : RAt W g s
  z : W.heap[bz]? = some (.cells #[.string ⟨#[]⟩, .string ⟨#[]⟩, .int .i64 0, .int .i64 0, .slice none 0 0] 30 (0, 0))
  o : W.heap[bo]? = some (.cells cs 30 (0, 0))
  ke : Kept (fun k => k = g) w W
  lt : g < w.heap.size
  bs : w.heap.size ≤ bz ∧ w.heap.size ≤ bo ∧ bz ≠ bo
theorem QK.reads {w W W' : World} {g bz bo : Nat} {s s' : RS} {cs : Array Value} (h : QK w g bz bo s cs W) (hr : RAt W' g s') (hk : Kept (fun k => k = g) W W') : QK w g bz bo s' cs W' := by
  have hlt := h.lt
  have hb := h.bs
  exact ⟨hr, by rw [hk.block bz (lt_of_some h.z) (by omega)]; exact h.z, by rw [hk.block bo (lt_of_some h.o) (by omega)]; exact h.o, kept_trans1 h.ke hk, h.lt, h.bs⟩
theorem QK.set {w W : World} {g bz bo : Nat} {s : RS} {cs : Array Value} (h : QK w g bz bo s cs W) (i : Nat) (v : Value) : QK w g bz bo s (cs.setIfInBounds i v) (W.setCell ⟨bo, i, none⟩ v) := by
  have hk : Kept (fun k => k = bo) W (W.setCell ⟨bo, i, none⟩ v) := kept_set _ _ _ rfl
  have hlt := h.lt
  have hb := h.bs
  refine ⟨h.r.kept hk (by omega) (fun b cs m hc e => ?_), by rw [hk.block bz (lt_of_some h.z) (by omega)]; exact h.z, Go.heap_setCell_same W bo i _ _ _ h.o, h.ke.trans hk (fun y hy e => by omega), h.lt, h.bs⟩
  rw [e, h.o] at hc
  simp only [Option.some.injEq, Obj.cells.injEq] at hc
  exact absurd hc.2.1 (by decide)
theorem QK.cell {w W : World} {g bz bo : Nat} {s : RS} {cs : Array Value} (h : QK w g bz bo s cs W) {i : Nat} {y : Value} (hy : cs[i]? = some y) : W.cell? ⟨bo, i, none⟩ = some y := by
  rw [cell_of_row W bo i _ _ _ h.o]; exact hy
theorem QK.free {w W : World} {g bz bo : Nat} {s : RS} {cs : Array Value} (h : QK w g bz bo s cs W) (i : Nat) : W.frozen? ⟨bo, i, none⟩ = false := frozen_of_row _ _ _ _ _ h.o
theorem size_sc : (Tryz.prog.info? 27).map (·.size) = some 2 := by kernel_rfl
set_option maxHeartbeats 4000000 in
set_option maxRecDepth 100000 in
theorem takeQuota_any (g : Nat) (s : RS) (w : World) (H : RAt w g s) :
    Calls Tryz.prog 34 #[.pointer (some ⟨g, 0, none⟩)] w fun e w' => ∃ vh, e = .returned ((tkQ s).val vh) ∧ OwnR kAm w.heap.size w' vh (tkQ s).h ∧ RAt w' g (tkQE s) ∧ Kept (fun k => k = g) w w' := by
  have H0 := Lib.hid H
  clear H
  obtain ⟨X0, hX0⟩ : ∃ X0, X0 = w.alloc (.cells #[.string ⟨#[]⟩, .string ⟨#[]⟩, .int .i64 0, .int .i64 0, .slice none 0 0] 30) := ⟨_, rfl⟩
  have AX : Hid (Below w.heap.size w X0 ∧ X0.heap.size = w.heap.size + 1 ∧ X0.heap[w.heap.size]? = some (.cells #[.string ⟨#[]⟩, .string ⟨#[]⟩, .int .i64 0, .int .i64 0, .slice none 0 0] 30 (0, 0))) := Lib.hid (by
    rw [hX0]; exact ⟨(Below.refl _ w).alloc (Nat.le_refl _) _, by simp, by rw [heap_alloc_new]⟩)
  have R0 : Hid (RAt X0 g s) := Lib.hid (H0.out.below AX.out.1)
  have hX0' := hX0.symm
  clear hX0
  go_enter Tryz.func34, Tryz.ntmps34
  go_wp2_with fail
  clear hX0'
  refine (takeText_any g s X0 R0.out).mono ?_
  rintro e w1 ⟨rfl, hr⟩
  have R1 := Lib.hid hr
  clear hr
  go_wp2_with fail
  refine (takeText_any g _ w1 R1.out.1).mono ?_
  rintro e w2 ⟨rfl, hr⟩
  have R2 : Hid (Read g (tk2 s) X0 w2) := Lib.hid (R1.out.trans hr)
  clear hr R1
  obtain ⟨A, hA⟩ : ∃ A, A = txt (s.text 8192).1 := ⟨_, rfl⟩
  obtain ⟨B, hB⟩ : ∃ B, B = txt ((tk1 s).text 8192).1 := ⟨_, rfl⟩
  have eB : txt ((s.text 8192).2.text 8192).1 = B := hB.symm
  rw [← hA, eB]
  have HA := Lib.hid (And.intro hA hB)
  clear hA hB eB
  obtain ⟨bo, hbo⟩ : ∃ bo, bo = w2.heap.size := ⟨_, rfl⟩
  obtain ⟨X2, hX2⟩ : ∃ X2, X2 = w2.alloc (.cells #[.string A, .string B, .int .i64 0, .int .i64 0, .slice none 0 0] 30) := ⟨_, rfl⟩
  have Q2 : Hid (QK w g w.heap.size bo (tk2 s) #[.string A, .string B, .int .i64 0, .int .i64 0, .slice none 0 0] X2) := Lib.hid (by
    have hlt := H0.out.lt
    have h1 := R2.out.2.size
    have h2 := AX.out.2.1
    have ha : Below w2.heap.size w2 X2 := by rw [hX2]; exact (Below.refl _ w2).alloc (Nat.le_refl _) _
    have hz : w2.heap[w.heap.size]? = some (.cells #[.string ⟨#[]⟩, .string ⟨#[]⟩, .int .i64 0, .int .i64 0, .slice none 0 0] 30 (0, 0)) := by rw [R2.out.2.block w.heap.size (by omega) (by omega)]; exact AX.out.2.2
    refine ⟨R2.out.1.below ha, by rw [ha.block _ (lt_of_some hz)]; exact hz, by rw [hX2, hbo, heap_alloc_new], ?_, hlt, Nat.le_refl _, by omega, by omega⟩
    exact kept_trans1 (kept_trans1 (Below.kept AX.out.1 (fun k => k = g)) R2.out.2) (Below.kept ha (fun k => k = g)))
  have hX2' := Lib.hid hX2.symm
  have hbo' := Lib.hid hbo.symm
  clear hX2 hbo R2 AX R0
  go_wp2_with fail
  rw [hX2'.out, hbo'.out]
  refine (rByte_any g _ X2 Q2.out.r).mono ?_
  rintro e w3 ⟨rfl, hr⟩
  have Q3 := Lib.hid (Q2.out.reads hr.1 hr.2)
  clear hr Q2 hX2' hbo'
  have k8 : 0 ≤ c8 (tk2 s).byte.1 ∧ c8 (tk2 s).byte.1 ≤ 255 := by unfold c8; have := (tk2 s).byte.1.toNat_lt; omega
  obtain ⟨C, hC⟩ : ∃ C, C = c8 (tk2 s).byte.1 := ⟨_, rfl⟩
  rw [← hC] at k8 ⊢
  have HC := Lib.hid hC
  clear hC
  go_wp2_with fail
  refine (rByte_any g _ w3 Q3.out.r).mono ?_
  rintro e w4 ⟨rfl, hr⟩
  have Q4 := Lib.hid (Q3.out.reads hr.1 hr.2)
  clear hr Q3
  have d8 : 0 ≤ c8 (tk2 s).byte.2.byte.1 ∧ c8 (tk2 s).byte.2.byte.1 ≤ 255 := by unfold c8; have := (tk2 s).byte.2.byte.1.toNat_lt; omega
  obtain ⟨D, hD⟩ : ∃ D, D = c8 (tk2 s).byte.2.byte.1 := ⟨_, rfl⟩
  rw [← hD] at d8 ⊢
  have HD := Lib.hid hD
  clear hD
  have TH : Hid (w4.there bo 2 2) := Lib.hid (fun j hj => by
    have h2 := Q4.out.cell (i := 2) rfl
    have h3 := Q4.out.cell (i := 3) rfl
    refine ⟨?_, Q4.out.free _⟩
    match j, hj with
    | 0, _ => rw [h2]; rfl
    | 1, _ => rw [h3]; rfl)
  have O2 : Hid ((#[.int .i64 C, .int .i64 D] : Array Value).all (·.oneCell') = true) := Lib.hid (by simp [Value.oneCell'])
  go_wp2_with (refine wpList_store_mid rfl 27 (.tmp 16) (.tmp 15) rfl bo 2 #[.int .i64 C, .int .i64 D] rfl rfl TH.out size_sc O2.out ?_)
  have Q5 : Hid (QK w g w.heap.size bo (tk2 s).byte.2.byte.2 #[.string A, .string B, .int .i64 C, .int .i64 D, .slice none 0 0] (w4.setCells bo 2 [.int .i64 C, .int .i64 D])) := Lib.hid ((Q4.out.set 2 (.int .i64 C)).set 3 (.int .i64 D))
  clear Q4 TH O2 k8 d8
  obtain ⟨w5, hw5⟩ : ∃ w5, w5 = w4.setCells bo 2 [.int .i64 C, .int .i64 D] := ⟨_, rfl⟩
  have ew : w4.setCells bo 2 (#[.int .i64 C, .int .i64 D] : Array Value).toList = w5 := hw5.symm
  rw [← hw5] at Q5
  rw [ew]
  clear hw5 ew
  go_wp2_with fail
  refine (takeAmounts_any g _ w5 Q5.out.r).mono ?_
  rintro e w6 ⟨ha, hn, hc, rfl, ho, hr, hk⟩
  have Q6 := Lib.hid (Q5.out.reads hr hk)
  have O6 : Hid (OwnR kAm w.heap.size (w6.setCell ⟨bo, 4, none⟩ (.slice ha hn hc)) (.slice ha hn hc) (tkAms (tk2 s).byte.2.byte.2).1) := Lib.hid ((ho.kept (kept_set (F := fun k => k = bo) w6 ⟨bo, 4, none⟩ (.slice ha hn hc) rfl) (fun k e q => by have := (ho.lt k e).1; have := lt_of_some Q5.out.o; omega)).mono Q5.out.ke.size)
  clear ho hr hk Q5
  have k4 := Q6.out.cell (i := 4) rfl
  have f4 := Q6.out.free 4
  have Q7 : Hid (QK w g w.heap.size bo (tkQE s) #[.string A, .string B, .int .i64 C, .int .i64 D, .slice ha hn hc] (w6.setCell ⟨bo, 4, none⟩ (.slice ha hn hc))) := Lib.hid (Q6.out.set 4 (.slice ha hn hc))
  have EV : Aside (tkQ s = ⟨A, B, C, D, (tkAms (tk2 s).byte.2.byte.2).1⟩) := by show _ = _; unfold tkQ; rw [← HA.out.1, ← HA.out.2, ← HC.out, ← HD.out]
  clear HA HC HD Q6
  obtain ⟨w7, hw7⟩ : ∃ w7, w7 = w6.setCell ⟨bo, 4, none⟩ (.slice ha hn hc) := ⟨_, rfl⟩
  rw [← hw7] at Q7 O6
  have hw7' := hw7.symm
  clear hw7
  have c0 := Q7.out.cell (i := 0) rfl
  have c1 := Q7.out.cell (i := 1) rfl
  have c2 := Q7.out.cell (i := 2) rfl
  have c3 := Q7.out.cell (i := 3) rfl
  have c4 := Q7.out.cell (i := 4) rfl
  have ON : Hid ((#[.string A, .string B, .int .i64 C, .int .i64 D, .slice ha hn hc] : Array Value).all (·.oneCell') = true) := Lib.hid (by simp [Value.oneCell'])
  go_wp2_with (refine wpList_store_row rfl 30 (.tmp 2) (.tmp 20) rfl w.heap.size #[.string A, .string B, .int .i64 C, .int .i64 D, .slice ha hn hc] rfl rfl 30 #[.string ⟨#[]⟩, .string ⟨#[]⟩, .int .i64 0, .int .i64 0, .slice none 0 0] Q7.out.z size_qt rfl ON.out ?_)
  have hk := kept_setRow w7 w.heap.size #[.string A, .string B, .int .i64 C, .int .i64 D, .slice ha hn hc]
  have hlt := H0.out.lt
  refine bodyPost_ret (results_cell_row rfl _ _ w.heap.size 30 #[.string A, .string B, .int .i64 C, .int .i64 D, .slice ha hn hc] (0, 0) _ rfl (setRow_heap _ _ _ _ _ _ Q7.out.z) Tryz.underlying30 rfl size_qt) rfl ?_
  have nt : ∀ (t : TypeId), t ≠ 30 → ∀ k cs m, k = w.heap.size → w7.heap[k]? ≠ some (.cells cs t m) := fun t ht k cs m e q => by
    rw [e, Q7.out.z] at q; simp only [Option.some.injEq, Obj.cells.injEq] at q; exact ht q.2.1.symm
  refine ⟨.slice ha hn hc, by rw [EV.out]; rfl, by rw [EV.out]; exact O6.out.kept_ty hk (nt _ (by decide)), Q7.out.r.kept hk (by omega) (fun b cs m hc e => nt _ (by decide) b cs m e hc), Q7.out.ke.trans hk (fun y hy e => by omega)⟩
end Go.Proofs.YthomdgnmoapbkaaGreatDoor
end S6

section S7
namespace Go.Proofs.YthomdgnmoapbkaaGreatDoor
open Go.RowKit
def Qt.z : Qt := ⟨⟨#[]⟩, ⟨#[]⟩, 0, 0, []⟩
theorem OwnR.keptB {α : Type} {K : Kd α} {B : Nat} {F : Nat → Prop} {w w' : World} {v : Value} {l : List α} (H : OwnR K B w v l) (hk : Kept F w w') (hF : ∀ k, F k → k < B) : OwnR K B w' v l :=
  H.kept hk (fun k e q => by have := (H.lt k e).1; have := hF k q; omega)
def dcQ (t : ByteArray) : Qt := tkQ (rs2 t)
def decQ (t : ByteArray) : Qt × Nat := if qtR (dcQ t) = (t, 0) then (dcQ t, 0) else (Qt.z, 2)
theorem tkQ_fit (s : RS) : (tkQ s).Fit := by
  have t1 := text_sz s
  have t2 := text_sz (tk1 s)
  have t3 := tkAms_fit (tk2 s).byte.2.byte.2
  have hb : 0 ≤ c8 (tk2 s).byte.1 ∧ c8 (tk2 s).byte.1 ≤ 255 := by unfold c8; have := (tk2 s).byte.1.toNat_lt; omega
  have hc : 0 ≤ c8 (tk2 s).byte.2.byte.1 ∧ c8 (tk2 s).byte.2.byte.1 ≤ 255 := by unfold c8; have := (tk2 s).byte.2.byte.1.toNat_lt; omega
  unfold tkQ
  generalize txt (s.text 8192).1 = A at t1 ⊢
  generalize txt ((tk1 s).text 8192).1 = B at t2 ⊢
  generalize (tkAms (tk2 s).byte.2.byte.2).1 = E at t3 ⊢
  generalize c8 (tk2 s).byte.2.byte.1 = D at hc ⊢
  generalize c8 (tk2 s).byte.1 = C at hb ⊢
  exact ⟨⟨by show A.size ≤ _; omega, by show B.size ≤ _; omega⟩, ⟨by show _ ≤ C; omega, by show C ≤ _; omega, by show _ ≤ D; omega, by show D ≤ _; omega⟩, t3⟩
theorem load_qt {w : World} {g : Nat} {a : Array Value} (h : w.heap[g]? = some (.cells a 30 (0, 0))) (hs : a.size = 5) : (loadVar 30 ⟨g, 0, none⟩).run Tryz.prog w = .ok (.agg a) w :=
  run_loadVar_row w g _ _ _ _ _ h Tryz.underlying30 rfl (by rw [hs]; exact size_qt)
set_option maxHeartbeats 8000000 in
set_option maxRecDepth 100000 in
theorem decodedQ_any (t : ByteArray) (w : World) (hm : L.HasM w) (ht : t.size ≤ 140737488355328) :
    Calls Tryz.prog 33 #[.string t, .func (.func 34) #[] #[], .func (.func 13) #[] #[]] w fun e w' => ∃ vl, e = .returned (.tuple #[(decQ t).1.val vl, .int .i64 (decQ t).2]) ∧ OwnR kAm w.heap.size w' vl (decQ t).1.h ∧ Below w.heap.size w w' := by
  obtain ⟨X0, hX0⟩ : ∃ X0, X0 = w.alloc (.cells #[.string ⟨#[]⟩, .string ⟨#[]⟩, .int .i64 0, .int .i64 0, .slice none 0 0] 30) := ⟨_, rfl⟩
  have AX : Hid (Below w.heap.size w X0 ∧ X0.heap.size = w.heap.size + 1 ∧ X0.heap[w.heap.size]? = some (.cells #[.string ⟨#[]⟩, .string ⟨#[]⟩, .int .i64 0, .int .i64 0, .slice none 0 0] 30 (0, 0))) := Lib.hid (by
    rw [hX0]; exact ⟨(Below.refl _ w).alloc (Nat.le_refl _) _, by simp, by rw [heap_alloc_new]⟩)
  obtain ⟨cap, w1, hcv, hb1, hby⟩ := conv_text X0 t ht
  have HM := Lib.hid hm
  have C1 : Aside (Below X0.heap.size X0 w1 ∧ Bytes w1 (.slice (some ⟨X0.heap.size, 0, none⟩) t.size cap) t.data.toList) := ⟨hb1, hby⟩
  have hX0' := hX0.symm
  clear hb1 hby hX0 hm
  go_enter Tryz.func33, Tryz.ntmps33
  go_wp2_with fail
  clear hX0'
  refine (newReader_any _ t.data.toList w1 C1.out.2 (by rw [str_size]; omega)).mono ?_
  rintro e w2 ⟨g, rfl, hr, hg, hb⟩
  have hw1 := C1.out.1.size
  have h1 := AX.out.2.1
  have R2 : Aside (RAt w2 g ⟨t.data.toList, 0⟩ ∧ w.heap.size + 1 ≤ g ∧ Below (w.heap.size + 1) X0 w2) := ⟨hr, by omega, (C1.out.1.mono (by omega)).trans (hb.mono (by omega))⟩
  clear hr hg hb C1 hcv hw1 h1
  go_wp2_with fail
  refine (rByte_any g _ w2 R2.out.1).mono ?_
  rintro e w3 ⟨rfl, hl⟩
  have R3 : Aside (RAt w3 g (RS.byte ⟨t.data.toList, 0⟩).2 ∧ w.heap.size + 1 ≤ g ∧ Below (w.heap.size + 1) X0 w3) := ⟨hl.1, R2.out.2.1, R2.out.2.2.trans (hl.2.below (by have := R2.out.2.2.size; have := AX.out.2.1; omega) (fun x hx => by rw [hx]; exact R2.out.2.1))⟩
  clear hl R2
  go_wp2_with fail
  refine (rByte_any g _ w3 R3.out.1).mono ?_
  rintro e w4 ⟨rfl, hl⟩
  have R4 : Aside (RAt w4 g (rs2 t) ∧ w.heap.size + 1 ≤ g ∧ Below (w.heap.size + 1) X0 w4) := ⟨hl.1, R3.out.2.1, R3.out.2.2.trans (hl.2.below (by have := R3.out.2.2.size; have := AX.out.2.1; omega) (fun x hx => by rw [hx]; exact R3.out.2.1))⟩
  clear hl R3
  go_wp2_with fail
  refine (takeQuota_any g _ w4 R4.out.1).mono ?_
  rintro e w5 ⟨vl, rfl, hv, _, hk⟩
  obtain ⟨la, lc, rfl⟩ := hv.slice
  obtain ⟨o, ho⟩ : ∃ o, o = tkQ (rs2 t) := ⟨_, rfl⟩
  rw [← ho] at hv ⊢
  obtain ⟨ln, hln⟩ : ∃ ln, ln = o.h.length := ⟨_, rfl⟩
  rw [← hln] at hv ⊢
  have R5 : Aside (Below (w.heap.size + 1) X0 w5 ∧ OwnR kAm (w.heap.size + 1) w5 (.slice la ln lc) o.h) := ⟨R4.out.2.2.trans (hk.below (by have := R4.out.2.2.size; have := AX.out.2.1; omega) (fun x hx => by rw [hx]; exact R4.out.2.1)), hv.mono (by have := R4.out.2.2.size; have := AX.out.2.1; omega)⟩
  have HO : Aside (o = dcQ t ∧ o.Fit) := ⟨ho, by rw [ho]; exact tkQ_fit _⟩
  clear hv hk R4 ho hln
  unfold Qt.val
  obtain ⟨X5, hX5⟩ : ∃ X5, X5 = w5.alloc (.cells #[.string o.p, .string o.n, .int .i64 o.k, .int .i64 o.a, .slice la ln lc] 30) := ⟨_, rfl⟩
  obtain ⟨b9, hb9⟩ : ∃ b9, b9 = w5.heap.size := ⟨_, rfl⟩
  have A5 : Hid (Below w5.heap.size w5 X5 ∧ X5.heap[b9]? = some (.cells #[.string o.p, .string o.n, .int .i64 o.k, .int .i64 o.a, .slice la ln lc] 30 (0, 0))) := Lib.hid (by
    rw [hX5, hb9]; exact ⟨(Below.refl _ _).alloc (Nat.le_refl _) _, by rw [heap_alloc_new]⟩)
  have cc : ∀ i y, (#[.string o.p, .string o.n, .int .i64 o.k, .int .i64 o.a, .slice la ln lc] : Array Value)[i]? = some y → X5.cell? ⟨b9, i, none⟩ = some y := fun i y hy => by
    rw [cell_of_row X5 b9 i _ _ _ A5.out.2]; exact hy
  have CC := Lib.hid cc
  have k0 := CC.out 0 _ rfl
  have k1 := CC.out 1 _ rfl
  have k2 := CC.out 2 _ rfl
  have k3 := CC.out 3 _ rfl
  have k4 := CC.out 4 _ rfl
  have V5 : Hid (OwnR kAm (w.heap.size + 1) X5 (.slice la ln lc) o.h) := Lib.hid (R5.out.2.below A5.out.1)
  have B5 : Hid (Below (w.heap.size + 1) X0 X5) := Lib.hid (R5.out.1.trans (A5.out.1.mono (by have := R5.out.1.size; have := AX.out.2.1; omega)))
  have BW : ∀ (Z : World), Below (w.heap.size + 1) X0 Z → Below w.heap.size w Z := fun Z hz => AX.out.1.trans (hz.mono (Nat.le_succ _))
  have HB := Lib.hid BW
  have EN := Lib.hid (encodeQ_any o _ X5 (HM.out.below (BW _ B5.out)) (V5.out.row okAm) HO.out.2)
  have hX5' := hX5.symm
  have hb9' := hb9.symm
  clear hX5 hb9 cc BW
  unfold Qt.val at EN
  go_wp2_with fail
  refine EN.out.mono ?_
  rintro e w6 ⟨rfl, hb⟩
  have B6 := Lib.hid hb
  clear hb EN hX5' k0 k1 k2 k3 k4
  have B6' : Hid (Below (w.heap.size + 1) X0 w6) := Lib.hid (B5.out.trans (B6.out.mono (by have := B5.out.size; have := AX.out.2.1; omega)))
  have Z6 : Hid (w6.heap[w.heap.size]? = some (.cells #[.string ⟨#[]⟩, .string ⟨#[]⟩, .int .i64 0, .int .i64 0, .slice none 0 0] 30 (0, 0))) := Lib.hid (by rw [B6'.out.block w.heap.size (by omega)]; exact AX.out.2.2)
  have ON : Hid ((#[.string o.p, .string o.n, .int .i64 o.k, .int .i64 o.a, .slice la ln lc] : Array Value).all (·.oneCell') = true) := Lib.hid (by simp [Value.oneCell'])
  have ONZ : Hid ((#[.string ⟨#[]⟩, .string ⟨#[]⟩, .int .i64 0, .int .i64 0, .slice none 0 0] : Array Value).all (·.oneCell') = true) := Lib.hid (by simp [Value.oneCell'])
  obtain ⟨T, hT⟩ : ∃ T, T = (qtR o).1 := ⟨_, rfl⟩
  obtain ⟨C, hC⟩ : ∃ C, C = (qtR o).2 := ⟨_, rfl⟩
  rw [← hT, ← hC]
  have EO : Aside (qtR (dcQ t) = (T, C)) := by show _ = _; rw [← HO.out.1, hT, hC]
  clear hT hC
  have NO : Aside (¬ (T, C) = (t, 0) → decQ t = (Qt.z, 2)) := fun q => by unfold decQ; rw [EO.out, if_neg q]
  have noend : Hid (∀ {Z : World} {K : Prop}, Below w6.heap.size w6 Z → True) := Lib.hid fun _ => trivial
  clear noend
  by_cases hE : C = 0
  · subst hE
    by_cases hq : T = t
    · have E : Aside (decQ t = (o, 0)) := by
        show _ = _
        unfold decQ
        rw [EO.out, hq, if_pos rfl, HO.out.1]
      have g1 : (T.toList == t.toList) = true := by rw [hq]; simp
      clear hq NO
      have k0 := (B6.out.cell (block_lt_of_cell (CC.out 0 _ rfl))).trans (CC.out 0 _ rfl)
      have k1 := (B6.out.cell (block_lt_of_cell (CC.out 1 _ rfl))).trans (CC.out 1 _ rfl)
      have k2 := (B6.out.cell (block_lt_of_cell (CC.out 2 _ rfl))).trans (CC.out 2 _ rfl)
      have k3 := (B6.out.cell (block_lt_of_cell (CC.out 3 _ rfl))).trans (CC.out 3 _ rfl)
      have k4 := (B6.out.cell (block_lt_of_cell (CC.out 4 _ rfl))).trans (CC.out 4 _ rfl)
      go_wp2_with (refine wpList_store_row rfl 30 (.tmp 6) (.tmp 37) rfl w.heap.size #[.string o.p, .string o.n, .int .i64 o.k, .int .i64 o.a, .slice la ln lc] rfl rfl 30 #[.string ⟨#[]⟩, .string ⟨#[]⟩, .int .i64 0, .int .i64 0, .slice none 0 0] Z6.out size_qt rfl ON.out ?_)
      have hk := kept_setRow w6 w.heap.size #[.string o.p, .string o.n, .int .i64 o.k, .int .i64 o.a, .slice la ln lc]
      refine bodyPost_ret (results_ob rfl _ _ ⟨w.heap.size, 0, none⟩ (.agg #[.string o.p, .string o.n, .int .i64 o.k, .int .i64 o.a, .slice la ln lc]) rfl (load_qt (setRow_heap _ _ _ _ _ _ Z6.out) rfl)) rfl ?_
      refine ⟨.slice la ln lc, by rw [E.out]; rfl, ?_, (HB.out _ B6'.out).trans (hk.below (HB.out _ B6'.out).size (fun x hx => by omega))⟩
      rw [E.out]
      exact ((V5.out.below B6.out).keptB hk (fun k e => by omega)).mono (Nat.le_succ _)
    · have E : Aside (decQ t = (Qt.z, 2)) := NO.out (fun q => hq (congrArg Prod.fst q))
      have g1 : (T.toList == t.toList) = false := by
        rw [beq_eq_false_iff_ne]; intro q; exact hq (same_of_list q)
      clear hq NO
      have ZA : Hid ((w6.alloc (.cells #[.string ⟨#[]⟩, .string ⟨#[]⟩, .int .i64 0, .int .i64 0, .slice none 0 0] 30)).heap[w.heap.size]? = some (.cells #[.string ⟨#[]⟩, .string ⟨#[]⟩, .int .i64 0, .int .i64 0, .slice none 0 0] 30 (0, 0))) := Lib.hid (by rw [Below.heap_alloc _ _ _ (lt_of_some Z6.out)]; exact Z6.out)
      go_wp2_with (refine wpList_store_row rfl 30 (.tmp 6) (.tmp 36) rfl w.heap.size #[.string ⟨#[]⟩, .string ⟨#[]⟩, .int .i64 0, .int .i64 0, .slice none 0 0] rfl rfl 30 #[.string ⟨#[]⟩, .string ⟨#[]⟩, .int .i64 0, .int .i64 0, .slice none 0 0] ZA.out size_qt rfl ONZ.out ?_)
      have hk := kept_setRow (w6.alloc (.cells #[.string ⟨#[]⟩, .string ⟨#[]⟩, .int .i64 0, .int .i64 0, .slice none 0 0] 30)) w.heap.size #[.string ⟨#[]⟩, .string ⟨#[]⟩, .int .i64 0, .int .i64 0, .slice none 0 0]
      have BZ : Below w.heap.size w (w6.alloc (.cells #[.string ⟨#[]⟩, .string ⟨#[]⟩, .int .i64 0, .int .i64 0, .slice none 0 0] 30)) := (HB.out _ B6'.out).trans (((Below.refl _ w6).alloc (Nat.le_refl _) _).mono (HB.out _ B6'.out).size)
      refine bodyPost_ret (results_ob rfl _ _ ⟨w.heap.size, 0, none⟩ (.agg #[.string ⟨#[]⟩, .string ⟨#[]⟩, .int .i64 0, .int .i64 0, .slice none 0 0]) rfl (load_qt (setRow_heap _ _ _ _ _ _ ZA.out) rfl)) rfl ?_
      refine ⟨.slice none 0 0, by rw [E.out]; rfl, by rw [E.out]; exact OwnR.nil _ _ _, BZ.trans (hk.below BZ.size (fun x hx => by omega))⟩
  · have E : Aside (decQ t = (Qt.z, 2)) := NO.out (fun q => hE (congrArg Prod.snd q))
    have h1 : ¬ (C : Int) = 0 := by omega
    have g1 : ((C : Int) != 0) = true := by rw [bne_iff_ne]; exact h1
    clear NO hE
    have ZA : Hid ((w6.alloc (.cells #[.string ⟨#[]⟩, .string ⟨#[]⟩, .int .i64 0, .int .i64 0, .slice none 0 0] 30)).heap[w.heap.size]? = some (.cells #[.string ⟨#[]⟩, .string ⟨#[]⟩, .int .i64 0, .int .i64 0, .slice none 0 0] 30 (0, 0))) := Lib.hid (by rw [Below.heap_alloc _ _ _ (lt_of_some Z6.out)]; exact Z6.out)
    go_wp2_with (refine wpList_store_row rfl 30 (.tmp 6) (.tmp 36) rfl w.heap.size #[.string ⟨#[]⟩, .string ⟨#[]⟩, .int .i64 0, .int .i64 0, .slice none 0 0] rfl rfl 30 #[.string ⟨#[]⟩, .string ⟨#[]⟩, .int .i64 0, .int .i64 0, .slice none 0 0] ZA.out size_qt rfl ONZ.out ?_)
    have hk := kept_setRow (w6.alloc (.cells #[.string ⟨#[]⟩, .string ⟨#[]⟩, .int .i64 0, .int .i64 0, .slice none 0 0] 30)) w.heap.size #[.string ⟨#[]⟩, .string ⟨#[]⟩, .int .i64 0, .int .i64 0, .slice none 0 0]
    have BZ : Below w.heap.size w (w6.alloc (.cells #[.string ⟨#[]⟩, .string ⟨#[]⟩, .int .i64 0, .int .i64 0, .slice none 0 0] 30)) := (HB.out _ B6'.out).trans (((Below.refl _ w6).alloc (Nat.le_refl _) _).mono (HB.out _ B6'.out).size)
    refine bodyPost_ret (results_ob rfl _ _ ⟨w.heap.size, 0, none⟩ (.agg #[.string ⟨#[]⟩, .string ⟨#[]⟩, .int .i64 0, .int .i64 0, .slice none 0 0]) rfl (load_qt (setRow_heap _ _ _ _ _ _ ZA.out) rfl)) rfl ?_
    refine ⟨.slice none 0 0, by rw [E.out]; rfl, by rw [E.out]; exact OwnR.nil _ _ _, BZ.trans (hk.below BZ.size (fun x hx => by omega))⟩
set_option maxHeartbeats 2000000 in
theorem decodeQ_any (t : ByteArray) (w : World) (hm : L.HasM w) (ht : t.size ≤ 140737488355328) :
    Calls Tryz.prog 9 #[.string t] w fun e w' => ∃ vl, e = .returned (.tuple #[(decQ t).1.val vl, .int .i64 (decQ t).2]) ∧ OwnR kAm w.heap.size w' vl (decQ t).1.h ∧ Below w.heap.size w w' := by
  obtain ⟨X0, hX0⟩ : ∃ X0, X0 = w.alloc (.cells #[.string ⟨#[]⟩, .string ⟨#[]⟩, .int .i64 0, .int .i64 0, .slice none 0 0] 30) := ⟨_, rfl⟩
  have AX : Hid (Below w.heap.size w X0 ∧ X0.heap.size = w.heap.size + 1 ∧ X0.heap[w.heap.size]? = some (.cells #[.string ⟨#[]⟩, .string ⟨#[]⟩, .int .i64 0, .int .i64 0, .slice none 0 0] 30 (0, 0))) := Lib.hid (by
    rw [hX0]; exact ⟨(Below.refl _ w).alloc (Nat.le_refl _) _, by simp, by rw [heap_alloc_new]⟩)
  have DE := Lib.hid (decodedQ_any t X0 (hm.below AX.out.1) ht)
  have hX0' := hX0.symm
  clear hX0 hm
  go_enter Tryz.func9, Tryz.ntmps9
  go_wp2_with fail
  clear hX0'
  refine DE.out.mono ?_
  rintro e w1 ⟨vl, rfl, hv, hb⟩
  obtain ⟨la, lc, rfl⟩ := hv.slice
  obtain ⟨o, ho⟩ : ∃ o, o = (decQ t).1 := ⟨_, rfl⟩
  rw [← ho] at hv ⊢
  obtain ⟨ln, hln⟩ : ∃ ln, ln = o.h.length := ⟨_, rfl⟩
  rw [← hln] at hv ⊢
  have V1 := Lib.hid hv
  have B1 := Lib.hid hb
  have Z1 : Hid (w1.heap[w.heap.size]? = some (.cells #[.string ⟨#[]⟩, .string ⟨#[]⟩, .int .i64 0, .int .i64 0, .slice none 0 0] 30 (0, 0))) := Lib.hid (by rw [hb.block w.heap.size (by have := AX.out.2.1; omega)]; exact AX.out.2.2)
  have ON : Hid ((#[.string o.p, .string o.n, .int .i64 o.k, .int .i64 o.a, .slice la ln lc] : Array Value).all (·.oneCell') = true) := Lib.hid (by simp [Value.oneCell'])
  have HO : Aside ((decQ t).1 = o) := ho.symm
  clear hv hb ho hln DE
  unfold Qt.val
  go_wp2_with (refine wpList_store_row rfl 30 (.tmp 2) (.tmp 6) rfl w.heap.size #[.string o.p, .string o.n, .int .i64 o.k, .int .i64 o.a, .slice la ln lc] rfl rfl 30 #[.string ⟨#[]⟩, .string ⟨#[]⟩, .int .i64 0, .int .i64 0, .slice none 0 0] Z1.out size_qt rfl ON.out ?_)
  have hk := kept_setRow w1 w.heap.size #[.string o.p, .string o.n, .int .i64 o.k, .int .i64 o.a, .slice la ln lc]
  have BW : Below w.heap.size w w1 := AX.out.1.trans (B1.out.mono AX.out.1.size)
  refine bodyPost_ret (results_ob rfl _ _ ⟨w.heap.size, 0, none⟩ (.agg #[.string o.p, .string o.n, .int .i64 o.k, .int .i64 o.a, .slice la ln lc]) rfl (load_qt (setRow_heap _ _ _ _ _ _ Z1.out) rfl)) rfl ?_
  refine ⟨.slice la ln lc, by rw [HO.out]; rfl, by rw [HO.out]; exact (V1.out.keptB hk (fun k e => by have := AX.out.2.1; omega)).mono AX.out.1.size, BW.trans (hk.below BW.size (fun x hx => by omega))⟩
end Go.Proofs.YthomdgnmoapbkaaGreatDoor
end S7

section S8
namespace Go.Proofs.YthomdgnmoapbkaaGreatDoor
open Go.RowKit
structure Rl where
  r : ByteArray
  a : Int
  b : Int
  c : Int
  d : Int
  e : Int
def kRl : Kd Rl := ⟨fun x => [.string x.r, .int .i64 x.a, .int .i64 x.b, .int .i64 x.c, .int .i64 x.d, .int .i64 x.e], 6, 89, 31, 56, ⟨⟨#[]⟩, 0, 0, 0, 0, 0⟩⟩
theorem okRl : kRl.Ok := ⟨fun _ => rfl, by decide, fun x u hu => by simp only [kRl, List.mem_cons, List.not_mem_nil, or_false] at hu; rcases hu with rfl | rfl | rfl | rfl | rfl | rfl <;> rfl, Tryz.underlying31, ⟨_, (by kernel_rfl : (Tryz.prog.info? 89).map (fun i => (i.zero, i.size, i.bytes)) = some (some (.agg #[.string ⟨#[]⟩, .int .i64 0, .int .i64 0, .int .i64 0, .int .i64 0, .int .i64 0]), 6, 56)), rfl⟩, by decide⟩
def fits (n : Int) : Prop := -9223372036854775808 ≤ n ∧ n < 9223372036854775808
structure Rl.Fit (x : Rl) : Prop where
  r : x.r.size ≤ 140737488355328
  n : fits x.a ∧ fits x.b ∧ fits x.c ∧ fits x.d ∧ fits x.e
structure Lr where
  p : ByteArray
  n : ByteArray
  rs : List Rl
def Lr.val (l : Lr) (v : Value) : Value := .agg #[.string l.p, .string l.n, v]
structure Lr.Fit (l : Lr) : Prop where
  s : l.p.size ≤ 140737488355328 ∧ l.n.size ≤ 140737488355328
  r : ∀ x ∈ l.rs, x.Fit
def rlE (x : Rl) : List (List UInt8) := [tx x.r, form (zig x.a), form (zig x.b), form (zig x.c), form (zig x.d), form (zig x.e)]
def lrL (l : Lr) : List (List UInt8) := [tx l.p, tx l.n, form l.rs.length] ++ l.rs.flatMap rlE
set_option maxHeartbeats 8000000 in
set_option maxRecDepth 100000 in
theorem layLimit_any (w0 : World) (B g : Nat) (v : Value) (s : WS) (l : Lr) (u : Value) (w : World) (H : WAt B w g v s) (h0 : Below w0.heap.size w0 w) (lo : w0.heap.size ≤ B) (hv : Row kRl w0 u l.rs) (hf : l.Fit) (hl : l.rs.length ≤ 4096) :
    Calls Tryz.prog 45 #[.pointer (some ⟨g, 0, none⟩), l.val u] w fun e w' => e = .returned (.tuple #[]) ∧ Laid B g v ((lrL l).foldl WS.lay s) w w' := by
  obtain ⟨lp, ln, rs⟩ := l
  simp only at hv hl
  obtain ⟨u1, u3, rfl, hlc, hcm⟩ := hv.len
  unfold maxLen at hcm
  have SZ : Aside (lp.size ≤ 140737488355328 ∧ ln.size ≤ 140737488355328) := hf.s
  have FR : Aside (∀ x ∈ rs, x.Fit) := hf.r
  have V : Aside (WAt B w g v s ∧ Below w0.heap.size w0 w ∧ w0.heap.size ≤ B ∧ Row kRl w0 (.slice u1 rs.length u3) rs) := ⟨H, h0, lo, hv⟩
  obtain ⟨n, hn⟩ : ∃ n, n = rs.length := ⟨_, rfl⟩
  have EL : Aside (lrL ⟨lp, ln, rs⟩ = [tx lp, tx ln, form n] ++ rs.flatMap rlE) := by show _ = _; rw [hn]; rfl
  unfold Lr.val
  simp only
  rw [← hn] at hlc hl V ⊢
  have HN := Lib.hid hn
  obtain ⟨cs, hcs⟩ : ∃ cs : Array Value, cs = #[.string lp, .string ln, .slice u1 n u3] := ⟨_, rfl⟩
  obtain ⟨bo, hbo⟩ : ∃ bo, bo = w.heap.size := ⟨_, rfl⟩
  have W0 : Aside (LX w B g v s [(bo, cs, 33)] (w.alloc (.cells #[.string lp, .string ln, .slice u1 n u3] 33))) := by
    rw [hcs, hbo]; exact (Laid.refl H).lx.box _ _
  have CSA : Aside (cs = #[.string lp, .string ln, .slice u1 n u3]) := hcs
  clear hcs H h0 lo hv hf hn
  have c0 := W0.out.cell (List.mem_cons_self ..) (i := 0) (by rw [CSA.out]; rfl)
  rw [hbo] at c0
  rw [EL.out]
  go_enter Tryz.func45, Tryz.ntmps45
  go_wp2_with fail
  rw [← hbo]
  clear hbo
  refine (W0.out.calls (fun v' hv => wText_any B g v' _ lp _ SZ.out.1 hv)).mono ?_
  rintro e w1 ⟨rfl, hw⟩
  have W1 : Aside (LX w B g v (s.lay (tx lp)) [(bo, cs, 33)] w1) := hw
  clear hw W0 c0
  have c1 := W1.out.cell (List.mem_cons_self ..) (i := 1) (by rw [CSA.out]; rfl)
  go_wp2_with fail
  refine (W1.out.calls (fun v' hv => wText_any B g v' _ ln _ SZ.out.2 hv)).mono ?_
  rintro e w2 ⟨rfl, hw⟩
  have W2 : Aside (LX w B g v ((s.lay (tx lp)).lay (tx ln)) [(bo, cs, 33)] w2) := hw
  clear hw W1 c1
  have c2 := W2.out.cell (List.mem_cons_self ..) (i := 2) (by rw [CSA.out]; rfl)
  go_wp2_with fail
  refine (W2.out.calls (fun v' hv => wCount_any B g v' _ (n : Int) _ hv)).mono ?_
  rintro e w3 ⟨rfl, hw⟩
  rw [count_form _ _ hl] at hw
  have W3 : Aside (LX w B g v (((s.lay (tx lp)).lay (tx ln)).lay (form n)) [(bo, cs, 33)] w3) := hw
  clear hw W2 c2
  have c2 := W3.out.cell (List.mem_cons_self ..) (i := 2) (by rw [CSA.out]; rfl)
  obtain ⟨s1, hs1⟩ : ∃ s1, s1 = ((s.lay (tx lp)).lay (tx ln)).lay (form n) := ⟨_, rfl⟩
  have S1 : Aside (s1 = [tx lp, tx ln, form n].foldl WS.lay s) := hs1
  rw [← hs1] at W3
  clear hs1
  go_wp2_with fail
  go_loopg [22] n (fun gg si wr => ∃ (k : Nat), k ≤ n ∧ gg = n - k ∧ si = .int .i64 k ∧ LX w B g v (((rs.take k).flatMap rlE).foldl WS.lay s1) [(bo, cs, 33)] wr)
  case atStart => exact ⟨0, Nat.zero_le _, rfl, rfl, W3.out⟩
  case round =>
    clear W3 c2
    obtain ⟨k, hk, hg, rfl, hw⟩ := hrel
    have R : Aside (gk = n - k ∧ LX w B g v (((rs.take k).flatMap rlE).foldl WS.lay s1) [(bo, cs, 33)] wr) := ⟨hg, hw⟩
    clear hg hw
    by_cases hlt : k < n
    · have hlt2 : k < rs.length := by rw [← HN.out]; exact hlt
      obtain ⟨b, off, rfl, pc⟩ := (V.out.2.2.2.below (R.out.2.laid.belowB V.out.1 V.out.2.1 V.out.2.2.1)).at k hlt2
      have HS := FR.out _ (getD_in (d := kRl.z) hlt2)
      obtain ⟨x, hx⟩ : ∃ x, x = rs.getD k kRl.z := ⟨_, rfl⟩
      rw [← hx] at pc HS
      obtain ⟨s4, hsx⟩ : ∃ s4, s4 = ((rs.take k).flatMap rlE).foldl WS.lay s1 := ⟨_, rfl⟩
      have X : Aside ((rlE x).foldl WS.lay s4 = ((rs.take (k + 1)).flatMap rlE).foldl WS.lay s1) := by
        show _ = _
        rw [take_onez rs k kRl.z hlt2, ← hx, List.flatMap_append, List.foldl_append, ← hsx, List.flatMap_cons, List.flatMap_nil, List.append_nil]
      have W := R.out.2
      rw [← hsx] at W
      clear hx hsx hlt2
      have G : Aside (gk = n - k) := R.out.1
      clear R
      obtain ⟨xr, x1, x2, x3, x4, x5⟩ := x
      have p0 : wr.cell? ⟨b, off + k * 6, none⟩ = some (.string xr) := pc 0 _ rfl
      have p1 : wr.cell? ⟨b, off + k * 6 + 1, none⟩ = some (.int .i64 x1) := pc 1 _ rfl
      have p2 : wr.cell? ⟨b, off + k * 6 + 2, none⟩ = some (.int .i64 x2) := pc 2 _ rfl
      have p3 : wr.cell? ⟨b, off + k * 6 + 3, none⟩ = some (.int .i64 x3) := pc 3 _ rfl
      have p4 : wr.cell? ⟨b, off + k * 6 + 4, none⟩ = some (.int .i64 x4) := pc 4 _ rfl
      have p5 : wr.cell? ⟨b, off + k * 6 + 5, none⟩ = some (.int .i64 x5) := pc 5 _ rfl
      have HZ : Aside (xr.size ≤ 140737488355328 ∧ fits x1 ∧ fits x2 ∧ fits x3 ∧ fits x4 ∧ fits x5) := ⟨HS.r, HS.n⟩
      have W0 := W.box #[.string xr, .int .i64 x1, .int .i64 x2, .int .i64 x3, .int .i64 x4, .int .i64 x5] 89
      have d0 := W0.cell (List.mem_cons_self ..) (i := 0) rfl
      have WA : Aside (LX w B g v s4 [(wr.heap.size, #[.string xr, .int .i64 x1, .int .i64 x2, .int .i64 x3, .int .i64 x4, .int .i64 x5], 89), (bo, cs, 33)] (wr.alloc (.cells #[.string xr, .int .i64 x1, .int .i64 x2, .int .i64 x3, .int .i64 x4, .int .i64 x5] 89))) := W0
      have hlt' : (k : Int) < (n : Int) := by omega
      clear W W0 HS pc
      go_wp2_with fail
      refine (WA.out.calls (fun v' hv => wText_any B g v' _ xr _ HZ.out.1 hv)).mono ?_
      rintro e a0 ⟨rfl, hw⟩
      clear d0 p0 p1 p2 p3 p4 p5
      have d1 := hw.cell (List.mem_cons_self ..) (i := 1) rfl
      have WA0 : Aside (LX w B g v _ [(wr.heap.size, #[.string xr, .int .i64 x1, .int .i64 x2, .int .i64 x3, .int .i64 x4, .int .i64 x5], 89), (bo, cs, 33)] a0) := hw
      clear hw WA
      go_wp2_with fail
      refine (WA0.out.calls (fun v' hv => wInt_any B g v' _ x1 _ HZ.out.2.1.1 HZ.out.2.1.2 hv)).mono ?_
      rintro e a1 ⟨rfl, hw⟩
      clear d1
      have d2 := hw.cell (List.mem_cons_self ..) (i := 2) rfl
      have WA1 : Aside (LX w B g v _ [(wr.heap.size, #[.string xr, .int .i64 x1, .int .i64 x2, .int .i64 x3, .int .i64 x4, .int .i64 x5], 89), (bo, cs, 33)] a1) := hw
      clear hw WA0
      go_wp2_with fail
      refine (WA1.out.calls (fun v' hv => wInt_any B g v' _ x2 _ HZ.out.2.2.1.1 HZ.out.2.2.1.2 hv)).mono ?_
      rintro e a2 ⟨rfl, hw⟩
      clear d2
      have d3 := hw.cell (List.mem_cons_self ..) (i := 3) rfl
      have WA2 : Aside (LX w B g v _ [(wr.heap.size, #[.string xr, .int .i64 x1, .int .i64 x2, .int .i64 x3, .int .i64 x4, .int .i64 x5], 89), (bo, cs, 33)] a2) := hw
      clear hw WA1
      go_wp2_with fail
      refine (WA2.out.calls (fun v' hv => wInt_any B g v' _ x3 _ HZ.out.2.2.2.1.1 HZ.out.2.2.2.1.2 hv)).mono ?_
      rintro e a3 ⟨rfl, hw⟩
      clear d3
      have d4 := hw.cell (List.mem_cons_self ..) (i := 4) rfl
      have WA3 : Aside (LX w B g v _ [(wr.heap.size, #[.string xr, .int .i64 x1, .int .i64 x2, .int .i64 x3, .int .i64 x4, .int .i64 x5], 89), (bo, cs, 33)] a3) := hw
      clear hw WA2
      go_wp2_with fail
      refine (WA3.out.calls (fun v' hv => wInt_any B g v' _ x4 _ HZ.out.2.2.2.2.1.1 HZ.out.2.2.2.2.1.2 hv)).mono ?_
      rintro e a4 ⟨rfl, hw⟩
      clear d4
      have d5 := hw.cell (List.mem_cons_self ..) (i := 5) rfl
      have WA4 : Aside (LX w B g v _ [(wr.heap.size, #[.string xr, .int .i64 x1, .int .i64 x2, .int .i64 x3, .int .i64 x4, .int .i64 x5], 89), (bo, cs, 33)] a4) := hw
      clear hw WA3
      go_wp2_with fail
      refine (WA4.out.calls (fun v' hv => wInt_any B g v' _ x5 _ HZ.out.2.2.2.2.2.1 HZ.out.2.2.2.2.2.2 hv)).mono ?_
      rintro e a5 ⟨rfl, hw⟩
      clear d5
      have WD : Aside (LX w B g v (((rs.take (k + 1)).flatMap rlE).foldl WS.lay s1) [(bo, cs, 33)] a5) := by
        rw [← X.out]
        exact hw.pop
      clear hw WA4
      go_wp2_with fail
      go_roundg (n - (k + 1))
      case measure => have := G.out; omega
      case rel => exact ⟨k + 1, by omega, rfl, by go_num, WD.out⟩
    · have W8 : Aside (Laid B g v (([tx lp, tx ln, form n] ++ rs.flatMap rlE).foldl WS.lay s) w wr) := by
        have h2 := R.out.2
        rw [List.take_of_length_le (by rw [← HN.out]; omega)] at h2
        rw [foldl_app, ← S1.out]
        exact h2.laid
      clear R
      go_wp2_with fail
      go_end0
      exact ⟨rfl, W8.out⟩
end Go.Proofs.YthomdgnmoapbkaaGreatDoor
end S8

section S9
namespace Go.Proofs.YthomdgnmoapbkaaGreatDoor
open Go.RowKit
def mnI (x y : Int) : Int := if y < x then y else x
theorem mnI_lt (x y : Int) : mnI x y < -1 ↔ x < -1 ∨ y < -1 := by unfold mnI; split <;> omega
theorem run_min5 (p1 p2 p3 p4 p5 M : Int) (hM : mnI (mnI (mnI (mnI p1 p2) p3) p4) p5 = M) (ts : Array TypeId) (t : TypeId) (w : World) : (Builtin.min_ ts t #[.int .i64 p1, .int .i64 p2, .int .i64 p3, .int .i64 p4, .int .i64 p5]).run Tryz.prog w = .ok (.int .i64 M) w := by
  rw [← hM]; unfold mnI
  simp [Builtin.min_, Builtin.min2]
def rlB (x : Rl) : Bool := decide (-1 ≤ x.a) && (decide (-1 ≤ x.b) && (decide (-1 ≤ x.c) && (decide (-1 ≤ x.d) && decide (-1 ≤ x.e))))
def lrS (l : Lr) : Bool := namedB l.p l.n && (decide (1 ≤ l.rs.length) && (decide (l.rs.length ≤ 16) && (l.rs.all rlB && ressB (l.rs.map (·.r)))))
theorem info_st : (Tryz.prog.info? 9).map (fun i => (i.zero, i.size, i.bytes)) = some (some (.string ⟨#[]⟩), 1, 16) := by kernel_rfl
theorem make_st (n : Nat) (hn : n ≤ 1000000) (w : World) : ∃ cur : Array Value, cur.size = n * 1 ∧ (Instr.makeSlice 121 (.int .i64 0) (.int .i64 n)).run Tryz.prog w = .ok (.slice (some ⟨w.heap.size, 0, none⟩) 0 n) (w.alloc (.cells cur 9)) := by
  obtain ⟨i0, hi, hz0, hz1, hz2⟩ := info_parts info_st
  have h := run_make (P := Tryz.prog) w 121 9 i0 _ Tryz.underlying121 hi hz0 .i64 .i64 0 n (by omega) (by omega) (by rw [hz2]; omega) (by omega)
  exact ⟨_, by rw [size_madeCells, hz1, Int.toNat_natCast], h⟩
theorem made_st {w : World} {n : Nat} {cur : Array Value} (hs : cur.size = n * 1) (hn : n ≤ 1000000) : OwnR kSt w.heap.size (w.alloc (.cells cur 9)) (.slice (some ⟨w.heap.size, 0, none⟩) 0 n) [] :=
  ⟨rfl, .inr ⟨w.heap.size, n, cur, rfl, Nat.le_refl _, heap_alloc_new .., Nat.zero_le _, by unfold maxLen; omega, hs, by simp [cellsR]⟩⟩
theorem all_not {α : Type} {p : α → Bool} {l : List α} {k : Nat} {d : α} (hk : k < l.length) (h : p (l.getD k d) = false) : l.all p = false := by
  rw [List.all_eq_false]; exact ⟨_, getD_in hk, by rw [h]; simp⟩
set_option maxHeartbeats 8000000 in
set_option maxRecDepth 100000 in
theorem limitStands_any (l : Lr) (u : Value) (w : World) (hm : L.HasM w) (hv : Row kRl w u l.rs) : Calls Tryz.prog 43 #[l.val u] w fun e w' => e = .returned (.bool (lrS l)) ∧ Below w.heap.size w w' := by
  obtain ⟨lp, ln, rs⟩ := l
  simp only at hv
  obtain ⟨u1, u3, rfl, hlc, hcm⟩ := hv.len
  unfold maxLen at hcm
  have V := Lib.hid hv
  obtain ⟨n, hn⟩ : ∃ n, n = rs.length := ⟨_, rfl⟩
  obtain ⟨S, hS⟩ : ∃ S, S = lrS ⟨lp, ln, rs⟩ := ⟨_, rfl⟩
  have ES : Aside (S = (namedB lp ln && (decide (1 ≤ n) && (decide (n ≤ 16) && (rs.all rlB && ressB (rs.map (·.r))))))) := by show _ = _; rw [hS, hn]; rfl
  rw [← hS]
  unfold Lr.val
  simp only
  rw [← hn] at hlc V ⊢
  have HN := Lib.hid hn
  clear hn hS hv
  obtain ⟨X, hX⟩ : ∃ X, X = w.alloc (.cells #[.string lp, .string ln, .slice u1 n u3] 33) := ⟨_, rfl⟩
  have AX : Hid (Below w.heap.size w X) := Lib.hid (by rw [hX]; exact (Below.refl _ w).alloc (Nat.le_refl _) _)
  have CX : Hid (∀ i y, #[Value.string lp, .string ln, .slice u1 n u3][i]? = some y → X.cell? ⟨w.heap.size, i, none⟩ = some y) := Lib.hid fun i y h => by
    rw [hX, World.cell?_alloc_new]; exact h
  have d0 := CX.out 0 _ rfl
  have d1 := CX.out 1 _ rfl
  have NA := Lib.hid (named_any lp ln X (hm.below AX.out))
  have hX' := hX.symm
  clear hX hm
  go_enter Tryz.func43, Tryz.ntmps43
  go_wp2_with fail
  refine NA.out.mono ?_
  rintro e w1 ⟨rfl, hb⟩
  have B1 := Lib.hid hb
  have BW : Hid (Below w.heap.size w w1) := Lib.hid (AX.out.trans (hb.mono AX.out.size))
  clear hb NA hX' d0 d1
  cases h1 : namedB lp ln with
  | false =>
    have F : Aside (S = false) := by show _ = _; rw [ES.out, h1]; rfl
    go_wp2_with fail
    go_ret
    exact ⟨by rw [F.out]; rfl, BW.out⟩
  | true =>
  have d2 := (B1.out.cell (block_lt_of_cell (CX.out 2 _ rfl))).trans (CX.out 2 _ rfl)
  by_cases hn1 : n < 1
  · have g : decide ((n : Int) < 1) = true := decide_eq_true (by omega)
    have F : Aside (S = false) := by show _ = _; rw [ES.out, decide_eq_false (show ¬ 1 ≤ n by omega)]; simp
    go_wp2_with fail
    go_ret
    exact ⟨by rw [F.out]; rfl, BW.out⟩
  have g1 : decide ((n : Int) < 1) = false := decide_eq_false (by omega)
  by_cases h16 : n > 16
  · have g : decide ((n : Int) > 16) = true := decide_eq_true (by omega)
    have F : Aside (S = false) := by show _ = _; rw [ES.out, decide_eq_false (show ¬ n ≤ 16 by omega)]; simp
    go_wp2_with fail
    go_ret
    exact ⟨by rw [F.out]; rfl, BW.out⟩
  have g16 : decide ((n : Int) > 16) = false := decide_eq_false (by omega)
  have E : Aside (S = (rs.all rlB && ressB (rs.map (·.r)))) := by show _ = _; rw [ES.out, h1, decide_eq_true (show 1 ≤ n by omega), decide_eq_true (show n ≤ 16 by omega)]; rfl
  obtain ⟨cur, hc, mk⟩ := make_st n (by omega) w1
  have M := Lib.hid (And.intro (Below.alloc BW.out BW.out.size (.cells cur 9)) ((made_st (w := w1) hc (by omega)).mono BW.out.size))
  obtain ⟨X1, hX1⟩ : ∃ X1, X1 = w1.alloc (.cells cur 9) := ⟨_, rfl⟩
  have d3 : X1.cell? ⟨w.heap.size, 2, none⟩ = some (.slice u1 n u3) := by rw [hX1]; exact ((((Below.refl _ w1).alloc (Nat.le_refl _) _)).cell (block_lt_of_cell d2)).trans d2
  rw [← hX1] at mk M
  clear hc hX1 ES
  go_wp2_with fail
  clear mk g1 g16 d2 d3
  go_loopg [3, 31] n (fun gg so si wr => ∃ (k : Nat) (a' : Option Addr) (m c : Nat), k ≤ n ∧ gg = n - k ∧ si = .int .i64 k ∧ so = .slice a' m c ∧ OwnR kSt w.heap.size wr (.slice a' m c) ((rs.take k).map (·.r)) ∧ Below w.heap.size w wr ∧ ∀ x ∈ rs.take k, rlB x = true)
  case atStart => exact ⟨0, _, _, _, Nat.zero_le _, rfl, rfl, rfl, M.out.2, M.out.1, fun x hx => by simp at hx⟩
  case round =>
    clear M
    obtain ⟨k, a', m, c, hk, hg, rfl, rfl, ho, hb, hall⟩ := hrel
    have R : Aside (gk = n - k ∧ OwnR kSt w.heap.size wr (.slice a' m c) ((rs.take k).map (·.r)) ∧ Below w.heap.size w wr ∧ ∀ x ∈ rs.take k, rlB x = true) := ⟨hg, ho, hb, hall⟩
    clear hg ho hb hall
    by_cases hlt : k < n
    · have hlt' : (k : Int) < (n : Int) := by omega
      have hlt2 : k < rs.length := by rw [← HN.out]; exact hlt
      obtain ⟨b, off, rfl, pc⟩ := (V.out.below R.out.2.2.1).at k hlt2
      obtain ⟨x, hx⟩ : ∃ x, x = rs.getD k kRl.z := ⟨_, rfl⟩
      have ST : Hid (rs.take (k + 1) = rs.take k ++ [x]) := Lib.hid (by rw [hx]; exact take_onez rs k kRl.z hlt2)
      have NO : Hid (rlB x = false → rs.all rlB = false) := Lib.hid (fun q => all_not (d := kRl.z) hlt2 (by rw [← hx]; exact q))
      rw [← hx] at pc
      clear hx hlt2
      obtain ⟨xr, x1, x2, x3, x4, x5⟩ := x
      have p0 : wr.cell? ⟨b, off + k * 6, none⟩ = some (.string xr) := pc 0 _ rfl
      have p1 : wr.cell? ⟨b, off + k * 6 + 1, none⟩ = some (.int .i64 x1) := pc 1 _ rfl
      have p2 : wr.cell? ⟨b, off + k * 6 + 2, none⟩ = some (.int .i64 x2) := pc 2 _ rfl
      have p3 : wr.cell? ⟨b, off + k * 6 + 3, none⟩ = some (.int .i64 x3) := pc 3 _ rfl
      have p4 : wr.cell? ⟨b, off + k * 6 + 4, none⟩ = some (.int .i64 x4) := pc 4 _ rfl
      have p5 : wr.cell? ⟨b, off + k * 6 + 5, none⟩ = some (.int .i64 x5) := pc 5 _ rfl
      obtain ⟨Y, hY⟩ : ∃ Y, Y = wr.alloc (.cells #[.string xr, .int .i64 x1, .int .i64 x2, .int .i64 x3, .int .i64 x4, .int .i64 x5] 89) := ⟨_, rfl⟩
      have AY : Hid (Below wr.heap.size wr Y) := Lib.hid (by rw [hY]; exact (Below.refl _ wr).alloc (Nat.le_refl _) _)
      have CY : Hid (∀ i y, #[Value.string xr, .int .i64 x1, .int .i64 x2, .int .i64 x3, .int .i64 x4, .int .i64 x5][i]? = some y → Y.cell? ⟨wr.heap.size, i, none⟩ = some y) := Lib.hid fun i y h => by
        rw [hY, World.cell?_alloc_new]; exact h
      have q0 := CY.out 0 _ rfl
      have q1 := CY.out 1 _ rfl
      have q2 := CY.out 2 _ rfl
      have q3 := CY.out 3 _ rfl
      have q4 := CY.out 4 _ rfl
      have q5 := CY.out 5 _ rfl
      have BY : Hid (Below w.heap.size w Y) := Lib.hid (R.out.2.2.1.trans (AY.out.mono R.out.2.2.1.size))
      have hY' := hY.symm
      obtain ⟨mm, hmm⟩ : ∃ mm, mm = mnI (mnI (mnI (mnI x1 x2) x3) x4) x5 := ⟨_, rfl⟩
      have mnr := run_min5 x1 x2 x3 x4 x5 mm hmm.symm
      have HL : Hid (mm < -1 ↔ rlB ⟨xr, x1, x2, x3, x4, x5⟩ = false) := Lib.hid (by
        rw [hmm, mnI_lt, mnI_lt, mnI_lt, mnI_lt]
        unfold rlB
        simp only [Bool.and_eq_false_iff, decide_eq_false_iff_not]
        omega)
      clear hY pc hmm
      by_cases hlo : mm < -1
      · have g : decide (mm < -1) = true := decide_eq_true hlo
        have F : Aside (S = false) := by show _ = _; rw [E.out, NO.out (HL.out.1 hlo)]; rfl
        clear hlo
        go_wp2_with fail
        go_ret
        exact ⟨by rw [F.out]; rfl, BY.out⟩
      · have g : decide (mm < -1) = false := decide_eq_false hlo
        have hrl : Hid (rlB ⟨xr, x1, x2, x3, x4, x5⟩ = true) := Lib.hid (by
          cases q : rlB ⟨xr, x1, x2, x3, x4, x5⟩ with
          | true => rfl
          | false => exact absurd (HL.out.2 q) hlo)
        obtain ⟨acc, hacc⟩ : ∃ acc, acc = (rs.take k).map (·.r) := ⟨_, rfl⟩
        have OY : Hid (OwnR kSt w.heap.size Y (.slice a' m c) acc) := Lib.hid (by rw [hacc]; exact R.out.2.1.below AY.out)
        have S2 : Hid ((rs.take (k + 1)).map (·.r) = acc ++ [xr]) := Lib.hid (by rw [ST.out, List.map_append, hacc]; rfl)
        have LN : Hid (acc.length < 100000000) := Lib.hid (by rw [hacc, List.length_map, List.length_take]; omega)
        clear hacc hlo
        go_wp2_with (at_builtin; refine app_row okSt (gg := Y.heap.size) rfl _ _ rfl rfl OY.out BY.out.size xr ?hgg rfl rfl LN.out ?_)
        case hgg => simp
        intro v' w' h1 h2
        obtain ⟨a2, c2, rfl⟩ := h1.slice
        have A : Aside (OwnR kSt w.heap.size w' (.slice a2 (acc ++ [xr]).length c2) ((rs.take (k + 1)).map (·.r)) ∧ Below w.heap.size w w' ∧ ∀ x ∈ rs.take (k + 1), rlB x = true) := by
          refine ⟨by rw [S2.out]; exact h1, BY.out.trans (grown_belowR h2 OY.out BY.out.size), fun x hx => ?_⟩
          rw [ST.out] at hx
          rcases List.mem_append.1 hx with hx | hx
          · exact R.out.2.2.2 x hx
          · rw [List.mem_singleton.1 hx]; exact hrl.out
        clear h1 h2
        go_wp2_with fail
        go_roundg (n - (k + 1))
        case measure => have := R.out.1; omega
        case rel => exact ⟨k + 1, a2, _, c2, by omega, rfl, by go_num, rfl, A.out⟩
    · have TK : Hid (rs.take k = rs) := Lib.hid (List.take_of_length_le (by rw [← HN.out]; omega))
      have RA := Lib.hid (resources_any _ _ wr (R.out.2.1.row okSt) (by rw [List.length_map, List.length_take]; omega))
      rw [TK.out] at RA
      have F : Aside (S = ressB (rs.map (·.r))) := by
        show _ = _
        rw [E.out, List.all_eq_true.2 (fun x hx => R.out.2.2.2 x (by rw [TK.out]; exact hx))]; rfl
      go_wp2_with fail
      refine RA.out.mono ?_
      rintro e w2 ⟨rfl, hb⟩
      have B2 := Lib.hid (R.out.2.2.1.trans (hb.mono R.out.2.2.1.size))
      clear hb RA
      go_wp2_with fail
      go_ret
      exact ⟨by rw [F.out]; rfl, B2.out⟩
end Go.Proofs.YthomdgnmoapbkaaGreatDoor
end S9

section S10
namespace Go.Proofs.YthomdgnmoapbkaaGreatDoor
open Go.RowKit
def lrE (b : Lr) : List (List UInt8) := [76] :: [1] :: lrL b
def lrR (b : Lr) : ByteArray × Nat := if lrS b = true then outR (lrE b) else (⟨#[]⟩, 130)
theorem size_lr : (Tryz.prog.info? 33).map (·.size) = some 3 := by kernel_rfl
theorem lrS_nice (b : Lr) (h : lrS b = true) : b.rs.length ≤ 4096 := by
  unfold lrS at h
  simp only [Bool.and_eq_true, decide_eq_true_iff] at h
  omega
set_option maxHeartbeats 2000000 in
theorem layL1_any (w0 : World) (bo B g : Nat) (v : Value) (s : WS) (b : Lr) (u1 : Option Addr) (u3 : Nat) (w : World) (H : WAt B w g v s) (h0 : Below w0.heap.size w0 w) (lo : w0.heap.size ≤ B) (hr : Row kRl w0 (.slice u1 b.rs.length u3) b.rs) (hf : b.Fit) (hn : b.rs.length ≤ 4096)
    (hb : w0.heap[bo]? = some (.cells #[.string b.p, .string b.n, .slice u1 b.rs.length u3] 33 (0, 0))) :
    Calls Tryz.prog 44 #[.pointer (some ⟨g, 0, none⟩), .pointer (some ⟨bo, 0, none⟩)] w fun e w' => e = .returned (.tuple #[]) ∧ Laid B g v ((lrL b).foldl WS.lay s) w w' := by
  have LA := Lib.hid (layLimit_any w0 B g v s b (.slice u1 b.rs.length u3) w H h0 lo hr hf hn)
  have hc : ∀ i y, (#[.string b.p, .string b.n, .slice u1 b.rs.length u3] : Array Value)[i]? = some y → w.cell? ⟨bo, i, none⟩ = some y := fun i y hy => by
    have q : w0.cell? ⟨bo, i, none⟩ = some y := by rw [cell_of_row w0 bo i _ _ _ hb]; exact hy
    exact (h0.cell (block_lt_of_cell q)).trans q
  have d0 := hc 0 _ rfl
  have d1 := hc 1 _ rfl
  have d2 := hc 2 _ rfl
  unfold Lr.val at LA
  clear H h0 lo hr hf hn hb hc
  go_enter Tryz.func44, Tryz.ntmps44
  go_wp2_with fail
  refine LA.out.mono ?_
  rintro e w1 ⟨rfl, hl⟩
  have L1 := Lib.hid hl
  clear hl d0 d1 d2
  go_wp2_with fail
  go_end0
  exact ⟨rfl, L1.out⟩
set_option maxHeartbeats 4000000 in
set_option maxRecDepth 100000 in
theorem bytesOfL_any (bo : Nat) (b : Lr) (u1 : Option Addr) (u3 : Nat) (w : World) (hr : Row kRl w (.slice u1 b.rs.length u3) b.rs) (hf : b.Fit) (hn : b.rs.length ≤ 4096) (hb : w.heap[bo]? = some (.cells #[.string b.p, .string b.n, .slice u1 b.rs.length u3] 33 (0, 0))) :
    Calls Tryz.prog 26 #[.bool true, .int .u8 76, .func (.func 44) #[] #[.pointer (some ⟨bo, 0, none⟩)]] w fun e w' => e = .returned (.tuple #[.string (outR (lrE b)).1, .int .i64 (outR (lrE b)).2]) ∧ Below w.heap.size w w' := by
  have V := Lib.hid (And.intro hf (And.intro hn hb))
  have RV := Lib.hid hr
  clear hf hn hb hr
  go_enter Tryz.func26, Tryz.ntmps26
  go_wp2_with fail
  refine (newWriter_any 8192 w).mono ?_
  rintro e w3 ⟨rfl, hw, _, hb⟩
  obtain ⟨B, hB⟩ : ∃ B, B = w.heap.size := ⟨_, rfl⟩
  rw [← hB] at hw ⊢
  have W3 : Aside (WW w B B wr0 w3) := ⟨⟨_, hw⟩, by rw [hB]; exact Nat.le_refl _, hb⟩
  clear hw hb hB
  go_wp2_with fail
  refine (W3.out.calls (fun v hv => wByte_eq (n := 76) (c := 76) rfl B B v _ w3 hv)).mono ?_
  rintro e w4 ⟨rfl, hw⟩
  have W4 : Aside (WW w B B (wr0.lay [76]) w4) := hw
  clear hw W3
  go_wp2_with fail
  refine (W4.out.calls (fun v hv => wByte_eq (n := 1) (c := 1) rfl B B v _ w4 hv)).mono ?_
  rintro e w5 ⟨rfl, hw⟩
  have W5 : Aside (WW w B B ((wr0.lay [76]).lay [1]) w5) := hw
  clear hw W4
  go_wp2_with fail
  refine (W5.out.calls (fun v hv => layL1_any w bo B B v _ b u1 u3 w5 hv W5.out.be W5.out.lo RV.out V.out.1 V.out.2.1 V.out.2.2)).mono ?_
  rintro e w6 ⟨rfl, hw⟩
  have W6 : Aside (WW w B B ((lrE b).foldl WS.lay wr0) w6) := hw
  clear hw W5
  go_wp2_with fail
  obtain ⟨u, hu⟩ := W6.out.wr
  refine (wOut_any _ _ _ _ w6 hu).mono ?_
  rintro e w7 ⟨v2, rfl, ho, hb⟩
  have hc := convT ho.bytes
  have A : Aside (Below w.heap.size w w7) := W6.out.be.trans (hb.mono W6.out.be.size)
  have E : Aside _ := lays_out (lrE b)
  clear ho hb hu
  go_wp2_with fail
  go_ret2
  exact ⟨by rw [← E.out]; rfl, A.out⟩
set_option maxHeartbeats 4000000 in
set_option maxRecDepth 100000 in
theorem encodeL_any (b : Lr) (hs : Value) (w : World) (hm : L.HasM w) (hr : Row kRl w hs b.rs) (hf : b.Fit) :
    Calls Tryz.prog 17 #[b.val hs] w fun e w' => e = .returned (.tuple #[.string (lrR b).1, .int .i64 (lrR b).2]) ∧ Below w.heap.size w w' := by
  obtain ⟨u1, u3, rfl, hlc, hcm⟩ := hr.len
  have RV := Lib.hid hr
  clear hr hlc hcm
  obtain ⟨X, hX⟩ : ∃ X, X = w.alloc (.cells #[.string b.p, .string b.n, .slice u1 b.rs.length u3] 33) := ⟨_, rfl⟩
  have AX : Hid (Below w.heap.size w X) := Lib.hid (by rw [hX]; exact (Below.refl _ w).alloc (Nat.le_refl _) _)
  have HX : X.heap[w.heap.size]? = some (.cells #[.string b.p, .string b.n, .slice u1 b.rs.length u3] 33 (0, 0)) := by rw [hX, heap_alloc_new]
  have hc : ∀ i y, (#[.string b.p, .string b.n, .slice u1 b.rs.length u3] : Array Value)[i]? = some y → X.cell? ⟨w.heap.size, i, none⟩ = some y := fun i y hy => by
    rw [cell_of_row X w.heap.size i _ _ _ HX]; exact hy
  have d0 := hc 0 _ rfl
  have d1 := hc 1 _ rfl
  have d2 := hc 2 _ rfl
  have V := Lib.hid (And.intro hf HX)
  have OS := Lib.hid (limitStands_any b _ X (hm.below AX.out) (RV.out.below AX.out))
  unfold Lr.val at OS ⊢
  have hX' := hX.symm
  clear hX HX hc hf hm
  go_enter Tryz.func17, Tryz.ntmps17
  go_wp2_with fail
  refine OS.out.mono ?_
  rintro e w1 ⟨rfl, hb⟩
  have B1 := Lib.hid hb
  clear hb d0 d1 d2 hX' OS
  cases hS : lrS b with
  | false =>
    have E : Aside (lrR b = (⟨#[]⟩, 130)) := by show _ = _; unfold lrR; rw [hS]; rfl
    go_wp2_with fail
    refine (bytesOf_no _ _ w1).mono ?_
    rintro e w2 ⟨rfl, rfl⟩
    go_wp2_with fail
    go_ret2
    exact ⟨by rw [E.out]; rfl, AX.out.trans (B1.out.mono AX.out.size)⟩
  | true =>
    have E : Aside (lrR b = outR (lrE b)) := by show _ = _; unfold lrR; rw [hS]; rfl
    have hv := lrS_nice b hS
    have BO := Lib.hid (bytesOfL_any w.heap.size b u1 u3 w1 ((RV.out.below AX.out).below B1.out) V.out.1 hv (by rw [B1.out.block w.heap.size (lt_of_some V.out.2)]; exact V.out.2))
    clear hS hv
    go_wp2_with fail
    refine BO.out.mono ?_
    rintro e w2 ⟨rfl, hb⟩
    have B2 := Lib.hid hb
    clear hb BO
    go_wp2_with fail
    go_ret2
    exact ⟨by rw [E.out]; rfl, AX.out.trans ((B1.out.trans (B2.out.mono B1.out.size)).mono AX.out.size)⟩
end Go.Proofs.YthomdgnmoapbkaaGreatDoor
end S10
