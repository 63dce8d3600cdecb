/-
  ObQx, ObQy, ObQz, ObLa, ObLb, ObRe, ObLc, ObRp, joined.
-/
import Derived.Test.YtanpneahembhbaaGreatDoorM1
import Derived.Test.YtanpneahembhbaaGreatDoorObU
import Derived.Deep.MidRow
import Derived.Test.YtanpneahembhbaaGreatDoorM2
import Derived.Lib.QuietBelow
import Derived.BigQuiet
section S0
namespace Go.Proofs.YtanpneahembhbaaGreatDoor
open Go.RowKit
def qtE (b : Qt) : List (List UInt8) := [81] :: [1] :: qtL b
def qtR (b : Qt) : ByteArray × Nat := if qtS b = true then outR (qtE b) else (⟨#[]⟩, 130)
theorem size_qt : (Tryz.prog.info? 26).map (·.size) = some 5 := by kernel_rfl
theorem scB_nice {k a : Int} (h : scB k a = true) : 0 ≤ k ∧ k ≤ 9 ∧ 0 ≤ a ∧ a ≤ 9 := by
  unfold scB inB at h
  by_cases h5 : k = 5
  · rw [if_pos h5] at h
    simp only [Bool.and_eq_true, decide_eq_true_iff] at h
    omega
  · rw [if_neg h5] at h
    simp only [Bool.and_eq_true, decide_eq_true_iff] at h
    omega
theorem hdsUp_nice (l : List Am) (b : ByteArray) (h : hdsUp b l = true) : ∀ x ∈ l, 0 ≤ x.v := by
  induction l generalizing b with
  | nil => intro x hx; cases hx
  | cons y r ih =>
    unfold hdsUp hdB at h
    simp only [Bool.and_eq_true, decide_eq_true_iff] at h
    intro x hx
    rcases List.mem_cons.1 hx with rfl | hx
    · exact h.1.2.2
    · exact ih _ h.2 x hx
theorem qtS_nice (b : Qt) (h : qtS b = true) : (0 ≤ b.k ∧ b.k ≤ 9 ∧ 0 ≤ b.a ∧ b.a ≤ 9) ∧ b.h.length ≤ 4096 ∧ ∀ x ∈ b.h, 0 ≤ x.v := by
  unfold qtS hdsB at h
  simp only [Bool.and_eq_true, decide_eq_true_iff] at h
  exact ⟨scB_nice h.2.1, by omega, hdsUp_nice _ _ h.2.2.2.2⟩
set_option maxHeartbeats 2000000 in
theorem layQ1_any (w0 : World) (bo B g : Nat) (v : Value) (s : WS) (b : Qt) (u1 : Option Addr) (u3 : Nat) (w : World) (H : WAt B w g v s) (h0 : Below w0.heap.size w0 w) (lo : w0.heap.size ≤ B) (hr : Row kAm w0 (.slice u1 b.h.length u3) b.h) (hf : b.Fit) (hn : (0 ≤ b.k ∧ b.k ≤ 9 ∧ 0 ≤ b.a ∧ b.a ≤ 9) ∧ b.h.length ≤ 4096 ∧ ∀ x ∈ b.h, 0 ≤ x.v)
    (hb : w0.heap[bo]? = some (.cells #[.string b.p, .string b.n, .int .i64 b.k, .int .i64 b.a, .slice u1 b.h.length u3] 26 (0, 0))) :
    Calls Tryz.prog 26 #[.pointer (some ⟨g, 0, none⟩), .pointer (some ⟨bo, 0, none⟩)] w fun e w' => e = .returned (.tuple #[]) ∧ Laid B g v ((qtL b).foldl WS.lay s) w w' := by
  have LA := Lib.hid (layQuota_any w0 B g v s b (.slice u1 b.h.length u3) w H h0 lo hr hf hn.1 hn.2.1 hn.2.2)
  have hc : ∀ i y, (#[.string b.p, .string b.n, .int .i64 b.k, .int .i64 b.a, .slice u1 b.h.length u3] : Array Value)[i]? = some y → w.cell? ⟨bo, i, none⟩ = some y := fun i y hy => by
    have q : w0.cell? ⟨bo, i, none⟩ = some y := by rw [cell_of_row w0 bo i _ _ _ hb]; exact hy
    exact (h0.cell (block_lt_of_cell q)).trans q
  have d0 := hc 0 _ rfl
  have d1 := hc 1 _ rfl
  have d2 := hc 2 _ rfl
  have d3 := hc 3 _ rfl
  have d4 := hc 4 _ rfl
  unfold Qt.val at LA
  clear H h0 lo hr hf hn hb hc
  go_enter Tryz.func26, Tryz.ntmps26
  go_wp2_with fail
  refine LA.out.mono ?_
  rintro e w1 ⟨rfl, hl⟩
  have L1 := Lib.hid hl
  clear hl d0 d1 d2 d3 d4
  go_wp2_with fail
  go_end0
  exact ⟨rfl, L1.out⟩
set_option maxHeartbeats 4000000 in
set_option maxRecDepth 100000 in
theorem bytesOfQ_any (bo : Nat) (b : Qt) (u1 : Option Addr) (u3 : Nat) (w : World) (hr : Row kAm w (.slice u1 b.h.length u3) b.h) (hf : b.Fit) (hn : (0 ≤ b.k ∧ b.k ≤ 9 ∧ 0 ≤ b.a ∧ b.a ≤ 9) ∧ b.h.length ≤ 4096 ∧ ∀ x ∈ b.h, 0 ≤ x.v) (hb : w.heap[bo]? = some (.cells #[.string b.p, .string b.n, .int .i64 b.k, .int .i64 b.a, .slice u1 b.h.length u3] 26 (0, 0))) :
    Calls Tryz.prog 24 #[.bool true, .int .u8 81, .func (.func 26) #[] #[.pointer (some ⟨bo, 0, none⟩)]] w fun e w' => e = .returned (.tuple #[.string (outR (qtE b)).1, .int .i64 (outR (qtE b)).2]) ∧ Below w.heap.size w w' := by
  have V := Lib.hid (And.intro hf (And.intro hn hb))
  have RV := Lib.hid hr
  clear hf hn hb hr
  go_enter Tryz.func24, Tryz.ntmps24
  go_wp2_with fail
  refine (newWriter_any 8192 w).mono ?_
  rintro e w3 ⟨rfl, hw, _, hb⟩
  obtain ⟨B, hB⟩ : ∃ B, B = w.heap.size := ⟨_, rfl⟩
  rw [← hB] at hw ⊢
  have W3 : Aside (WW w B B wr0 w3) := ⟨⟨_, hw⟩, by rw [hB]; exact Nat.le_refl _, hb⟩
  clear hw hb hB
  go_wp2_with fail
  refine (W3.out.calls (fun v hv => wByte_eq (n := 81) (c := 81) rfl B B v _ w3 hv)).mono ?_
  rintro e w4 ⟨rfl, hw⟩
  have W4 : Aside (WW w B B (wr0.lay [81]) w4) := hw
  clear hw W3
  go_wp2_with fail
  refine (W4.out.calls (fun v hv => wByte_eq (n := 1) (c := 1) rfl B B v _ w4 hv)).mono ?_
  rintro e w5 ⟨rfl, hw⟩
  have W5 : Aside (WW w B B ((wr0.lay [81]).lay [1]) w5) := hw
  clear hw W4
  go_wp2_with fail
  refine (W5.out.calls (fun v hv => layQ1_any w bo B B v _ b u1 u3 w5 hv W5.out.be W5.out.lo RV.out V.out.1 V.out.2.1 V.out.2.2)).mono ?_
  rintro e w6 ⟨rfl, hw⟩
  have W6 : Aside (WW w B B ((qtE b).foldl WS.lay wr0) w6) := hw
  clear hw W5
  go_wp2_with fail
  obtain ⟨u, hu⟩ := W6.out.wr
  refine (wOut_any _ _ _ _ w6 hu).mono ?_
  rintro e w7 ⟨v2, rfl, ho, hb⟩
  have hc := convT ho.bytes
  have A : Aside (Below w.heap.size w w7) := W6.out.be.trans (hb.mono W6.out.be.size)
  have E : Aside _ := lays_out (qtE b)
  clear ho hb hu
  go_wp2_with fail
  go_ret2
  exact ⟨by rw [← E.out]; rfl, A.out⟩
set_option maxHeartbeats 4000000 in
set_option maxRecDepth 100000 in
theorem encodeQ_any (b : Qt) (hs : Value) (w : World) (hm : L.HasM w) (hr : Row kAm w hs b.h) (hf : b.Fit) :
    Calls Tryz.prog 8 #[b.val hs] w fun e w' => e = .returned (.tuple #[.string (qtR b).1, .int .i64 (qtR b).2]) ∧ Below w.heap.size w w' := by
  obtain ⟨u1, u3, rfl, hlc, hcm⟩ := hr.len
  have RV := Lib.hid hr
  clear hr hlc hcm
  obtain ⟨X, hX⟩ : ∃ X, X = w.alloc (.cells #[.string b.p, .string b.n, .int .i64 b.k, .int .i64 b.a, .slice u1 b.h.length u3] 26) := ⟨_, rfl⟩
  have AX : Hid (Below w.heap.size w X) := Lib.hid (by rw [hX]; exact (Below.refl _ w).alloc (Nat.le_refl _) _)
  have HX : X.heap[w.heap.size]? = some (.cells #[.string b.p, .string b.n, .int .i64 b.k, .int .i64 b.a, .slice u1 b.h.length u3] 26 (0, 0)) := by rw [hX, heap_alloc_new]
  have hc : ∀ i y, (#[.string b.p, .string b.n, .int .i64 b.k, .int .i64 b.a, .slice u1 b.h.length u3] : Array Value)[i]? = some y → X.cell? ⟨w.heap.size, i, none⟩ = some y := fun i y hy => by
    rw [cell_of_row X w.heap.size i _ _ _ HX]; exact hy
  have d0 := hc 0 _ rfl
  have d1 := hc 1 _ rfl
  have d2 := hc 2 _ rfl
  have d3 := hc 3 _ rfl
  have d4 := hc 4 _ rfl
  have V := Lib.hid (And.intro hf HX)
  have OS := Lib.hid (quotaStands_any b _ X (hm.below AX.out) (RV.out.below AX.out))
  unfold Qt.val at OS ⊢
  have hX' := hX.symm
  clear hX HX hc hf hm
  go_enter Tryz.func8, Tryz.ntmps8
  go_wp2_with fail
  refine OS.out.mono ?_
  rintro e w1 ⟨rfl, hb⟩
  have B1 := Lib.hid hb
  clear hb d0 d1 d2 d3 d4 hX' OS
  cases hS : qtS b with
  | false =>
    have E : Aside (qtR b = (⟨#[]⟩, 130)) := by show _ = _; unfold qtR; rw [hS]; rfl
    go_wp2_with fail
    refine (bytesOf_no _ _ w1).mono ?_
    rintro e w2 ⟨rfl, rfl⟩
    go_wp2_with fail
    go_ret2
    exact ⟨by rw [E.out]; rfl, AX.out.trans (B1.out.mono AX.out.size)⟩
  | true =>
    have E : Aside (qtR b = outR (qtE b)) := by show _ = _; unfold qtR; rw [hS]; rfl
    have hv := qtS_nice b hS
    have BO := Lib.hid (bytesOfQ_any w.heap.size b u1 u3 w1 ((RV.out.below AX.out).below B1.out) V.out.1 hv (by rw [B1.out.block w.heap.size (lt_of_some V.out.2)]; exact V.out.2))
    clear hS hv
    go_wp2_with fail
    refine BO.out.mono ?_
    rintro e w2 ⟨rfl, hb⟩
    have B2 := Lib.hid hb
    clear hb BO
    go_wp2_with fail
    go_ret2
    exact ⟨by rw [E.out]; rfl, AX.out.trans ((B1.out.trans (B2.out.mono B1.out.size)).mono AX.out.size)⟩
end Go.Proofs.YtanpneahembhbaaGreatDoor
end S0

section S1
namespace Go.Proofs.YtanpneahembhbaaGreatDoor
open Go.RowKit
def tkQ (s : RS) : Qt := ⟨txt (s.text 8192).1, txt ((tk1 s).text 8192).1, c8 (tk2 s).byte.1, c8 (tk2 s).byte.2.byte.1, (tkAms (tk2 s).byte.2.byte.2).1⟩
def tkQE (s : RS) : RS := (tkAms (tk2 s).byte.2.byte.2).2
/-- A quota that is being read. -/
structure QK (w : World) (g bz bo : Nat) (s : RS) (cs : Array Value) (W : World) : Prop where
  r : RAt W g s
  z : W.heap[bz]? = some (.cells #[.string ⟨#[]⟩, .string ⟨#[]⟩, .int .i64 0, .int .i64 0, .slice none 0 0] 26 (0, 0))
  o : W.heap[bo]? = some (.cells cs 26 (0, 0))
  ke : Kept (fun k => k = g) w W
  lt : g < w.heap.size
  bs : w.heap.size ≤ bz ∧ w.heap.size ≤ bo ∧ bz ≠ bo
theorem QK.reads {w W W' : World} {g bz bo : Nat} {s s' : RS} {cs : Array Value} (h : QK w g bz bo s cs W) (hr : RAt W' g s') (hk : Kept (fun k => k = g) W W') : QK w g bz bo s' cs W' := by
  have hlt := h.lt
  have hb := h.bs
  exact ⟨hr, by rw [hk.block bz (lt_of_some h.z) (by omega)]; exact h.z, by rw [hk.block bo (lt_of_some h.o) (by omega)]; exact h.o, kept_trans1 h.ke hk, h.lt, h.bs⟩
theorem QK.set {w W : World} {g bz bo : Nat} {s : RS} {cs : Array Value} (h : QK w g bz bo s cs W) (i : Nat) (v : Value) : QK w g bz bo s (cs.setIfInBounds i v) (W.setCell ⟨bo, i, none⟩ v) := by
  have hk : Kept (fun k => k = bo) W (W.setCell ⟨bo, i, none⟩ v) := kept_set _ _ _ rfl
  have hlt := h.lt
  have hb := h.bs
  refine ⟨h.r.kept hk (by omega) (fun b cs m hc e => ?_), by rw [hk.block bz (lt_of_some h.z) (by omega)]; exact h.z, Go.heap_setCell_same W bo i _ _ _ h.o, h.ke.trans hk (fun y hy e => by omega), h.lt, h.bs⟩
  rw [e, h.o] at hc
  simp only [Option.some.injEq, Obj.cells.injEq] at hc
  exact absurd hc.2.1 (by decide)
theorem QK.cell {w W : World} {g bz bo : Nat} {s : RS} {cs : Array Value} (h : QK w g bz bo s cs W) {i : Nat} {y : Value} (hy : cs[i]? = some y) : W.cell? ⟨bo, i, none⟩ = some y := by
  rw [cell_of_row W bo i _ _ _ h.o]; exact hy
theorem QK.free {w W : World} {g bz bo : Nat} {s : RS} {cs : Array Value} (h : QK w g bz bo s cs W) (i : Nat) : W.frozen? ⟨bo, i, none⟩ = false := frozen_of_row _ _ _ _ _ h.o
theorem size_sc : (Tryz.prog.info? 23).map (·.size) = some 2 := by kernel_rfl
end Go.Proofs.YtanpneahembhbaaGreatDoor
end S1

section S2
namespace Go.Proofs.YtanpneahembhbaaGreatDoor
open Go.RowKit
def Qt.z : Qt := ⟨⟨#[]⟩, ⟨#[]⟩, 0, 0, []⟩
theorem OwnR.keptB {α : Type} {K : Kd α} {B : Nat} {F : Nat → Prop} {w w' : World} {v : Value} {l : List α} (H : OwnR K B w v l) (hk : Kept F w w') (hF : ∀ k, F k → k < B) : OwnR K B w' v l :=
  H.kept hk (fun k e q => by have := (H.lt k e).1; have := hF k q; omega)
def dcQ (t : ByteArray) : Qt := tkQ (rs2 t)
def decQ (t : ByteArray) : Qt × Nat := if qtR (dcQ t) = (t, 0) then (dcQ t, 0) else (Qt.z, 2)
theorem tkQ_fit (s : RS) : (tkQ s).Fit := by
  have t1 := text_sz s
  have t2 := text_sz (tk1 s)
  have t3 := tkAms_fit (tk2 s).byte.2.byte.2
  have hb : 0 ≤ c8 (tk2 s).byte.1 ∧ c8 (tk2 s).byte.1 ≤ 255 := by unfold c8; have := (tk2 s).byte.1.toNat_lt; omega
  have hc : 0 ≤ c8 (tk2 s).byte.2.byte.1 ∧ c8 (tk2 s).byte.2.byte.1 ≤ 255 := by unfold c8; have := (tk2 s).byte.2.byte.1.toNat_lt; omega
  unfold tkQ
  generalize txt (s.text 8192).1 = A at t1 ⊢
  generalize txt ((tk1 s).text 8192).1 = B at t2 ⊢
  generalize (tkAms (tk2 s).byte.2.byte.2).1 = E at t3 ⊢
  generalize c8 (tk2 s).byte.2.byte.1 = D at hc ⊢
  generalize c8 (tk2 s).byte.1 = C at hb ⊢
  exact ⟨⟨by show A.size ≤ _; omega, by show B.size ≤ _; omega⟩, ⟨by show _ ≤ C; omega, by show C ≤ _; omega, by show _ ≤ D; omega, by show D ≤ _; omega⟩, t3⟩
theorem load_qt {w : World} {g : Nat} {a : Array Value} (h : w.heap[g]? = some (.cells a 26 (0, 0))) (hs : a.size = 5) : (loadVar 26 ⟨g, 0, none⟩).run Tryz.prog w = .ok (.agg a) w :=
  run_loadVar_row w g _ _ _ _ _ h Tryz.underlying26 rfl (by rw [hs]; exact size_qt)
end Go.Proofs.YtanpneahembhbaaGreatDoor
end S2

section S3
namespace Go.Proofs.YtanpneahembhbaaGreatDoor
open Go.RowKit
structure Rl where
  r : ByteArray
  a : Int
  b : Int
  c : Int
  d : Int
  e : Int
def kRl : Kd Rl := ⟨fun x => [.string x.r, .int .i64 x.a, .int .i64 x.b, .int .i64 x.c, .int .i64 x.d, .int .i64 x.e], 6, 60, 27, 56, ⟨⟨#[]⟩, 0, 0, 0, 0, 0⟩⟩
theorem okRl : kRl.Ok := ⟨fun _ => rfl, by decide, fun x u hu => by simp only [kRl, List.mem_cons, List.not_mem_nil, or_false] at hu; rcases hu with rfl | rfl | rfl | rfl | rfl | rfl <;> rfl, Tryz.underlying27, ⟨_, (by kernel_rfl : (Tryz.prog.info? 60).map (fun i => (i.zero, i.size, i.bytes)) = some (some (.agg #[.string ⟨#[]⟩, .int .i64 0, .int .i64 0, .int .i64 0, .int .i64 0, .int .i64 0]), 6, 56)), rfl⟩, by decide⟩
def fits (n : Int) : Prop := -9223372036854775808 ≤ n ∧ n < 9223372036854775808
structure Rl.Fit (x : Rl) : Prop where
  r : x.r.size ≤ 140737488355328
  n : fits x.a ∧ fits x.b ∧ fits x.c ∧ fits x.d ∧ fits x.e
structure Lr where
  p : ByteArray
  n : ByteArray
  rs : List Rl
def Lr.val (l : Lr) (v : Value) : Value := .agg #[.string l.p, .string l.n, v]
structure Lr.Fit (l : Lr) : Prop where
  s : l.p.size ≤ 140737488355328 ∧ l.n.size ≤ 140737488355328
  r : ∀ x ∈ l.rs, x.Fit
def rlE (x : Rl) : List (List UInt8) := [tx x.r, form (zig x.a), form (zig x.b), form (zig x.c), form (zig x.d), form (zig x.e)]
def lrL (l : Lr) : List (List UInt8) := [tx l.p, tx l.n, form l.rs.length] ++ l.rs.flatMap rlE
set_option maxHeartbeats 8000000 in
set_option maxRecDepth 100000 in
theorem layLimit_any (w0 : World) (B g : Nat) (v : Value) (s : WS) (l : Lr) (u : Value) (w : World) (H : WAt B w g v s) (h0 : Below w0.heap.size w0 w) (lo : w0.heap.size ≤ B) (hv : Row kRl w0 u l.rs) (hf : l.Fit) (hl : l.rs.length ≤ 4096) :
    Calls Tryz.prog 32 #[.pointer (some ⟨g, 0, none⟩), l.val u] w fun e w' => e = .returned (.tuple #[]) ∧ Laid B g v ((lrL l).foldl WS.lay s) w w' := by
  obtain ⟨lp, ln, rs⟩ := l
  simp only at hv hl
  obtain ⟨u1, u3, rfl, hlc, hcm⟩ := hv.len
  unfold maxLen at hcm
  have SZ : Aside (lp.size ≤ 140737488355328 ∧ ln.size ≤ 140737488355328) := hf.s
  have FR : Aside (∀ x ∈ rs, x.Fit) := hf.r
  have V : Aside (WAt B w g v s ∧ Below w0.heap.size w0 w ∧ w0.heap.size ≤ B ∧ Row kRl w0 (.slice u1 rs.length u3) rs) := ⟨H, h0, lo, hv⟩
  obtain ⟨n, hn⟩ : ∃ n, n = rs.length := ⟨_, rfl⟩
  have EL : Aside (lrL ⟨lp, ln, rs⟩ = [tx lp, tx ln, form n] ++ rs.flatMap rlE) := by show _ = _; rw [hn]; rfl
  unfold Lr.val
  simp only
  rw [← hn] at hlc hl V ⊢
  have HN := Lib.hid hn
  obtain ⟨cs, hcs⟩ : ∃ cs : Array Value, cs = #[.string lp, .string ln, .slice u1 n u3] := ⟨_, rfl⟩
  obtain ⟨bo, hbo⟩ : ∃ bo, bo = w.heap.size := ⟨_, rfl⟩
  have W0 : Aside (LX w B g v s [(bo, cs, 29)] (w.alloc (.cells #[.string lp, .string ln, .slice u1 n u3] 29))) := by
    rw [hcs, hbo]; exact (Laid.refl H).lx.box _ _
  have CSA : Aside (cs = #[.string lp, .string ln, .slice u1 n u3]) := hcs
  clear hcs H h0 lo hv hf hn
  have c0 := W0.out.cell (List.mem_cons_self ..) (i := 0) (by rw [CSA.out]; rfl)
  rw [hbo] at c0
  rw [EL.out]
  go_enter Tryz.func32, Tryz.ntmps32
  go_wp2_with fail
  rw [← hbo]
  clear hbo
  refine (W0.out.calls (fun v' hv => wText_any B g v' _ lp _ SZ.out.1 hv)).mono ?_
  rintro e w1 ⟨rfl, hw⟩
  have W1 : Aside (LX w B g v (s.lay (tx lp)) [(bo, cs, 29)] w1) := hw
  clear hw W0 c0
  have c1 := W1.out.cell (List.mem_cons_self ..) (i := 1) (by rw [CSA.out]; rfl)
  go_wp2_with fail
  refine (W1.out.calls (fun v' hv => wText_any B g v' _ ln _ SZ.out.2 hv)).mono ?_
  rintro e w2 ⟨rfl, hw⟩
  have W2 : Aside (LX w B g v ((s.lay (tx lp)).lay (tx ln)) [(bo, cs, 29)] w2) := hw
  clear hw W1 c1
  have c2 := W2.out.cell (List.mem_cons_self ..) (i := 2) (by rw [CSA.out]; rfl)
  go_wp2_with fail
  refine (W2.out.calls (fun v' hv => wCount_any B g v' _ (n : Int) _ hv)).mono ?_
  rintro e w3 ⟨rfl, hw⟩
  rw [count_form _ _ hl] at hw
  have W3 : Aside (LX w B g v (((s.lay (tx lp)).lay (tx ln)).lay (form n)) [(bo, cs, 29)] w3) := hw
  clear hw W2 c2
  have c2 := W3.out.cell (List.mem_cons_self ..) (i := 2) (by rw [CSA.out]; rfl)
  obtain ⟨s1, hs1⟩ : ∃ s1, s1 = ((s.lay (tx lp)).lay (tx ln)).lay (form n) := ⟨_, rfl⟩
  have S1 : Aside (s1 = [tx lp, tx ln, form n].foldl WS.lay s) := hs1
  rw [← hs1] at W3
  clear hs1
  go_wp2_with fail
  go_loopg [22] n (fun gg si wr => ∃ (k : Nat), k ≤ n ∧ gg = n - k ∧ si = .int .i64 k ∧ LX w B g v (((rs.take k).flatMap rlE).foldl WS.lay s1) [(bo, cs, 29)] wr)
  case atStart => exact ⟨0, Nat.zero_le _, rfl, rfl, W3.out⟩
  case round =>
    clear W3 c2
    obtain ⟨k, hk, hg, rfl, hw⟩ := hrel
    have R : Aside (gk = n - k ∧ LX w B g v (((rs.take k).flatMap rlE).foldl WS.lay s1) [(bo, cs, 29)] wr) := ⟨hg, hw⟩
    clear hg hw
    by_cases hlt : k < n
    · have hlt2 : k < rs.length := by rw [← HN.out]; exact hlt
      obtain ⟨b, off, rfl, pc⟩ := (V.out.2.2.2.below (R.out.2.laid.belowB V.out.1 V.out.2.1 V.out.2.2.1)).at k hlt2
      have HS := FR.out _ (getD_in (d := kRl.z) hlt2)
      obtain ⟨x, hx⟩ : ∃ x, x = rs.getD k kRl.z := ⟨_, rfl⟩
      rw [← hx] at pc HS
      obtain ⟨s4, hsx⟩ : ∃ s4, s4 = ((rs.take k).flatMap rlE).foldl WS.lay s1 := ⟨_, rfl⟩
      have X : Aside ((rlE x).foldl WS.lay s4 = ((rs.take (k + 1)).flatMap rlE).foldl WS.lay s1) := by
        show _ = _
        rw [take_onez rs k kRl.z hlt2, ← hx, List.flatMap_append, List.foldl_append, ← hsx, List.flatMap_cons, List.flatMap_nil, List.append_nil]
      have W := R.out.2
      rw [← hsx] at W
      clear hx hsx hlt2
      have G : Aside (gk = n - k) := R.out.1
      clear R
      obtain ⟨xr, x1, x2, x3, x4, x5⟩ := x
      have p0 : wr.cell? ⟨b, off + k * 6, none⟩ = some (.string xr) := pc 0 _ rfl
      have p1 : wr.cell? ⟨b, off + k * 6 + 1, none⟩ = some (.int .i64 x1) := pc 1 _ rfl
      have p2 : wr.cell? ⟨b, off + k * 6 + 2, none⟩ = some (.int .i64 x2) := pc 2 _ rfl
      have p3 : wr.cell? ⟨b, off + k * 6 + 3, none⟩ = some (.int .i64 x3) := pc 3 _ rfl
      have p4 : wr.cell? ⟨b, off + k * 6 + 4, none⟩ = some (.int .i64 x4) := pc 4 _ rfl
      have p5 : wr.cell? ⟨b, off + k * 6 + 5, none⟩ = some (.int .i64 x5) := pc 5 _ rfl
      have HZ : Aside (xr.size ≤ 140737488355328 ∧ fits x1 ∧ fits x2 ∧ fits x3 ∧ fits x4 ∧ fits x5) := ⟨HS.r, HS.n⟩
      have W0 := W.box #[.string xr, .int .i64 x1, .int .i64 x2, .int .i64 x3, .int .i64 x4, .int .i64 x5] 60
      have d0 := W0.cell (List.mem_cons_self ..) (i := 0) rfl
      have WA : Aside (LX w B g v s4 [(wr.heap.size, #[.string xr, .int .i64 x1, .int .i64 x2, .int .i64 x3, .int .i64 x4, .int .i64 x5], 60), (bo, cs, 29)] (wr.alloc (.cells #[.string xr, .int .i64 x1, .int .i64 x2, .int .i64 x3, .int .i64 x4, .int .i64 x5] 60))) := W0
      have hlt' : (k : Int) < (n : Int) := by omega
      clear W W0 HS pc
      go_wp2_with fail
      refine (WA.out.calls (fun v' hv => wText_any B g v' _ xr _ HZ.out.1 hv)).mono ?_
      rintro e a0 ⟨rfl, hw⟩
      clear d0 p0 p1 p2 p3 p4 p5
      have d1 := hw.cell (List.mem_cons_self ..) (i := 1) rfl
      have WA0 : Aside (LX w B g v _ [(wr.heap.size, #[.string xr, .int .i64 x1, .int .i64 x2, .int .i64 x3, .int .i64 x4, .int .i64 x5], 60), (bo, cs, 29)] a0) := hw
      clear hw WA
      go_wp2_with fail
      refine (WA0.out.calls (fun v' hv => wInt_any B g v' _ x1 _ HZ.out.2.1.1 HZ.out.2.1.2 hv)).mono ?_
      rintro e a1 ⟨rfl, hw⟩
      clear d1
      have d2 := hw.cell (List.mem_cons_self ..) (i := 2) rfl
      have WA1 : Aside (LX w B g v _ [(wr.heap.size, #[.string xr, .int .i64 x1, .int .i64 x2, .int .i64 x3, .int .i64 x4, .int .i64 x5], 60), (bo, cs, 29)] a1) := hw
      clear hw WA0
      go_wp2_with fail
      refine (WA1.out.calls (fun v' hv => wInt_any B g v' _ x2 _ HZ.out.2.2.1.1 HZ.out.2.2.1.2 hv)).mono ?_
      rintro e a2 ⟨rfl, hw⟩
      clear d2
      have d3 := hw.cell (List.mem_cons_self ..) (i := 3) rfl
      have WA2 : Aside (LX w B g v _ [(wr.heap.size, #[.string xr, .int .i64 x1, .int .i64 x2, .int .i64 x3, .int .i64 x4, .int .i64 x5], 60), (bo, cs, 29)] a2) := hw
      clear hw WA1
      go_wp2_with fail
      refine (WA2.out.calls (fun v' hv => wInt_any B g v' _ x3 _ HZ.out.2.2.2.1.1 HZ.out.2.2.2.1.2 hv)).mono ?_
      rintro e a3 ⟨rfl, hw⟩
      clear d3
      have d4 := hw.cell (List.mem_cons_self ..) (i := 4) rfl
      have WA3 : Aside (LX w B g v _ [(wr.heap.size, #[.string xr, .int .i64 x1, .int .i64 x2, .int .i64 x3, .int .i64 x4, .int .i64 x5], 60), (bo, cs, 29)] a3) := hw
      clear hw WA2
      go_wp2_with fail
      refine (WA3.out.calls (fun v' hv => wInt_any B g v' _ x4 _ HZ.out.2.2.2.2.1.1 HZ.out.2.2.2.2.1.2 hv)).mono ?_
      rintro e a4 ⟨rfl, hw⟩
      clear d4
      have d5 := hw.cell (List.mem_cons_self ..) (i := 5) rfl
      have WA4 : Aside (LX w B g v _ [(wr.heap.size, #[.string xr, .int .i64 x1, .int .i64 x2, .int .i64 x3, .int .i64 x4, .int .i64 x5], 60), (bo, cs, 29)] a4) := hw
      clear hw WA3
      go_wp2_with fail
      refine (WA4.out.calls (fun v' hv => wInt_any B g v' _ x5 _ HZ.out.2.2.2.2.2.1 HZ.out.2.2.2.2.2.2 hv)).mono ?_
      rintro e a5 ⟨rfl, hw⟩
      clear d5
      have WD : Aside (LX w B g v (((rs.take (k + 1)).flatMap rlE).foldl WS.lay s1) [(bo, cs, 29)] a5) := by
        rw [← X.out]
        exact hw.pop
      clear hw WA4
      go_wp2_with fail
      go_roundg (n - (k + 1))
      case measure => have := G.out; omega
      case rel => exact ⟨k + 1, by omega, rfl, by go_num, WD.out⟩
    · have W8 : Aside (Laid B g v (([tx lp, tx ln, form n] ++ rs.flatMap rlE).foldl WS.lay s) w wr) := by
        have h2 := R.out.2
        rw [List.take_of_length_le (by rw [← HN.out]; omega)] at h2
        rw [foldl_app, ← S1.out]
        exact h2.laid
      clear R
      go_wp2_with fail
      go_end0
      exact ⟨rfl, W8.out⟩
end Go.Proofs.YtanpneahembhbaaGreatDoor
end S3

section S4
namespace Go.Proofs.YtanpneahembhbaaGreatDoor
open Go.RowKit
def mnI (x y : Int) : Int := if y < x then y else x
theorem mnI_lt (x y : Int) : mnI x y < -1 ↔ x < -1 ∨ y < -1 := by unfold mnI; split <;> omega
theorem run_min5 (p1 p2 p3 p4 p5 M : Int) (hM : mnI (mnI (mnI (mnI p1 p2) p3) p4) p5 = M) (ts : Array TypeId) (t : TypeId) (w : World) : (Builtin.min_ ts t #[.int .i64 p1, .int .i64 p2, .int .i64 p3, .int .i64 p4, .int .i64 p5]).run Tryz.prog w = .ok (.int .i64 M) w := by
  rw [← hM]; unfold mnI
  simp [Builtin.min_, Builtin.min2]
def rlB (x : Rl) : Bool := decide (-1 ≤ x.a) && (decide (-1 ≤ x.b) && (decide (-1 ≤ x.c) && (decide (-1 ≤ x.d) && decide (-1 ≤ x.e))))
def lrS (l : Lr) : Bool := namedB l.p l.n && (decide (1 ≤ l.rs.length) && (decide (l.rs.length ≤ 16) && (l.rs.all rlB && ressB (l.rs.map (·.r)))))
theorem info_st : (Tryz.prog.info? 9).map (fun i => (i.zero, i.size, i.bytes)) = some (some (.string ⟨#[]⟩), 1, 16) := by kernel_rfl
theorem make_st (n : Nat) (hn : n ≤ 1000000) (w : World) : ∃ cur : Array Value, cur.size = n * 1 ∧ (Instr.makeSlice 101 (.int .i64 0) (.int .i64 n)).run Tryz.prog w = .ok (.slice (some ⟨w.heap.size, 0, none⟩) 0 n) (w.alloc (.cells cur 9)) := by
  obtain ⟨i0, hi, hz0, hz1, hz2⟩ := info_parts info_st
  have h := run_make (P := Tryz.prog) w 101 9 i0 _ Tryz.underlying101 hi hz0 .i64 .i64 0 n (by omega) (by omega) (by rw [hz2]; omega) (by omega)
  exact ⟨_, by rw [size_madeCells, hz1, Int.toNat_natCast], h⟩
theorem made_st {w : World} {n : Nat} {cur : Array Value} (hs : cur.size = n * 1) (hn : n ≤ 1000000) : OwnR kSt w.heap.size (w.alloc (.cells cur 9)) (.slice (some ⟨w.heap.size, 0, none⟩) 0 n) [] :=
  ⟨rfl, .inr ⟨w.heap.size, n, cur, rfl, Nat.le_refl _, heap_alloc_new .., Nat.zero_le _, by unfold maxLen; omega, hs, by simp [cellsR]⟩⟩
theorem all_not {α : Type} {p : α → Bool} {l : List α} {k : Nat} {d : α} (hk : k < l.length) (h : p (l.getD k d) = false) : l.all p = false := by
  rw [List.all_eq_false]; exact ⟨_, getD_in hk, by rw [h]; simp⟩
set_option maxHeartbeats 8000000 in
set_option maxRecDepth 100000 in
theorem limitStands_any (l : Lr) (u : Value) (w : World) (hm : L.HasM w) (hv : Row kRl w u l.rs) : Calls Tryz.prog 30 #[l.val u] w fun e w' => e = .returned (.bool (lrS l)) ∧ Below w.heap.size w w' := by
  obtain ⟨lp, ln, rs⟩ := l
  simp only at hv
  obtain ⟨u1, u3, rfl, hlc, hcm⟩ := hv.len
  unfold maxLen at hcm
  have V := Lib.hid hv
  obtain ⟨n, hn⟩ : ∃ n, n = rs.length := ⟨_, rfl⟩
  obtain ⟨S, hS⟩ : ∃ S, S = lrS ⟨lp, ln, rs⟩ := ⟨_, rfl⟩
  have ES : Aside (S = (namedB lp ln && (decide (1 ≤ n) && (decide (n ≤ 16) && (rs.all rlB && ressB (rs.map (·.r))))))) := by show _ = _; rw [hS, hn]; rfl
  rw [← hS]
  unfold Lr.val
  simp only
  rw [← hn] at hlc V ⊢
  have HN := Lib.hid hn
  clear hn hS hv
  obtain ⟨X, hX⟩ : ∃ X, X = w.alloc (.cells #[.string lp, .string ln, .slice u1 n u3] 29) := ⟨_, rfl⟩
  have AX : Hid (Below w.heap.size w X) := Lib.hid (by rw [hX]; exact (Below.refl _ w).alloc (Nat.le_refl _) _)
  have CX : Hid (∀ i y, #[Value.string lp, .string ln, .slice u1 n u3][i]? = some y → X.cell? ⟨w.heap.size, i, none⟩ = some y) := Lib.hid fun i y h => by
    rw [hX, World.cell?_alloc_new]; exact h
  have d0 := CX.out 0 _ rfl
  have d1 := CX.out 1 _ rfl
  have NA := Lib.hid (named_any lp ln X (hm.below AX.out))
  have hX' := hX.symm
  clear hX hm
  go_enter Tryz.func30, Tryz.ntmps30
  go_wp2_with fail
  refine NA.out.mono ?_
  rintro e w1 ⟨rfl, hb⟩
  have B1 := Lib.hid hb
  have BW : Hid (Below w.heap.size w w1) := Lib.hid (AX.out.trans (hb.mono AX.out.size))
  clear hb NA hX' d0 d1
  cases h1 : namedB lp ln with
  | false =>
    have F : Aside (S = false) := by show _ = _; rw [ES.out, h1]; rfl
    go_wp2_with fail
    go_ret
    exact ⟨by rw [F.out]; rfl, BW.out⟩
  | true =>
  have d2 := (B1.out.cell (block_lt_of_cell (CX.out 2 _ rfl))).trans (CX.out 2 _ rfl)
  by_cases hn1 : n < 1
  · have g : decide ((n : Int) < 1) = true := decide_eq_true (by omega)
    have F : Aside (S = false) := by show _ = _; rw [ES.out, decide_eq_false (show ¬ 1 ≤ n by omega)]; simp
    go_wp2_with fail
    go_ret
    exact ⟨by rw [F.out]; rfl, BW.out⟩
  have g1 : decide ((n : Int) < 1) = false := decide_eq_false (by omega)
  by_cases h16 : n > 16
  · have g : decide ((n : Int) > 16) = true := decide_eq_true (by omega)
    have F : Aside (S = false) := by show _ = _; rw [ES.out, decide_eq_false (show ¬ n ≤ 16 by omega)]; simp
    go_wp2_with fail
    go_ret
    exact ⟨by rw [F.out]; rfl, BW.out⟩
  have g16 : decide ((n : Int) > 16) = false := decide_eq_false (by omega)
  have E : Aside (S = (rs.all rlB && ressB (rs.map (·.r)))) := by show _ = _; rw [ES.out, h1, decide_eq_true (show 1 ≤ n by omega), decide_eq_true (show n ≤ 16 by omega)]; rfl
  obtain ⟨cur, hc, mk⟩ := make_st n (by omega) w1
  have M := Lib.hid (And.intro (Below.alloc BW.out BW.out.size (.cells cur 9)) ((made_st (w := w1) hc (by omega)).mono BW.out.size))
  obtain ⟨X1, hX1⟩ : ∃ X1, X1 = w1.alloc (.cells cur 9) := ⟨_, rfl⟩
  have d3 : X1.cell? ⟨w.heap.size, 2, none⟩ = some (.slice u1 n u3) := by rw [hX1]; exact ((((Below.refl _ w1).alloc (Nat.le_refl _) _)).cell (block_lt_of_cell d2)).trans d2
  rw [← hX1] at mk M
  clear hc hX1 ES
  go_wp2_with fail
  clear mk g1 g16 d2 d3
  go_loopg [3, 31] n (fun gg so si wr => ∃ (k : Nat) (a' : Option Addr) (m c : Nat), k ≤ n ∧ gg = n - k ∧ si = .int .i64 k ∧ so = .slice a' m c ∧ OwnR kSt w.heap.size wr (.slice a' m c) ((rs.take k).map (·.r)) ∧ Below w.heap.size w wr ∧ ∀ x ∈ rs.take k, rlB x = true)
  case atStart => exact ⟨0, _, _, _, Nat.zero_le _, rfl, rfl, rfl, M.out.2, M.out.1, fun x hx => by simp at hx⟩
  case round =>
    clear M
    obtain ⟨k, a', m, c, hk, hg, rfl, rfl, ho, hb, hall⟩ := hrel
    have R : Aside (gk = n - k ∧ OwnR kSt w.heap.size wr (.slice a' m c) ((rs.take k).map (·.r)) ∧ Below w.heap.size w wr ∧ ∀ x ∈ rs.take k, rlB x = true) := ⟨hg, ho, hb, hall⟩
    clear hg ho hb hall
    by_cases hlt : k < n
    · have hlt' : (k : Int) < (n : Int) := by omega
      have hlt2 : k < rs.length := by rw [← HN.out]; exact hlt
      obtain ⟨b, off, rfl, pc⟩ := (V.out.below R.out.2.2.1).at k hlt2
      obtain ⟨x, hx⟩ : ∃ x, x = rs.getD k kRl.z := ⟨_, rfl⟩
      have ST : Hid (rs.take (k + 1) = rs.take k ++ [x]) := Lib.hid (by rw [hx]; exact take_onez rs k kRl.z hlt2)
      have NO : Hid (rlB x = false → rs.all rlB = false) := Lib.hid (fun q => all_not (d := kRl.z) hlt2 (by rw [← hx]; exact q))
      rw [← hx] at pc
      clear hx hlt2
      obtain ⟨xr, x1, x2, x3, x4, x5⟩ := x
      have p0 : wr.cell? ⟨b, off + k * 6, none⟩ = some (.string xr) := pc 0 _ rfl
      have p1 : wr.cell? ⟨b, off + k * 6 + 1, none⟩ = some (.int .i64 x1) := pc 1 _ rfl
      have p2 : wr.cell? ⟨b, off + k * 6 + 2, none⟩ = some (.int .i64 x2) := pc 2 _ rfl
      have p3 : wr.cell? ⟨b, off + k * 6 + 3, none⟩ = some (.int .i64 x3) := pc 3 _ rfl
      have p4 : wr.cell? ⟨b, off + k * 6 + 4, none⟩ = some (.int .i64 x4) := pc 4 _ rfl
      have p5 : wr.cell? ⟨b, off + k * 6 + 5, none⟩ = some (.int .i64 x5) := pc 5 _ rfl
      obtain ⟨Y, hY⟩ : ∃ Y, Y = wr.alloc (.cells #[.string xr, .int .i64 x1, .int .i64 x2, .int .i64 x3, .int .i64 x4, .int .i64 x5] 60) := ⟨_, rfl⟩
      have AY : Hid (Below wr.heap.size wr Y) := Lib.hid (by rw [hY]; exact (Below.refl _ wr).alloc (Nat.le_refl _) _)
      have CY : Hid (∀ i y, #[Value.string xr, .int .i64 x1, .int .i64 x2, .int .i64 x3, .int .i64 x4, .int .i64 x5][i]? = some y → Y.cell? ⟨wr.heap.size, i, none⟩ = some y) := Lib.hid fun i y h => by
        rw [hY, World.cell?_alloc_new]; exact h
      have q0 := CY.out 0 _ rfl
      have q1 := CY.out 1 _ rfl
      have q2 := CY.out 2 _ rfl
      have q3 := CY.out 3 _ rfl
      have q4 := CY.out 4 _ rfl
      have q5 := CY.out 5 _ rfl
      have BY : Hid (Below w.heap.size w Y) := Lib.hid (R.out.2.2.1.trans (AY.out.mono R.out.2.2.1.size))
      have hY' := hY.symm
      obtain ⟨mm, hmm⟩ : ∃ mm, mm = mnI (mnI (mnI (mnI x1 x2) x3) x4) x5 := ⟨_, rfl⟩
      have mnr := run_min5 x1 x2 x3 x4 x5 mm hmm.symm
      have HL : Hid (mm < -1 ↔ rlB ⟨xr, x1, x2, x3, x4, x5⟩ = false) := Lib.hid (by
        rw [hmm, mnI_lt, mnI_lt, mnI_lt, mnI_lt]
        unfold rlB
        simp only [Bool.and_eq_false_iff, decide_eq_false_iff_not]
        omega)
      clear hY pc hmm
      by_cases hlo : mm < -1
      · have g : decide (mm < -1) = true := decide_eq_true hlo
        have F : Aside (S = false) := by show _ = _; rw [E.out, NO.out (HL.out.1 hlo)]; rfl
        clear hlo
        go_wp2_with fail
        go_ret
        exact ⟨by rw [F.out]; rfl, BY.out⟩
      · have g : decide (mm < -1) = false := decide_eq_false hlo
        have hrl : Hid (rlB ⟨xr, x1, x2, x3, x4, x5⟩ = true) := Lib.hid (by
          cases q : rlB ⟨xr, x1, x2, x3, x4, x5⟩ with
          | true => rfl
          | false => exact absurd (HL.out.2 q) hlo)
        obtain ⟨acc, hacc⟩ : ∃ acc, acc = (rs.take k).map (·.r) := ⟨_, rfl⟩
        have OY : Hid (OwnR kSt w.heap.size Y (.slice a' m c) acc) := Lib.hid (by rw [hacc]; exact R.out.2.1.below AY.out)
        have S2 : Hid ((rs.take (k + 1)).map (·.r) = acc ++ [xr]) := Lib.hid (by rw [ST.out, List.map_append, hacc]; rfl)
        have LN : Hid (acc.length < 100000000) := Lib.hid (by rw [hacc, List.length_map, List.length_take]; omega)
        clear hacc hlo
        go_wp2_with (at_builtin; refine app_row okSt (gg := Y.heap.size) rfl _ _ rfl rfl OY.out BY.out.size xr ?hgg rfl rfl LN.out ?_)
        case hgg => simp
        intro v' w' h1 h2
        obtain ⟨a2, c2, rfl⟩ := h1.slice
        have A : Aside (OwnR kSt w.heap.size w' (.slice a2 (acc ++ [xr]).length c2) ((rs.take (k + 1)).map (·.r)) ∧ Below w.heap.size w w' ∧ ∀ x ∈ rs.take (k + 1), rlB x = true) := by
          refine ⟨by rw [S2.out]; exact h1, BY.out.trans (grown_belowR h2 OY.out BY.out.size), fun x hx => ?_⟩
          rw [ST.out] at hx
          rcases List.mem_append.1 hx with hx | hx
          · exact R.out.2.2.2 x hx
          · rw [List.mem_singleton.1 hx]; exact hrl.out
        clear h1 h2
        go_wp2_with fail
        go_roundg (n - (k + 1))
        case measure => have := R.out.1; omega
        case rel => exact ⟨k + 1, a2, _, c2, by omega, rfl, by go_num, rfl, A.out⟩
    · have TK : Hid (rs.take k = rs) := Lib.hid (List.take_of_length_le (by rw [← HN.out]; omega))
      have RA := Lib.hid (resources_any _ _ wr (R.out.2.1.row okSt) (by rw [List.length_map, List.length_take]; omega))
      rw [TK.out] at RA
      have F : Aside (S = ressB (rs.map (·.r))) := by
        show _ = _
        rw [E.out, List.all_eq_true.2 (fun x hx => R.out.2.2.2 x (by rw [TK.out]; exact hx))]; rfl
      go_wp2_with fail
      refine RA.out.mono ?_
      rintro e w2 ⟨rfl, hb⟩
      have B2 := Lib.hid (R.out.2.2.1.trans (hb.mono R.out.2.2.1.size))
      clear hb RA
      go_wp2_with fail
      go_ret
      exact ⟨by rw [F.out]; rfl, B2.out⟩
end Go.Proofs.YtanpneahembhbaaGreatDoor
end S4

section S5
namespace Go.Proofs.YtanpneahembhbaaGreatDoor
open Go.RowKit Go.Sort
/-- What the document asks of a rule at its place. -/
def rkAt (rs : List Rl) (i : Nat) : Bool := resB (rs.getD i kRl.z).r && ((decide (i = 0) || L.ltS (rs.getD (i - 1) kRl.z).r (rs.getD i kRl.z).r) && rlB (rs.getD i kRl.z))
theorem getD_r (rs : List Rl) (i : Nat) (h : i < rs.length) : (((rs.map (·.r)).map zAm).getD i kAm.z).n = (rs.getD i kRl.z).r := by
  simp [List.getD_eq_getElem?_getD, h, zAm]
theorem lrS_at {p m : ByteArray} {rs : List Rl} (hn : namedB p m = true) (h1 : 1 ≤ rs.length) (h2 : rs.length ≤ 16) : lrS ⟨p, m, rs⟩ = (List.range rs.length).all (rkAt rs) := by
  have e : lrS ⟨p, m, rs⟩ = (rs.all rlB && (((rs.map (·.r)).map zAm).all amB && (List.range rs.length).all fun i => decide (i = 0) || L.ltS (((rs.map (·.r)).map zAm).getD (i - 1) kAm.z).n (((rs.map (·.r)).map zAm).getD i kAm.z).n)) := by
    unfold lrS ressB amsB
    simp only [List.length_map]
    rw [hn, decide_eq_true h1, decide_eq_true h2]; rfl
  rw [e, Bool.eq_iff_iff]
  simp only [Bool.and_eq_true, List.all_eq_true]
  constructor
  · rintro ⟨ha, hb, hc⟩ i hi
    have hi' := List.mem_range.1 hi
    have q := hc i hi
    rw [getD_r rs i hi'] at q
    unfold rkAt
    simp only [Bool.and_eq_true]
    refine ⟨?_, ?_, ha _ (getD_in hi')⟩
    · have := hb (zAm (rs.getD i kRl.z).r) (by rw [List.map_map]; exact List.mem_map.2 ⟨_, getD_in hi', rfl⟩)
      unfold amB zAm at this
      simpa using this
    · by_cases z : i = 0
      · simp [z]
      · rw [getD_r rs (i - 1) (by omega)] at q; exact q
  · intro H
    have all : ∀ x ∈ rs, ∃ i, i < rs.length ∧ rs.getD i kRl.z = x := fun x hx => by
      obtain ⟨i, hi, e⟩ := List.getElem_of_mem hx
      exact ⟨i, hi, by rw [List.getD_eq_getElem?_getD, List.getElem?_eq_getElem hi, e]; rfl⟩
    have K : ∀ i, i < rs.length → resB (rs.getD i kRl.z).r = true ∧ (decide (i = 0) || L.ltS (rs.getD (i - 1) kRl.z).r (rs.getD i kRl.z).r) = true ∧ rlB (rs.getD i kRl.z) = true := fun i hi => by
      have := H i (List.mem_range.2 hi)
      unfold rkAt at this
      simpa only [Bool.and_eq_true] using this
    refine ⟨fun x hx => ?_, fun y hy => ?_, fun i hi => ?_⟩
    · obtain ⟨i, hi, rfl⟩ := all x hx; exact (K i hi).2.2
    · rw [List.map_map] at hy
      obtain ⟨x, hx, rfl⟩ := List.mem_map.1 hy
      obtain ⟨i, hi, rfl⟩ := all x hx
      show amB (zAm _) = true
      unfold amB zAm
      simpa using (K i hi).1
    · have hi' := List.mem_range.1 hi
      rw [getD_r rs i hi']
      by_cases z : i = 0
      · simp [z]
      · rw [getD_r rs (i - 1) (by omega)]; exact (K i hi').2.1
theorem lrS_no {p m : ByteArray} {rs : List Rl} (h : namedB p m = true ∧ 1 ≤ rs.length ∧ rs.length ≤ 16) {i : Nat} (hi : i < rs.length) (hk : rkAt rs i = false) : lrS ⟨p, m, rs⟩ = false := by
  rw [lrS_at h.1 h.2.1 h.2.2, List.all_eq_false]
  exact ⟨i, List.mem_range.2 hi, by rw [hk]; decide⟩
theorem of_lt {x : Int} (h : decide (x < -1) = false) : -1 ≤ x := by have := of_decide_eq_false h; omega
structure FL (w : World) (c : Array Value) (W : World) : Prop where
  o : W.heap[w.heap.size]? = some (.cells c 29 (0, 0))
  be : Below w.heap.size w W
theorem FL.below {w W W' : World} {c : Array Value} (h : FL w c W) (hb : Below W.heap.size W W') : FL w c W' := ⟨by rw [hb.block _ (lt_of_some h.o)]; exact h.o, h.be.trans (hb.mono h.be.size)⟩
set_option maxHeartbeats 16000000 in
set_option maxRecDepth 100000 in
theorem refFormedL_any (q : Lr) (u : Value) (w : World) (hu : Row kRl w u q.rs) (hf : q.Fit) (hp : q.p.size ≤ 1048576) : Calls Tryz.prog 66 #[q.val u] w fun e w' => e = .returned (.bool (lrS q)) ∧ Below w.heap.size w w' := by
  obtain ⟨p, m, rs⟩ := q
  simp only at hu hp
  have U := Lib.hid hu
  have FT := Lib.hid hf.r
  obtain ⟨u1, u3, rfl, hlc, hcm⟩ := hu.len
  unfold maxLen at hcm
  unfold Lr.val
  simp only
  obtain ⟨n, hn⟩ : ∃ n, n = rs.length := ⟨_, rfl⟩
  rw [← hn] at hlc U ⊢
  have HN0 := Lib.hid hn
  clear hu hn hf
  obtain ⟨X, hX⟩ : ∃ X, X = w.alloc (.cells #[.string p, .string m, .slice u1 n u3] 29) := ⟨_, rfl⟩
  have K0 : Hid (FL w #[.string p, .string m, .slice u1 n u3] X) := Lib.hid ⟨by rw [hX, heap_alloc_new], by rw [hX]; exact (Below.refl _ w).alloc (Nat.le_refl _) _⟩
  have d0 : X.cell? ⟨w.heap.size, 0, none⟩ = some (.string p) := by rw [cell_of_row X _ 0 _ _ _ K0.out.o]; rfl
  have d1 : X.cell? ⟨w.heap.size, 1, none⟩ = some (.string m) := by rw [cell_of_row X _ 1 _ _ _ K0.out.o]; rfl
  have NA := Lib.hid (refNamed_any p m X hp)
  have hX' := hX.symm
  clear hX hp
  go_enter Tryz.func66, Tryz.ntmps66
  go_wp2_with fail
  refine NA.out.mono ?_
  rintro e w1 ⟨rfl, hb⟩
  have K1 := Lib.hid (K0.out.below hb)
  have BF := Lib.hid K1.out.be
  clear hb NA hX' d0 d1 K0
  have d2 : w1.cell? ⟨w.heap.size, 2, none⟩ = some (.slice u1 n u3) := by rw [cell_of_row w1 _ 2 _ _ _ K1.out.o]; rfl
  cases h1 : namedB p m with
  | false =>
    have NO : Aside (lrS ⟨p, m, rs⟩ = false) := by show _ = _; unfold lrS; simp only; rw [h1]; rfl
    clear h1
    go_wp2_with fail
    go_ret
    exact ⟨by rw [NO.out]; rfl, BF.out⟩
  | true =>
  by_cases l1 : n < 1
  · have NO : Aside (lrS ⟨p, m, rs⟩ = false) := by show _ = _; unfold lrS; simp only; rw [h1, decide_eq_false (show ¬ 1 ≤ rs.length by rw [← HN0.out]; omega)]; rfl
    have g1 : decide ((n : Int) < 1) = true := decide_eq_true (by omega)
    clear h1 l1
    go_wp2_with fail
    go_ret
    exact ⟨by rw [NO.out]; rfl, BF.out⟩
  by_cases l2 : 16 < n
  · have NO : Aside (lrS ⟨p, m, rs⟩ = false) := by show _ = _; unfold lrS; simp only; rw [h1, decide_eq_false (show ¬ rs.length ≤ 16 by rw [← HN0.out]; omega)]; simp
    have g1 : decide ((n : Int) < 1) = false := decide_eq_false (by omega)
    have g2 : decide ((n : Int) > 16) = true := decide_eq_true (by omega)
    clear h1 l1 l2
    go_wp2_with fail
    go_ret
    exact ⟨by rw [NO.out]; rfl, BF.out⟩
  have HN : Hid (namedB p m = true ∧ 1 ≤ rs.length ∧ rs.length ≤ 16) := Lib.hid ⟨h1, by rw [← HN0.out]; omega, by rw [← HN0.out]; omega⟩
  have gn1 : decide ((n : Int) < 1) = false := decide_eq_false (by omega)
  have gn2 : decide ((n : Int) > 16) = false := decide_eq_false (by omega)
  clear h1
  go_wp2_with fail
  clear gn1 gn2 d2 BF
  go_loopg [3] n (fun gg si wr => ∃ (k : Nat), k ≤ n ∧ gg = n - k ∧ si = .int .i64 k ∧ (∀ i, i < k → rkAt rs i = true) ∧ FL w #[.string p, .string m, .slice u1 n u3] wr)
  case atStart => exact ⟨0, Nat.zero_le _, rfl, rfl, fun i h => by omega, K1.out⟩
  case round =>
    clear K1
    obtain ⟨k, hk, hg, rfl, hok, hfl⟩ := hrel
    have R : Aside (gk = n - k ∧ (∀ i, i < k → rkAt rs i = true) ∧ FL w #[.string p, .string m, .slice u1 n u3] wr) := ⟨hg, hok, hfl⟩
    have k2 : wr.cell? ⟨w.heap.size, 2, none⟩ = some (.slice u1 n u3) := by rw [cell_of_row wr _ 2 _ _ _ hfl.o]; rfl
    clear hg hok hfl
    by_cases hlt : k < n
    · have hlt' : (k : Int) < (n : Int) := by omega
      have hlt2 : k < rs.length := by rw [← HN0.out]; exact hlt
      obtain ⟨b, off, rfl, pc⟩ := (U.out.below R.out.2.2.be).at k hlt2
      have XF := Lib.hid (FT.out _ (getD_in (d := kRl.z) hlt2))
      obtain ⟨x, hx⟩ : ∃ x, x = rs.getD k kRl.z := ⟨_, rfl⟩
      rw [← hx] at pc XF
      have HX := Lib.hid hx.symm
      clear hx
      obtain ⟨xr, x1, x2, x3, x4, x5⟩ := x
      have p0 : wr.cell? ⟨b, off + k * 6, none⟩ = some (.string xr) := pc 0 _ rfl
      have p1 : wr.cell? ⟨b, off + k * 6 + 1, none⟩ = some (.int .i64 x1) := pc 1 _ rfl
      have p2 : wr.cell? ⟨b, off + k * 6 + 2, none⟩ = some (.int .i64 x2) := pc 2 _ rfl
      have p3 : wr.cell? ⟨b, off + k * 6 + 3, none⟩ = some (.int .i64 x3) := pc 3 _ rfl
      have p4 : wr.cell? ⟨b, off + k * 6 + 4, none⟩ = some (.int .i64 x4) := pc 4 _ rfl
      have p5 : wr.cell? ⟨b, off + k * 6 + 5, none⟩ = some (.int .i64 x5) := pc 5 _ rfl
      obtain ⟨Y, hY⟩ : ∃ Y, Y = wr.alloc (.cells #[.string xr, .int .i64 x1, .int .i64 x2, .int .i64 x3, .int .i64 x4, .int .i64 x5] 60) := ⟨_, rfl⟩
      obtain ⟨b6, hb6⟩ : ∃ b6, b6 = wr.heap.size := ⟨_, rfl⟩
      have AY : Below wr.heap.size wr Y := by rw [hY]; exact (Below.refl _ wr).alloc (Nat.le_refl _) _
      have KX := Lib.hid (R.out.2.2.below AY)
      have BF := Lib.hid KX.out.be
      have YR : Hid (Y.heap[b6]? = some (.cells #[.string xr, .int .i64 x1, .int .i64 x2, .int .i64 x3, .int .i64 x4, .int .i64 x5] 60 (0, 0))) := Lib.hid (by rw [hY, hb6, heap_alloc_new])
      have yc : ∀ j y, (#[.string xr, .int .i64 x1, .int .i64 x2, .int .i64 x3, .int .i64 x4, .int .i64 x5] : Array Value)[j]? = some y → Y.cell? ⟨b6, j, none⟩ = some y := fun j y h => by rw [cell_of_row Y b6 j _ _ _ YR.out]; exact h
      have y0 := yc 0 _ rfl
      have y1 := yc 1 _ rfl
      have y2 := yc 2 _ rfl
      have y3 := yc 3 _ rfl
      have y4 := yc 4 _ rfl
      have y5 := yc 5 _ rfl
      have z2 : Y.cell? ⟨w.heap.size, 2, none⟩ = some (.slice (some ⟨b, off, none⟩) n u3) := by rw [cell_of_row Y _ 2 _ _ _ KX.out.o]; rfl
      have RC := Lib.hid (fun W => refRes_any xr W XF.out.r)
      have hY2 := hY.symm
      have hb62 := hb6.symm
      have PV : Hid (0 < k → ∃ pr, Y.cell? ⟨b, off + (k - 1) * 6, none⟩ = some (.string pr) ∧ (rs.getD (k - 1) kRl.z).r = pr) := Lib.hid fun h0 => by
        obtain ⟨b', off', ea, pc'⟩ := (U.out.below R.out.2.2.be).at (k - 1) (by omega)
        simp only [Option.some.injEq, Addr.mk.injEq, and_true] at ea
        obtain ⟨rfl, rfl⟩ := ea
        exact ⟨_, ((AY.cell (block_lt_of_cell (pc' 0 _ rfl))).trans (pc' 0 _ rfl)), rfl⟩
      clear hY hb6 AY pc yc
      cases hres : resB xr with
      | false =>
        rw [hres] at RC
        have NO : Hid (lrS ⟨p, m, rs⟩ = false) := Lib.hid (lrS_no HN.out hlt2 (by unfold rkAt; rw [HX.out]; simp only; rw [hres]; rfl))
        clear hres HX PV
        have r0 : ∀ (dq : Nat) (os : Array Obj), (grow (redrawn Y dq) os).cell? ⟨b6, 0, none⟩ = some (.string xr) := fun dq os => cell_regrown y0 dq os
        have r2 : ∀ (dq : Nat) (os : Array Obj), (grow (redrawn Y dq) os).cell? ⟨w.heap.size, 2, none⟩ = some (.slice (some ⟨b, off, none⟩) n u3) := fun dq os => cell_regrown z2 dq os
        have xB : Hid (∀ (dq : Nat) (os : Array Obj), Below Y.heap.size Y (grow (redrawn Y dq) os)) := Lib.hid fun dq os => below_regrown Y dq os
        have xQ : Hid (∀ d os, Calls Tryz.prog 97 #[.string xr] (grow (redrawn Y d) os) fun e w'' => e = .returned (.bool false) ∧ ∃ p : Regrown, w'' = grow (redrawn Y p.d) p.os) := Lib.hid fun d os => Calls.regrown_of ((RC.out _).mono fun _ _ q => ⟨q.1, by rw [q.2]; exact Below.refl _ _⟩)
        clear RC
        go_wp2_with fail
        clear hY2 hb62
        refine wp_region_quiet_below (by kernel_rfl) (by kernel_rfl) ?_
        repeat (go_big_quiet_step (exact xQ.out _ _))
        refine wpQuiet_nil ?_
        intro _ hw'
        obtain ⟨⟨dq, osq⟩, hw''⟩ := hw'
        subst hw''
        have K9 := Lib.hid (KX.out.below (xB.out dq osq))
        have Y9 := Lib.hid (((xB.out dq osq).block _ (lt_of_some YR.out)).trans YR.out)
        clear r0 r2 xB xQ y0 y1 y2 y3 y4 y5 z2 k2 p0 p1 p2 p3 p4 p5 KX YR BF
        obtain ⟨W9, hW9⟩ : ∃ W, W = grow (redrawn Y dq) osq := ⟨_, rfl⟩
        rw [← hW9] at K9 Y9 ⊢
        clear hW9
        have KX := K9
        have BF := Lib.hid K9.out.be
        clear K9
        go_wp2_with fail
        go_ret
        exact ⟨by rw [NO.out]; rfl, BF.out⟩
      | true =>
        rw [hres] at RC
        by_cases h0 : k = 0
        · have g0 : decide (0 < k) = false := decide_eq_false (by omega)
          have hup : (decide (k = 0) || L.ltS (rs.getD (k - 1) kRl.z).r xr) = true := by rw [decide_eq_true h0]; rfl
          clear h0 PV
          have r0 : ∀ (dq : Nat) (os : Array Obj), (grow (redrawn Y dq) os).cell? ⟨b6, 0, none⟩ = some (.string xr) := fun dq os => cell_regrown y0 dq os
          have r2 : ∀ (dq : Nat) (os : Array Obj), (grow (redrawn Y dq) os).cell? ⟨w.heap.size, 2, none⟩ = some (.slice (some ⟨b, off, none⟩) n u3) := fun dq os => cell_regrown z2 dq os
          have xB : Hid (∀ (dq : Nat) (os : Array Obj), Below Y.heap.size Y (grow (redrawn Y dq) os)) := Lib.hid fun dq os => below_regrown Y dq os
          have xQ : Hid (∀ d os, Calls Tryz.prog 97 #[.string xr] (grow (redrawn Y d) os) fun e w'' => e = .returned (.bool true) ∧ ∃ p : Regrown, w'' = grow (redrawn Y p.d) p.os) := Lib.hid fun d os => Calls.regrown_of ((RC.out _).mono fun _ _ q => ⟨q.1, by rw [q.2]; exact Below.refl _ _⟩)
          clear RC
          go_wp2_with fail
          clear hY2 hb62
          refine wp_region_quiet_below (by kernel_rfl) (by kernel_rfl) ?_
          repeat (go_big_quiet_step (exact xQ.out _ _))
          refine wpQuiet_nil ?_
          intro _ hw'
          obtain ⟨⟨dq, osq⟩, hw''⟩ := hw'
          subst hw''
          have K9 := Lib.hid (KX.out.below (xB.out dq osq))
          have Y9 := Lib.hid (((xB.out dq osq).block _ (lt_of_some YR.out)).trans YR.out)
          clear r0 r2 xB xQ y0 y1 y2 y3 y4 y5 z2 k2 p0 p1 p2 p3 p4 p5 KX YR BF
          obtain ⟨W9, hW9⟩ : ∃ W, W = grow (redrawn Y dq) osq := ⟨_, rfl⟩
          rw [← hW9] at K9 Y9 ⊢
          clear hW9
          have KX := K9
          have BF := Lib.hid K9.out.be
          clear K9
          have y1 : W9.cell? ⟨b6, 1, none⟩ = some (.int .i64 x1) := by rw [cell_of_row W9 b6 1 _ _ _ Y9.out]; rfl
          have y2 : W9.cell? ⟨b6, 2, none⟩ = some (.int .i64 x2) := by rw [cell_of_row W9 b6 2 _ _ _ Y9.out]; rfl
          have y3 : W9.cell? ⟨b6, 3, none⟩ = some (.int .i64 x3) := by rw [cell_of_row W9 b6 3 _ _ _ Y9.out]; rfl
          have y4 : W9.cell? ⟨b6, 4, none⟩ = some (.int .i64 x4) := by rw [cell_of_row W9 b6 4 _ _ _ Y9.out]; rfl
          have y5 : W9.cell? ⟨b6, 5, none⟩ = some (.int .i64 x5) := by rw [cell_of_row W9 b6 5 _ _ _ Y9.out]; rfl
          by_cases z1 : x1 < -1
          · have g1 : decide (x1 < -1) = true := decide_eq_true z1
            have NO : Hid (lrS ⟨p, m, rs⟩ = false) := Lib.hid (lrS_no HN.out hlt2 (by unfold rkAt; rw [HX.out]; simp only; unfold rlB; simp only; rw [decide_eq_false (show ¬ -1 ≤ x1 by omega)]; simp))
            clear z1 hres hup HX
            go_wp2_with fail
            go_ret
            exact ⟨by rw [NO.out]; rfl, BF.out⟩
          · have g1 : decide (x1 < -1) = false := decide_eq_false z1
            clear z1
            by_cases z2 : x2 < -1
            · have g2 : decide (x2 < -1) = true := decide_eq_true z2
              have NO : Hid (lrS ⟨p, m, rs⟩ = false) := Lib.hid (lrS_no HN.out hlt2 (by unfold rkAt; rw [HX.out]; simp only; unfold rlB; simp only; rw [decide_eq_false (show ¬ -1 ≤ x2 by omega)]; simp))
              clear z2 hres hup HX
              go_wp2_with fail
              go_ret
              exact ⟨by rw [NO.out]; rfl, BF.out⟩
            · have g2 : decide (x2 < -1) = false := decide_eq_false z2
              clear z2
              by_cases z3 : x3 < -1
              · have g3 : decide (x3 < -1) = true := decide_eq_true z3
                have NO : Hid (lrS ⟨p, m, rs⟩ = false) := Lib.hid (lrS_no HN.out hlt2 (by unfold rkAt; rw [HX.out]; simp only; unfold rlB; simp only; rw [decide_eq_false (show ¬ -1 ≤ x3 by omega)]; simp))
                clear z3 hres hup HX
                go_wp2_with fail
                go_ret
                exact ⟨by rw [NO.out]; rfl, BF.out⟩
              · have g3 : decide (x3 < -1) = false := decide_eq_false z3
                clear z3
                by_cases z4 : x4 < -1
                · have g4 : decide (x4 < -1) = true := decide_eq_true z4
                  have NO : Hid (lrS ⟨p, m, rs⟩ = false) := Lib.hid (lrS_no HN.out hlt2 (by unfold rkAt; rw [HX.out]; simp only; unfold rlB; simp only; rw [decide_eq_false (show ¬ -1 ≤ x4 by omega)]; simp))
                  clear z4 hres hup HX
                  go_wp2_with fail
                  go_ret
                  exact ⟨by rw [NO.out]; rfl, BF.out⟩
                · have g4 : decide (x4 < -1) = false := decide_eq_false z4
                  clear z4
                  by_cases z5 : x5 < -1
                  · have g5 : decide (x5 < -1) = true := decide_eq_true z5
                    have NO : Hid (lrS ⟨p, m, rs⟩ = false) := Lib.hid (lrS_no HN.out hlt2 (by unfold rkAt; rw [HX.out]; simp only; unfold rlB; simp only; rw [decide_eq_false (show ¬ -1 ≤ x5 by omega)]; simp))
                    clear z5 hres hup HX
                    go_wp2_with fail
                    go_ret
                    exact ⟨by rw [NO.out]; rfl, BF.out⟩
                  · have g5 : decide (x5 < -1) = false := decide_eq_false z5
                    clear z5
                    have OK : Hid (rkAt rs k = true) := Lib.hid (by unfold rkAt; rw [HX.out]; simp only; rw [hres, hup]; unfold rlB; simp only; rw [decide_eq_true (of_lt g1), decide_eq_true (of_lt g2), decide_eq_true (of_lt g3), decide_eq_true (of_lt g4), decide_eq_true (of_lt g5)]; rfl)
                    clear hres hup HX
                    go_wp2_with fail
                    go_roundg (n - (k + 1))
                    case measure => have := R.out.1; omega
                    case rel => exact ⟨k + 1, by omega, rfl, by go_num, fun i hi => if q : i < k then R.out.2.1 i q else (by rw [show i = k by omega]; exact OK.out), KX.out⟩
        · have g0 : decide (0 < k) = true := decide_eq_true (by omega)
          obtain ⟨pr, q0, hpr⟩ := PV.out (by omega)
          have i1 : (0 : Int) ≤ (k : Int) - 1 := by omega
          have i2 : (k : Int) - 1 < (n : Int) := by omega
          have i3 : IntKind.i64.wrap ((k : Int) - 1) = (k : Int) - 1 := by rw [IntKind.wrap_i64]; omega
          have i4 : ((k : Int) - 1).toNat = k - 1 := by omega
          clear PV
          cases hl : Op.bytesLess pr.toList xr.toList with
          | false =>
            have NO : Hid (lrS ⟨p, m, rs⟩ = false) := Lib.hid (lrS_no HN.out hlt2 (by unfold rkAt; rw [HX.out, hpr, decide_eq_false h0]; simp only; rw [show L.ltS pr xr = false from hl]; simp))
            clear hres HX h0 hpr
            have r0 : ∀ (dq : Nat) (os : Array Obj), (grow (redrawn Y dq) os).cell? ⟨b6, 0, none⟩ = some (.string xr) := fun dq os => cell_regrown y0 dq os
            have r2 : ∀ (dq : Nat) (os : Array Obj), (grow (redrawn Y dq) os).cell? ⟨w.heap.size, 2, none⟩ = some (.slice (some ⟨b, off, none⟩) n u3) := fun dq os => cell_regrown z2 dq os
            have r3 : ∀ (dq : Nat) (os : Array Obj), (grow (redrawn Y dq) os).cell? ⟨b, off + (k - 1) * 6, none⟩ = some (.string pr) := fun dq os => cell_regrown q0 dq os
            have xB : Hid (∀ (dq : Nat) (os : Array Obj), Below Y.heap.size Y (grow (redrawn Y dq) os)) := Lib.hid fun dq os => below_regrown Y dq os
            have xQ : Hid (∀ d os, Calls Tryz.prog 97 #[.string xr] (grow (redrawn Y d) os) fun e w'' => e = .returned (.bool true) ∧ ∃ p : Regrown, w'' = grow (redrawn Y p.d) p.os) := Lib.hid fun d os => Calls.regrown_of ((RC.out _).mono fun _ _ q => ⟨q.1, by rw [q.2]; exact Below.refl _ _⟩)
            clear RC
            go_wp2_with fail
            clear hY2 hb62
            refine wp_region_quiet_below (by kernel_rfl) (by kernel_rfl) ?_
            repeat (go_big_quiet_step (exact xQ.out _ _))
            refine wpQuiet_nil ?_
            intro _ hw'
            obtain ⟨⟨dq, osq⟩, hw''⟩ := hw'
            subst hw''
            have K9 := Lib.hid (KX.out.below (xB.out dq osq))
            have Y9 := Lib.hid (((xB.out dq osq).block _ (lt_of_some YR.out)).trans YR.out)
            clear r0 r2 r3 q0 xB xQ y0 y1 y2 y3 y4 y5 z2 k2 p0 p1 p2 p3 p4 p5 KX YR BF
            obtain ⟨W9, hW9⟩ : ∃ W, W = grow (redrawn Y dq) osq := ⟨_, rfl⟩
            rw [← hW9] at K9 Y9 ⊢
            clear hW9
            have KX := K9
            have BF := Lib.hid K9.out.be
            clear K9
            go_wp2_with fail
            go_ret
            exact ⟨by rw [NO.out]; rfl, BF.out⟩
          | true =>
            have hup : (decide (k = 0) || L.ltS (rs.getD (k - 1) kRl.z).r xr) = true := by rw [hpr, show L.ltS pr xr = true from hl]; simp
            clear h0 hpr
            have r0 : ∀ (dq : Nat) (os : Array Obj), (grow (redrawn Y dq) os).cell? ⟨b6, 0, none⟩ = some (.string xr) := fun dq os => cell_regrown y0 dq os
            have r2 : ∀ (dq : Nat) (os : Array Obj), (grow (redrawn Y dq) os).cell? ⟨w.heap.size, 2, none⟩ = some (.slice (some ⟨b, off, none⟩) n u3) := fun dq os => cell_regrown z2 dq os
            have r3 : ∀ (dq : Nat) (os : Array Obj), (grow (redrawn Y dq) os).cell? ⟨b, off + (k - 1) * 6, none⟩ = some (.string pr) := fun dq os => cell_regrown q0 dq os
            have xB : Hid (∀ (dq : Nat) (os : Array Obj), Below Y.heap.size Y (grow (redrawn Y dq) os)) := Lib.hid fun dq os => below_regrown Y dq os
            have xQ : Hid (∀ d os, Calls Tryz.prog 97 #[.string xr] (grow (redrawn Y d) os) fun e w'' => e = .returned (.bool true) ∧ ∃ p : Regrown, w'' = grow (redrawn Y p.d) p.os) := Lib.hid fun d os => Calls.regrown_of ((RC.out _).mono fun _ _ q => ⟨q.1, by rw [q.2]; exact Below.refl _ _⟩)
            clear RC
            go_wp2_with fail
            clear hY2 hb62
            refine wp_region_quiet_below (by kernel_rfl) (by kernel_rfl) ?_
            repeat (go_big_quiet_step (exact xQ.out _ _))
            refine wpQuiet_nil ?_
            intro _ hw'
            obtain ⟨⟨dq, osq⟩, hw''⟩ := hw'
            subst hw''
            have K9 := Lib.hid (KX.out.below (xB.out dq osq))
            have Y9 := Lib.hid (((xB.out dq osq).block _ (lt_of_some YR.out)).trans YR.out)
            clear r0 r2 r3 q0 xB xQ y0 y1 y2 y3 y4 y5 z2 k2 p0 p1 p2 p3 p4 p5 KX YR BF
            obtain ⟨W9, hW9⟩ : ∃ W, W = grow (redrawn Y dq) osq := ⟨_, rfl⟩
            rw [← hW9] at K9 Y9 ⊢
            clear hW9
            have KX := K9
            have BF := Lib.hid K9.out.be
            clear K9
            have y1 : W9.cell? ⟨b6, 1, none⟩ = some (.int .i64 x1) := by rw [cell_of_row W9 b6 1 _ _ _ Y9.out]; rfl
            have y2 : W9.cell? ⟨b6, 2, none⟩ = some (.int .i64 x2) := by rw [cell_of_row W9 b6 2 _ _ _ Y9.out]; rfl
            have y3 : W9.cell? ⟨b6, 3, none⟩ = some (.int .i64 x3) := by rw [cell_of_row W9 b6 3 _ _ _ Y9.out]; rfl
            have y4 : W9.cell? ⟨b6, 4, none⟩ = some (.int .i64 x4) := by rw [cell_of_row W9 b6 4 _ _ _ Y9.out]; rfl
            have y5 : W9.cell? ⟨b6, 5, none⟩ = some (.int .i64 x5) := by rw [cell_of_row W9 b6 5 _ _ _ Y9.out]; rfl
            by_cases z1 : x1 < -1
            · have g1 : decide (x1 < -1) = true := decide_eq_true z1
              have NO : Hid (lrS ⟨p, m, rs⟩ = false) := Lib.hid (lrS_no HN.out hlt2 (by unfold rkAt; rw [HX.out]; simp only; unfold rlB; simp only; rw [decide_eq_false (show ¬ -1 ≤ x1 by omega)]; simp))
              clear z1 hres hup HX
              go_wp2_with fail
              go_ret
              exact ⟨by rw [NO.out]; rfl, BF.out⟩
            · have g1 : decide (x1 < -1) = false := decide_eq_false z1
              clear z1
              by_cases z2 : x2 < -1
              · have g2 : decide (x2 < -1) = true := decide_eq_true z2
                have NO : Hid (lrS ⟨p, m, rs⟩ = false) := Lib.hid (lrS_no HN.out hlt2 (by unfold rkAt; rw [HX.out]; simp only; unfold rlB; simp only; rw [decide_eq_false (show ¬ -1 ≤ x2 by omega)]; simp))
                clear z2 hres hup HX
                go_wp2_with fail
                go_ret
                exact ⟨by rw [NO.out]; rfl, BF.out⟩
              · have g2 : decide (x2 < -1) = false := decide_eq_false z2
                clear z2
                by_cases z3 : x3 < -1
                · have g3 : decide (x3 < -1) = true := decide_eq_true z3
                  have NO : Hid (lrS ⟨p, m, rs⟩ = false) := Lib.hid (lrS_no HN.out hlt2 (by unfold rkAt; rw [HX.out]; simp only; unfold rlB; simp only; rw [decide_eq_false (show ¬ -1 ≤ x3 by omega)]; simp))
                  clear z3 hres hup HX
                  go_wp2_with fail
                  go_ret
                  exact ⟨by rw [NO.out]; rfl, BF.out⟩
                · have g3 : decide (x3 < -1) = false := decide_eq_false z3
                  clear z3
                  by_cases z4 : x4 < -1
                  · have g4 : decide (x4 < -1) = true := decide_eq_true z4
                    have NO : Hid (lrS ⟨p, m, rs⟩ = false) := Lib.hid (lrS_no HN.out hlt2 (by unfold rkAt; rw [HX.out]; simp only; unfold rlB; simp only; rw [decide_eq_false (show ¬ -1 ≤ x4 by omega)]; simp))
                    clear z4 hres hup HX
                    go_wp2_with fail
                    go_ret
                    exact ⟨by rw [NO.out]; rfl, BF.out⟩
                  · have g4 : decide (x4 < -1) = false := decide_eq_false z4
                    clear z4
                    by_cases z5 : x5 < -1
                    · have g5 : decide (x5 < -1) = true := decide_eq_true z5
                      have NO : Hid (lrS ⟨p, m, rs⟩ = false) := Lib.hid (lrS_no HN.out hlt2 (by unfold rkAt; rw [HX.out]; simp only; unfold rlB; simp only; rw [decide_eq_false (show ¬ -1 ≤ x5 by omega)]; simp))
                      clear z5 hres hup HX
                      go_wp2_with fail
                      go_ret
                      exact ⟨by rw [NO.out]; rfl, BF.out⟩
                    · have g5 : decide (x5 < -1) = false := decide_eq_false z5
                      clear z5
                      have OK : Hid (rkAt rs k = true) := Lib.hid (by unfold rkAt; rw [HX.out]; simp only; rw [hres, hup]; unfold rlB; simp only; rw [decide_eq_true (of_lt g1), decide_eq_true (of_lt g2), decide_eq_true (of_lt g3), decide_eq_true (of_lt g4), decide_eq_true (of_lt g5)]; rfl)
                      clear hres hup HX
                      go_wp2_with fail
                      go_roundg (n - (k + 1))
                      case measure => have := R.out.1; omega
                      case rel => exact ⟨k + 1, by omega, rfl, by go_num, fun i hi => if q : i < k then R.out.2.1 i q else (by rw [show i = k by omega]; exact OK.out), KX.out⟩
    · have YES : Hid (lrS ⟨p, m, rs⟩ = true) := Lib.hid (by
        rw [lrS_at HN.out.1 HN.out.2.1 HN.out.2.2, List.all_eq_true]
        intro i hi
        exact R.out.2.1 i (by have := List.mem_range.1 hi; rw [← HN0.out] at this; omega))
      have BF := Lib.hid R.out.2.2.be
      go_wp2_with fail
      go_ret
      exact ⟨by rw [YES.out]; rfl, BF.out⟩
end Go.Proofs.YtanpneahembhbaaGreatDoor
end S5

section S6
namespace Go.Proofs.YtanpneahembhbaaGreatDoor
open Go.RowKit
def lrE (b : Lr) : List (List UInt8) := [76] :: [1] :: lrL b
def lrR (b : Lr) : ByteArray × Nat := if lrS b = true then outR (lrE b) else (⟨#[]⟩, 130)
theorem size_lr : (Tryz.prog.info? 29).map (·.size) = some 3 := by kernel_rfl
theorem lrS_nice (b : Lr) (h : lrS b = true) : b.rs.length ≤ 4096 := by
  unfold lrS at h
  simp only [Bool.and_eq_true, decide_eq_true_iff] at h
  omega
set_option maxHeartbeats 2000000 in
theorem layL1_any (w0 : World) (bo B g : Nat) (v : Value) (s : WS) (b : Lr) (u1 : Option Addr) (u3 : Nat) (w : World) (H : WAt B w g v s) (h0 : Below w0.heap.size w0 w) (lo : w0.heap.size ≤ B) (hr : Row kRl w0 (.slice u1 b.rs.length u3) b.rs) (hf : b.Fit) (hn : b.rs.length ≤ 4096)
    (hb : w0.heap[bo]? = some (.cells #[.string b.p, .string b.n, .slice u1 b.rs.length u3] 29 (0, 0))) :
    Calls Tryz.prog 31 #[.pointer (some ⟨g, 0, none⟩), .pointer (some ⟨bo, 0, none⟩)] w fun e w' => e = .returned (.tuple #[]) ∧ Laid B g v ((lrL b).foldl WS.lay s) w w' := by
  have LA := Lib.hid (layLimit_any w0 B g v s b (.slice u1 b.rs.length u3) w H h0 lo hr hf hn)
  have hc : ∀ i y, (#[.string b.p, .string b.n, .slice u1 b.rs.length u3] : Array Value)[i]? = some y → w.cell? ⟨bo, i, none⟩ = some y := fun i y hy => by
    have q : w0.cell? ⟨bo, i, none⟩ = some y := by rw [cell_of_row w0 bo i _ _ _ hb]; exact hy
    exact (h0.cell (block_lt_of_cell q)).trans q
  have d0 := hc 0 _ rfl
  have d1 := hc 1 _ rfl
  have d2 := hc 2 _ rfl
  unfold Lr.val at LA
  clear H h0 lo hr hf hn hb hc
  go_enter Tryz.func31, Tryz.ntmps31
  go_wp2_with fail
  refine LA.out.mono ?_
  rintro e w1 ⟨rfl, hl⟩
  have L1 := Lib.hid hl
  clear hl d0 d1 d2
  go_wp2_with fail
  go_end0
  exact ⟨rfl, L1.out⟩
set_option maxHeartbeats 4000000 in
set_option maxRecDepth 100000 in
theorem bytesOfL_any (bo : Nat) (b : Lr) (u1 : Option Addr) (u3 : Nat) (w : World) (hr : Row kRl w (.slice u1 b.rs.length u3) b.rs) (hf : b.Fit) (hn : b.rs.length ≤ 4096) (hb : w.heap[bo]? = some (.cells #[.string b.p, .string b.n, .slice u1 b.rs.length u3] 29 (0, 0))) :
    Calls Tryz.prog 24 #[.bool true, .int .u8 76, .func (.func 31) #[] #[.pointer (some ⟨bo, 0, none⟩)]] w fun e w' => e = .returned (.tuple #[.string (outR (lrE b)).1, .int .i64 (outR (lrE b)).2]) ∧ Below w.heap.size w w' := by
  have V := Lib.hid (And.intro hf (And.intro hn hb))
  have RV := Lib.hid hr
  clear hf hn hb hr
  go_enter Tryz.func24, Tryz.ntmps24
  go_wp2_with fail
  refine (newWriter_any 8192 w).mono ?_
  rintro e w3 ⟨rfl, hw, _, hb⟩
  obtain ⟨B, hB⟩ : ∃ B, B = w.heap.size := ⟨_, rfl⟩
  rw [← hB] at hw ⊢
  have W3 : Aside (WW w B B wr0 w3) := ⟨⟨_, hw⟩, by rw [hB]; exact Nat.le_refl _, hb⟩
  clear hw hb hB
  go_wp2_with fail
  refine (W3.out.calls (fun v hv => wByte_eq (n := 76) (c := 76) rfl B B v _ w3 hv)).mono ?_
  rintro e w4 ⟨rfl, hw⟩
  have W4 : Aside (WW w B B (wr0.lay [76]) w4) := hw
  clear hw W3
  go_wp2_with fail
  refine (W4.out.calls (fun v hv => wByte_eq (n := 1) (c := 1) rfl B B v _ w4 hv)).mono ?_
  rintro e w5 ⟨rfl, hw⟩
  have W5 : Aside (WW w B B ((wr0.lay [76]).lay [1]) w5) := hw
  clear hw W4
  go_wp2_with fail
  refine (W5.out.calls (fun v hv => layL1_any w bo B B v _ b u1 u3 w5 hv W5.out.be W5.out.lo RV.out V.out.1 V.out.2.1 V.out.2.2)).mono ?_
  rintro e w6 ⟨rfl, hw⟩
  have W6 : Aside (WW w B B ((lrE b).foldl WS.lay wr0) w6) := hw
  clear hw W5
  go_wp2_with fail
  obtain ⟨u, hu⟩ := W6.out.wr
  refine (wOut_any _ _ _ _ w6 hu).mono ?_
  rintro e w7 ⟨v2, rfl, ho, hb⟩
  have hc := convT ho.bytes
  have A : Aside (Below w.heap.size w w7) := W6.out.be.trans (hb.mono W6.out.be.size)
  have E : Aside _ := lays_out (lrE b)
  clear ho hb hu
  go_wp2_with fail
  go_ret2
  exact ⟨by rw [← E.out]; rfl, A.out⟩
set_option maxHeartbeats 4000000 in
set_option maxRecDepth 100000 in
theorem encodeL_any (b : Lr) (hs : Value) (w : World) (hm : L.HasM w) (hr : Row kRl w hs b.rs) (hf : b.Fit) :
    Calls Tryz.prog 10 #[b.val hs] w fun e w' => e = .returned (.tuple #[.string (lrR b).1, .int .i64 (lrR b).2]) ∧ Below w.heap.size w w' := by
  obtain ⟨u1, u3, rfl, hlc, hcm⟩ := hr.len
  have RV := Lib.hid hr
  clear hr hlc hcm
  obtain ⟨X, hX⟩ : ∃ X, X = w.alloc (.cells #[.string b.p, .string b.n, .slice u1 b.rs.length u3] 29) := ⟨_, rfl⟩
  have AX : Hid (Below w.heap.size w X) := Lib.hid (by rw [hX]; exact (Below.refl _ w).alloc (Nat.le_refl _) _)
  have HX : X.heap[w.heap.size]? = some (.cells #[.string b.p, .string b.n, .slice u1 b.rs.length u3] 29 (0, 0)) := by rw [hX, heap_alloc_new]
  have hc : ∀ i y, (#[.string b.p, .string b.n, .slice u1 b.rs.length u3] : Array Value)[i]? = some y → X.cell? ⟨w.heap.size, i, none⟩ = some y := fun i y hy => by
    rw [cell_of_row X w.heap.size i _ _ _ HX]; exact hy
  have d0 := hc 0 _ rfl
  have d1 := hc 1 _ rfl
  have d2 := hc 2 _ rfl
  have V := Lib.hid (And.intro hf HX)
  have OS := Lib.hid (limitStands_any b _ X (hm.below AX.out) (RV.out.below AX.out))
  unfold Lr.val at OS ⊢
  have hX' := hX.symm
  clear hX HX hc hf hm
  go_enter Tryz.func10, Tryz.ntmps10
  go_wp2_with fail
  refine OS.out.mono ?_
  rintro e w1 ⟨rfl, hb⟩
  have B1 := Lib.hid hb
  clear hb d0 d1 d2 hX' OS
  cases hS : lrS b with
  | false =>
    have E : Aside (lrR b = (⟨#[]⟩, 130)) := by show _ = _; unfold lrR; rw [hS]; rfl
    go_wp2_with fail
    refine (bytesOf_no _ _ w1).mono ?_
    rintro e w2 ⟨rfl, rfl⟩
    go_wp2_with fail
    go_ret2
    exact ⟨by rw [E.out]; rfl, AX.out.trans (B1.out.mono AX.out.size)⟩
  | true =>
    have E : Aside (lrR b = outR (lrE b)) := by show _ = _; unfold lrR; rw [hS]; rfl
    have hv := lrS_nice b hS
    have BO := Lib.hid (bytesOfL_any w.heap.size b u1 u3 w1 ((RV.out.below AX.out).below B1.out) V.out.1 hv (by rw [B1.out.block w.heap.size (lt_of_some V.out.2)]; exact V.out.2))
    clear hS hv
    go_wp2_with fail
    refine BO.out.mono ?_
    rintro e w2 ⟨rfl, hb⟩
    have B2 := Lib.hid hb
    clear hb BO
    go_wp2_with fail
    go_ret2
    exact ⟨by rw [E.out]; rfl, AX.out.trans ((B1.out.trans (B2.out.mono B1.out.size)).mono AX.out.size)⟩
end Go.Proofs.YtanpneahembhbaaGreatDoor
end S6

section S7
namespace Go.Proofs.YtanpneahembhbaaGreatDoor
open Go.RowKit
theorem txr_len {t : ByteArray} {m : Nat} (h : t.size ≤ m) (hm : m ≤ 1048576) : (tx t).length ≤ 10 + m := by
  unfold tx
  rw [List.length_append, str_size]
  have := form_ten t.size (by omega)
  omega
theorem flatr_len {fs : List (List UInt8)} {m : Nat} (h : ∀ f ∈ fs, f.length ≤ m) : fs.flatten.length ≤ fs.length * m := by
  induction fs with
  | nil => simp
  | cons f r ih =>
    rw [List.flatten_cons, List.length_append, List.length_cons, Nat.succ_mul]
    have h1 := h f (List.mem_cons_self ..)
    have h2 := ih (fun g hg => h g (List.mem_cons_of_mem _ hg))
    omega
theorem fm_len {α : Type} {l : List α} {f : α → List (List UInt8)} {k : Nat} (h : ∀ x ∈ l, (f x).length = k) : (l.flatMap f).length = l.length * k := by
  induction l with
  | nil => simp
  | cons x r ih =>
    rw [List.flatMap_cons, List.length_append, List.length_cons, Nat.succ_mul, h x (List.mem_cons_self ..), ih (fun y hy => h y (List.mem_cons_of_mem _ hy))]
    omega
theorem named_sizes {p n : ByteArray} (h : namedB p n = true) : p.size ≤ 64 ∧ n.size ≤ 32 := by
  unfold namedB at h
  simp only [Bool.and_eq_true, decide_eq_true_eq] at h
  refine ⟨?_, ?_⟩
  · have hs := h.1
    have hsome : (L.splitO p).isSome = true := by
      rcases Bool.eq_false_or_eq_true (L.splitO p).isSome with e | e
      · exact e
      · unfold L.splitE at hs; rw [e] at hs; simp at hs
    by_cases q : p.data.toList = [47]
    · have := congrArg List.length q
      rw [str_size] at this
      rw [this]; decide
    · unfold L.splitO at hsome
      rw [if_neg q] at hsome
      split at hsome
      · rename_i y; exact y.2.1
      · simp at hsome
  · have := h.2
    unfold L.nameB at this
    simp only [Bool.and_eq_true, decide_eq_true_eq] at this
    exact this.1.2
theorem res_size {t : ByteArray} (h : resB t = true) : t.size ≤ 48 := by
  unfold resB at h
  simp only [Bool.and_eq_true, decide_eq_true_eq] at h
  exact h.1
theorem hard_size {s : ByteArray} (h : hardB s = true) : s.size ≤ 57 := by
  cases h0 : (s.toList == [99, 111, 117, 110, 116]) with
  | true =>
    have e : s.toList = [99, 111, 117, 110, 116] := by simpa using h0
    have : s.size = 5 := by rw [← str_size s, ← ByteArray.toList_eq, e]; rfl
    omega
  | false =>
    rw [hard_eq h0] at h
    split at h
    · have := res_size h
      simp at this; omega
    · simp only [Bool.and_eq_true] at h
      have := res_size h.2
      simp at this; omega
theorem hds_all : ∀ (l : List Am) (b : ByteArray), hdsUp b l = true → ∀ x ∈ l, hardB x.n = true ∧ 0 ≤ x.v := by
  intro l
  induction l with
  | nil => intro b _ x hx; cases hx
  | cons y r ih =>
    intro b h x hx
    rw [hdsUp_cons] at h
    unfold hdB at h
    simp only [Bool.and_eq_true, decide_eq_true_eq] at h
    rcases List.mem_cons.1 hx with rfl | hx
    · exact h.1.2
    · exact ih _ h.2 x hx
theorem qt_facts {q : Qt} (h : qtS q = true) : (q.p.size ≤ 64 ∧ q.n.size ≤ 32) ∧ ((0 ≤ q.k ∧ q.k ≤ 9) ∧ 0 ≤ q.a ∧ q.a ≤ 9) ∧ q.h.length ≤ 16 ∧ ∀ x ∈ q.h, hardB x.n = true ∧ 0 ≤ x.v := by
  unfold qtS hdsB at h
  simp only [Bool.and_eq_true, decide_eq_true_eq] at h
  refine ⟨named_sizes h.1, ?_, h.2.2.2.1, hds_all _ _ h.2.2.2.2⟩
  have s := h.2.1
  unfold scB inB at s
  split at s
  · simp only [Bool.and_eq_true, decide_eq_true_eq] at s; omega
  · simp only [Bool.and_eq_true, decide_eq_true_eq] at s; omega
theorem qt_len {q : Qt} (h : qtS q = true) (hf : q.Fit) : (qtE q).flatten.length ≤ 8192 := by
  obtain ⟨⟨h1, h2⟩, _, h3, h4⟩ := qt_facts h
  have ha : ∀ f ∈ q.h.flatMap amE, f.length ≤ 67 := by
    intro f hm
    obtain ⟨x, hx, hm⟩ := List.mem_flatMap.1 hm
    unfold amE at hm
    have z := hard_size (h4 x hx).1
    have v := hf.h x hx
    simp only [List.mem_cons, List.not_mem_nil, or_false] at hm
    rcases hm with rfl | rfl
    · have := txr_len z (by decide); omega
    · have := form_ten x.v.toNat (by have := v.2.2; omega); omega
  have hb := flatr_len ha
  rw [fm_len (k := 2) (fun x _ => rfl)] at hb
  have t1 := txr_len h1 (by decide)
  have t2 := txr_len h2 (by decide)
  have t3 := form_ten q.h.length (by omega)
  unfold qtE qtL amsE
  simp only [List.flatten_cons, List.length_append, List.length_cons, List.cons_append, List.nil_append]
  omega
theorem lr_facts {l : Lr} (h : lrS l = true) : (l.p.size ≤ 64 ∧ l.n.size ≤ 32) ∧ l.rs.length ≤ 16 ∧ ∀ x ∈ l.rs, x.r.size ≤ 48 := by
  obtain ⟨p, m, rs⟩ := l
  have h' := h
  unfold lrS at h'
  simp only [Bool.and_eq_true, decide_eq_true_eq] at h'
  refine ⟨named_sizes h'.1, h'.2.2.1, fun x hx => ?_⟩
  have := lrS_at h'.1 h'.2.1 h'.2.2.1
  rw [this, List.all_eq_true] at h
  obtain ⟨i, hi, e⟩ := List.getElem_of_mem hx
  have q := h i (List.mem_range.2 hi)
  unfold rkAt at q
  simp only [Bool.and_eq_true] at q
  have z : rs.getD i kRl.z = x := by rw [List.getD_eq_getElem?_getD, List.getElem?_eq_getElem hi, e]; rfl
  rw [z] at q
  exact res_size q.1
theorem lr_len {l : Lr} (h : lrS l = true) (hf : l.Fit) : (lrE l).flatten.length ≤ 8192 := by
  obtain ⟨⟨h1, h2⟩, h3, h4⟩ := lr_facts h
  have ha : ∀ f ∈ l.rs.flatMap rlE, f.length ≤ 58 := by
    intro f hm
    obtain ⟨x, hx, hm⟩ := List.mem_flatMap.1 hm
    unfold rlE at hm
    have v := (hf.r x hx).n
    simp only [List.mem_cons, List.not_mem_nil, or_false] at hm
    have fz : ∀ y : Int, fits y → (form (zig y)).length ≤ 58 := fun y hy => by have := form_ten _ (zig_lt y hy.1 hy.2); omega
    rcases hm with rfl | rfl | rfl | rfl | rfl | rfl
    · exact txr_len (h4 x hx) (by decide)
    · exact fz _ v.1
    · exact fz _ v.2.1
    · exact fz _ v.2.2.1
    · exact fz _ v.2.2.2.1
    · exact fz _ v.2.2.2.2
  have hb := flatr_len ha
  rw [fm_len (k := 6) (fun x _ => rfl)] at hb
  have t1 := txr_len h1 (by decide)
  have t2 := txr_len h2 (by decide)
  have t3 := form_ten l.rs.length (by omega)
  unfold lrE lrL
  simp only [List.flatten_cons, List.length_append, List.length_cons, List.cons_append, List.nil_append]
  omega
theorem bd_facts {b : Bd} (h : bdS b = true) : (b.p.size ≤ 64 ∧ b.n.size ≤ 32 ∧ b.s.size ≤ 32) ∧ 0 ≤ b.v ∧ b.v ≤ 9 := by
  unfold bdS inB at h
  simp only [Bool.and_eq_true, decide_eq_true_eq] at h
  have z := named_sizes h.1
  have y := h.2.1
  unfold L.nameB at y
  simp only [Bool.and_eq_true, decide_eq_true_eq] at y
  exact ⟨⟨z.1, z.2, y.1.2⟩, h.2.2.1, by omega⟩
theorem bd_len {b : Bd} (h : bdS b = true) : (bdE b).flatten.length ≤ 8192 := by
  obtain ⟨⟨h1, h2, h3⟩, _⟩ := bd_facts h
  have t1 := txr_len h1 (by decide)
  have t2 := txr_len h2 (by decide)
  have t3 := txr_len h3 (by decide)
  unfold bdE bdL
  simp only [List.flatten_cons, List.flatten_nil, List.length_append, List.length_cons, List.length_nil]
  omega
end Go.Proofs.YtanpneahembhbaaGreatDoor
end S7
