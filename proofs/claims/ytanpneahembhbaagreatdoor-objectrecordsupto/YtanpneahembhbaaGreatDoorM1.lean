/-
  ObQu, ObQv, ObQw, ObBd, LUnderA, LRefName, LRefJoin, LRefPath, LRefSplit, LRefLine, joined.
-/
import Derived.Test.YtanpneahembhbaaGreatDoorObF
import Derived.Test.YtanpneahembhbaaGreatDoorLPathA
import Derived.Test.YtanpneahembhbaaGreatDoorLJoinsM
section S0
namespace Go.Proofs.YtanpneahembhbaaGreatDoor
open Go.RowKit
structure Qt where
  p : ByteArray
  n : ByteArray
  k : Int
  a : Int
  h : List Am
def Qt.val (q : Qt) (hs : Value) : Value := .agg #[.string q.p, .string q.n, .int .i64 q.k, .int .i64 q.a, hs]
structure Qt.Fit (q : Qt) : Prop where
  s : q.p.size ≤ 140737488355328 ∧ q.n.size ≤ 140737488355328
  n : -9223372036854775808 ≤ q.k ∧ q.k ≤ 9223372036854775807 ∧ -9223372036854775808 ≤ q.a ∧ q.a ≤ 9223372036854775807
  h : ∀ x ∈ q.h, x.fit
def qtL (q : Qt) : List (List UInt8) := [tx q.p, tx q.n, [by8 q.k], [by8 q.a]] ++ amsE q.h
def scB (k a : Int) : Bool := if k = 5 then inB a 0 9 else inB k 0 4 && decide (a = 0)
set_option maxHeartbeats 4000000 in
set_option maxRecDepth 100000 in
theorem scopeStands_any (k a : Int) (w : World) : Calls Tryz.prog 53 #[.agg #[.int .i64 k, .int .i64 a]] w fun e w' => e = .returned (.bool (scB k a)) ∧ Below w.heap.size w w' := by
  obtain ⟨S, hS⟩ : ∃ S, S = scB k a := ⟨_, rfl⟩
  have ES : Aside (S = scB k a) := hS
  rw [← hS]
  clear hS
  obtain ⟨X, hX⟩ : ∃ X, X = w.alloc (.cells #[.int .i64 k, .int .i64 a] 23) := ⟨_, rfl⟩
  have AX : Hid (Below w.heap.size w X) := Lib.hid (by rw [hX]; exact (Below.refl _ w).alloc (Nat.le_refl _) _)
  have CX : Hid (∀ i y, #[Value.int .i64 k, .int .i64 a][i]? = some y → X.cell? ⟨w.heap.size, i, none⟩ = some y) := Lib.hid fun i y h => by
    rw [hX, World.cell?_alloc_new]; exact h
  have d0 := CX.out 0 _ rfl
  have d1 := CX.out 1 _ rfl
  have hX' := hX.symm
  have WA := Lib.hid (within_any a 0 9 X)
  have WB := Lib.hid (within_any k 0 4 X)
  clear hX
  by_cases h5 : k = 5
  · have F : Aside (S = inB a 0 9) := by show _ = _; rw [ES.out]; unfold scB; rw [if_pos h5]
    subst h5
    go_enter Tryz.func53, Tryz.ntmps53
    go_wp2_with fail
    refine WA.out.mono ?_
    rintro e w1 ⟨rfl, rfl⟩
    go_wp2_with fail
    go_ret
    exact ⟨by rw [F.out]; rfl, AX.out⟩
  · have F : Aside (S = (inB k 0 4 && decide (a = 0))) := by show _ = _; rw [ES.out]; unfold scB; rw [if_neg h5]
    go_enter Tryz.func53, Tryz.ntmps53
    go_wp2_with fail
    refine WB.out.mono ?_
    rintro e w1 ⟨rfl, rfl⟩
    cases h1 : inB k 0 4 with
    | false =>
      rw [h1] at F
      go_wp2_with fail
      go_ret
      exact ⟨by rw [F.out]; rfl, AX.out⟩
    | true =>
      rw [h1] at F
      go_wp2_with fail
      go_ret
      exact ⟨by rw [F.out]; rfl, AX.out⟩
set_option maxHeartbeats 4000000 in
set_option maxRecDepth 100000 in
theorem layQuota_any (w0 : World) (B g : Nat) (v : Value) (s : WS) (q : Qt) (hs : Value) (w : World) (H : WAt B w g v s) (h0 : Below w0.heap.size w0 w) (lo : w0.heap.size ≤ B) (hv : Row kAm w0 hs q.h) (hf : q.Fit) (hn : 0 ≤ q.k ∧ q.k ≤ 9 ∧ 0 ≤ q.a ∧ q.a ≤ 9) (hl : q.h.length ≤ 4096)
    (hp : ∀ x ∈ q.h, 0 ≤ x.v) :
    Calls Tryz.prog 27 #[.pointer (some ⟨g, 0, none⟩), q.val hs] w fun e w' => e = .returned (.tuple #[]) ∧ Laid B g v ((qtL q).foldl WS.lay s) w w' := by
  have SZ := Lib.hid hf.s
  have HP : Aside (∀ x ∈ q.h, x.n.size ≤ 140737488355328 ∧ 0 ≤ x.v ∧ x.v ≤ 9223372036854775807) := fun x hx => ⟨(hf.h x hx).1, hp x hx, (hf.h x hx).2.2⟩
  obtain ⟨qp, qn, qk, qa, qh⟩ := q
  simp only at SZ hn HP hv hl
  obtain ⟨u1, u3, rfl, hlc, hcm⟩ := hv.len
  unfold maxLen at hcm
  have V : Aside (WAt B w g v s ∧ Below w0.heap.size w0 w ∧ w0.heap.size ≤ B ∧ Row kAm w0 (.slice u1 qh.length u3) qh ∧ qh.length ≤ 4096) := ⟨H, h0, lo, hv, hl⟩
  have hK := by8_c8 qk hn.1 hn.2.1
  have hA := by8_c8 qa hn.2.2.1 hn.2.2.2
  obtain ⟨c, hc⟩ : ∃ c, c = by8 qk := ⟨_, rfl⟩
  obtain ⟨d, hd⟩ : ∃ d, d = by8 qa := ⟨_, rfl⟩
  rw [← hc] at hK
  rw [← hd] at hA
  have EL : Aside (qtL ⟨qp, qn, qk, qa, qh⟩ = [tx qp, tx qn, [c], [d]] ++ amsE qh) := by show _ = _; rw [hc, hd]; rfl
  have PK : Aside (qk = c8 c) := hK
  have PA : Aside (qa = c8 d) := hA
  have k9 : 0 ≤ qk ∧ qk ≤ 255 := by omega
  have a9 : 0 ≤ qa ∧ qa ≤ 255 := by omega
  obtain ⟨cs, hcs⟩ : ∃ cs : Array Value, cs = #[.string qp, .string qn, .int .i64 qk, .int .i64 qa, .slice u1 qh.length u3] := ⟨_, rfl⟩
  obtain ⟨bo, hbo⟩ : ∃ bo, bo = w.heap.size := ⟨_, rfl⟩
  have W0 : Aside (LX w B g v s [(bo, cs, 26)] (w.alloc (.cells #[.string qp, .string qn, .int .i64 qk, .int .i64 qa, .slice u1 qh.length u3] 26))) := by
    rw [hcs, hbo]; exact (Laid.refl H).lx.box _ _
  have CSA : Aside (cs = #[.string qp, .string qn, .int .i64 qk, .int .i64 qa, .slice u1 qh.length u3]) := hcs
  clear hcs H h0 lo hv hl hf hn hp hc hd hK hA
  have c0 := W0.out.cell (List.mem_cons_self ..) (i := 0) (by rw [CSA.out]; rfl)
  rw [hbo] at c0
  unfold Qt.val
  simp only
  rw [EL.out]
  go_enter Tryz.func27, Tryz.ntmps27
  go_wp2_with fail
  rw [← hbo]
  clear hbo
  refine (W0.out.calls (fun v' hv => wText_any B g v' _ qp _ SZ.out.1 hv)).mono ?_
  rintro e w1 ⟨rfl, hw⟩
  have W1 : Aside (LX w B g v ((s).lay (tx qp)) [(bo, cs, 26)] w1) := hw
  clear hw W0 c0
  have c1 := W1.out.cell (List.mem_cons_self ..) (i := 1) (by rw [CSA.out]; rfl)
  go_wp2_with fail
  refine (W1.out.calls (fun v' hv => wText_any B g v' _ qn _ SZ.out.2 hv)).mono ?_
  rintro e w2 ⟨rfl, hw⟩
  have W2 : Aside (LX w B g v (((s).lay (tx qp)).lay (tx qn)) [(bo, cs, 26)] w2) := hw
  clear hw W1 c1
  have c2 := W2.out.cell (List.mem_cons_self ..) (i := 2) (by rw [CSA.out]; rfl)
  go_wp2_with fail
  refine (W2.out.calls (fun v' hv => wByte_eq PK.out B g v' _ _ hv)).mono ?_
  rintro e w3 ⟨rfl, hw⟩
  have W3 : Aside (LX w B g v ((((s).lay (tx qp)).lay (tx qn)).lay [c]) [(bo, cs, 26)] w3) := hw
  clear hw W2 c2
  have c3 := W3.out.cell (List.mem_cons_self ..) (i := 3) (by rw [CSA.out]; rfl)
  go_wp2_with fail
  refine (W3.out.calls (fun v' hv => wByte_eq PA.out B g v' _ _ hv)).mono ?_
  rintro e w4 ⟨rfl, hw⟩
  have W4 : Aside (LX w B g v (((((s).lay (tx qp)).lay (tx qn)).lay [c]).lay [d]) [(bo, cs, 26)] w4) := hw
  clear hw W3 c3
  have c4 := W4.out.cell (List.mem_cons_self ..) (i := 4) (by rw [CSA.out]; rfl)
  go_wp2_with fail
  refine (W4.out.calls (fun v' hv => layAmounts_any w0 B g v' _ (.slice u1 qh.length u3) qh w4 hv (W4.out.laid.belowB V.out.1 V.out.2.1 V.out.2.2.1) V.out.2.2.1 V.out.2.2.2.1 V.out.2.2.2.2 HP.out)).mono ?_
  rintro e w5 ⟨rfl, hw⟩
  have W5 : Aside (Laid B g v (([tx qp, tx qn, [c], [d]] ++ amsE qh).foldl WS.lay s) w w5) := by rw [foldl_app]; exact hw.laid
  clear hw W4 c4
  go_wp2_with fail
  go_end0
  exact ⟨rfl, W5.out⟩
end Go.Proofs.YtanpneahembhbaaGreatDoor
end S0

section S1
namespace Go.Proofs.YtanpneahembhbaaGreatDoor
open Go.RowKit
def kSt : Kd ByteArray := ⟨fun x => [.string x], 1, 9, 101, 16, ⟨#[]⟩⟩
theorem okSt : kSt.Ok := ⟨fun _ => rfl, by decide, fun x u hu => by simp only [kSt, List.mem_cons, List.not_mem_nil, or_false] at hu; rcases hu with rfl; rfl, Tryz.underlying101, ⟨_, (by kernel_rfl : (Tryz.prog.info? 9).map (fun i => (i.zero, i.size, i.bytes)) = some (some (.string ⟨#[]⟩), 1, 16)), rfl⟩, by decide⟩
theorem info_am : (Tryz.prog.info? 37).map (fun i => (i.zero, i.size, i.bytes)) = some (some (.agg #[.string ⟨#[]⟩, .int .i64 0]), 2, 24) := by kernel_rfl
theorem make_am (n : Nat) (hn : n ≤ 1000000) (w : World) : ∃ cur : Array Value, cur.size = n * 2 ∧ (Instr.makeSlice 24 (.int .i64 0) (.int .i64 n)).run Tryz.prog w = .ok (.slice (some ⟨w.heap.size, 0, none⟩) 0 n) (w.alloc (.cells cur 37)) := by
  obtain ⟨i0, hi, hz0, hz1, hz2⟩ := info_parts info_am
  have h := run_make (P := Tryz.prog) w 24 37 i0 _ Tryz.underlying24 hi hz0 .i64 .i64 0 n (by omega) (by omega) (by rw [hz2]; omega) (by omega)
  exact ⟨_, by rw [size_madeCells, hz1, Int.toNat_natCast], h⟩
theorem made_am {w : World} {n : Nat} {cur : Array Value} (hs : cur.size = n * 2) (hn : n ≤ 1000000) : OwnR kAm w.heap.size (w.alloc (.cells cur 37)) (.slice (some ⟨w.heap.size, 0, none⟩) 0 n) [] :=
  ⟨rfl, .inr ⟨w.heap.size, n, cur, rfl, Nat.le_refl _, heap_alloc_new .., Nat.zero_le _, by unfold maxLen; omega, hs, by simp [cellsR]⟩⟩
def zAm (x : ByteArray) : Am := ⟨x, 0⟩
def ressB (l : List ByteArray) : Bool := amsB (l.map zAm)
theorem zAm_step (l : List ByteArray) (k : Nat) (h : k < l.length) : (l.take (k + 1)).map zAm = (l.take k).map zAm ++ [⟨l.getD k kSt.z, 0⟩] := by
  rw [take_onez l k kSt.z h, List.map_append]; rfl
set_option maxHeartbeats 4000000 in
set_option maxRecDepth 100000 in
theorem resources_any (v : Value) (l : List ByteArray) (w : World) (hv : Row kSt w v l) (hl : l.length ≤ 1000) :
    Calls Tryz.prog 63 #[v] w fun e w' => e = .returned (.bool (ressB l)) ∧ Below w.heap.size w w' := by
  have V := Lib.hid hv
  obtain ⟨a, cap, rfl, hlc, hcm⟩ := hv.len
  unfold maxLen at hcm
  obtain ⟨n, hn⟩ : ∃ n, n = l.length := ⟨_, rfl⟩
  rw [← hn] at hlc hl V ⊢
  have HN := Lib.hid hn
  clear hv hn
  obtain ⟨cur, hc, mk⟩ := make_am n (by omega) w
  obtain ⟨B, hB⟩ : ∃ B, B = w.heap.size := ⟨_, rfl⟩
  have M := Lib.hid (And.intro (Below.alloc (Below.refl w.heap.size w) (Nat.le_refl _) (.cells cur 37)) (made_am (w := w) hc (by omega)))
  clear hc
  go_enter Tryz.func63, Tryz.ntmps63
  go_wp2_with fail
  clear mk
  go_loopg [3, 11] n (fun gg so si wr => ∃ (k : Nat) (a' : Option Addr) (m c : Nat), k ≤ n ∧ gg = n - k ∧ si = .int .i64 k ∧ so = .slice a' m c ∧ OwnR kAm w.heap.size wr (.slice a' m c) ((l.take k).map zAm) ∧ Below w.heap.size w wr)
  case atStart => exact ⟨0, _, _, _, Nat.zero_le _, rfl, rfl, rfl, M.out.2, M.out.1⟩
  case round =>
    clear M
    obtain ⟨k, a', m, c, hk, hg, rfl, rfl, ho, hb⟩ := hrel
    have R : Aside (gk = n - k ∧ OwnR kAm w.heap.size wr (.slice a' m c) ((l.take k).map zAm) ∧ Below w.heap.size w wr) := ⟨hg, ho, hb⟩
    clear hg ho hb
    by_cases hlt : k < n
    · have hlt' : (k : Int) < (n : Int) := by omega
      obtain ⟨b, off, rfl, pc⟩ := (V.out.below R.out.2.2).at k (by rw [← HN.out]; exact hlt)
      have ST := Lib.hid (zAm_step l k (by rw [← HN.out]; exact hlt))
      obtain ⟨x, hx⟩ : ∃ x, x = l.getD k kSt.z := ⟨_, rfl⟩
      rw [← hx] at pc ST
      have c0 : wr.cell? ⟨b, off + k, none⟩ = some (.string x) := by have := pc 0 _ rfl; rwa [show kSt.k = 1 from rfl, Nat.mul_one] at this
      have LN : Hid (((l.take k).map zAm).length < 100000000) := Lib.hid (by rw [List.length_map, List.length_take]; omega)
      clear pc hx
      obtain ⟨acc, hacc⟩ : ∃ acc, acc = (l.take k).map zAm := ⟨_, rfl⟩
      rw [← hacc] at ST LN R
      clear hacc
      go_wp2_with (at_builtin; refine app_row okAm (gg := wr.heap.size) rfl _ _ rfl rfl R.out.2.1 R.out.2.2.size ⟨x, 0⟩ ?hgg rfl rfl LN.out ?_)
      case hgg => simp
      intro v' w' h1 h2
      obtain ⟨a2, c2, rfl⟩ := h1.slice
      have A : Aside (OwnR kAm w.heap.size w' (.slice a2 (acc ++ [(⟨x, 0⟩ : Am)]).length c2) ((l.take (k + 1)).map zAm) ∧ Below w.heap.size w w') := by
        refine ⟨?_, R.out.2.2.trans (grown_belowR h2 R.out.2.1 R.out.2.2.size)⟩
        rw [ST.out]; exact h1
      clear h1 h2
      go_wp2_with fail
      go_roundg (n - (k + 1))
      case measure => have := R.out.1; omega
      case rel => exact ⟨k + 1, a2, _, c2, by omega, rfl, by go_num, rfl, A.out.1, A.out.2⟩
    · have E : Aside ((l.take k).map zAm = l.map zAm) := by show _ = _; rw [List.take_of_length_le (by rw [← HN.out]; omega)]
      have VA := Lib.hid (valid_any _ _ wr (R.out.2.1.row okAm))
      rw [E.out] at VA
      go_wp2_with fail
      refine VA.out.mono ?_
      rintro e w2 ⟨rfl, hb⟩
      have B2 := Lib.hid (R.out.2.2.trans (hb.mono R.out.2.2.size))
      clear hb VA
      have E2 : Aside ((amsC (l.map zAm) == 0) = ressB l) := by
        show _ = _
        cases hS : ressB l with
        | false => exact beq_eq_false_iff_ne.2 (fun q => by rw [amsC_zero] at q; unfold ressB at hS; rw [hS] at q; cases q)
        | true => exact beq_iff_eq.2 ((amsC_zero _).2 hS)
      go_wp2_with fail
      go_ret
      exact ⟨by rw [← E2.out]; rfl, B2.out⟩
def pRq : List UInt8 := [114, 101, 113, 117, 101, 115, 116, 115, 46]
def pLi : List UInt8 := [108, 105, 109, 105, 116, 115, 46]
def cutP (s : ByteArray) (p : List UInt8) : ByteArray := ⟨(Lib.trimPrefix s.data.toList p).toArray⟩
def hardB (s : ByteArray) : Bool := s.toList == [99, 111, 117, 110, 116] || (if Lib.hasPrefix s.data.toList pRq = true then ressB [cutP s pRq] else Lib.hasPrefix s.data.toList pLi && ressB [cutP s pLi])
theorem one_st (w : World) (x : ByteArray) : Row kSt (w.alloc (.cells #[.string x] 9)) (.slice (some ⟨w.heap.size, 0, none⟩) 1 1) [x] :=
  (row_built (K := kSt) w [x] okSt rfl rfl (by unfold maxLen; simp)).row okSt
set_option maxHeartbeats 4000000 in
set_option maxRecDepth 100000 in
theorem hardName_any (s : ByteArray) (w : World) : Calls Tryz.prog 88 #[.string s] w fun e w' => e = .returned (.bool (hardB s)) ∧ Below w.heap.size w w' := by
  have CP : Hid (∀ W, Calls Tryz.prog 106 #[.string s, .string ⟨#[114, 101, 113, 117, 101, 115, 116, 115, 46]⟩] W fun e w' => e = .returned (.tuple #[.string (cutP s pRq), .bool (Lib.hasPrefix s.data.toList pRq)]) ∧ w' = W) := Lib.hid fun W => Tryz.strings_CutPrefix s ⟨#[114, 101, 113, 117, 101, 115, 116, 115, 46]⟩ W
  have CQ : Hid (∀ W, Calls Tryz.prog 106 #[.string s, .string ⟨#[108, 105, 109, 105, 116, 115, 46]⟩] W fun e w' => e = .returned (.tuple #[.string (cutP s pLi), .bool (Lib.hasPrefix s.data.toList pLi)]) ∧ w' = W) := Lib.hid fun W => Tryz.strings_CutPrefix s ⟨#[108, 105, 109, 105, 116, 115, 46]⟩ W
  have RR : Hid (∀ x, Calls Tryz.prog 63 #[.slice (some ⟨w.heap.size, 0, none⟩) 1 1] (w.alloc (.cells #[.string x] 9)) fun e w' => e = .returned (.bool (ressB [x])) ∧ Below w.heap.size w w') := Lib.hid fun x =>
    (resources_any _ _ _ (one_st w x) (by simp)).mono fun e w' q => ⟨q.1, ((Below.refl _ w).alloc (Nat.le_refl _) _).trans (q.2.mono (by simp))⟩
  obtain ⟨S, hS⟩ : ∃ S, S = hardB s := ⟨_, rfl⟩
  have ES : Aside (S = (s.toList == [99, 111, 117, 110, 116] || (if Lib.hasPrefix s.data.toList pRq = true then ressB [cutP s pRq] else Lib.hasPrefix s.data.toList pLi && ressB [cutP s pLi]))) := hS
  rw [← hS]
  clear hS
  obtain ⟨h1, e1⟩ : ∃ h1, h1 = Lib.hasPrefix s.data.toList pRq := ⟨_, rfl⟩
  obtain ⟨h2, e2⟩ : ∃ h2, h2 = Lib.hasPrefix s.data.toList pLi := ⟨_, rfl⟩
  obtain ⟨x1, f1⟩ : ∃ x1, x1 = cutP s pRq := ⟨_, rfl⟩
  obtain ⟨x2, f2⟩ : ∃ x2, x2 = cutP s pLi := ⟨_, rfl⟩
  rw [← e1, ← e2, ← f1, ← f2] at ES
  rw [← e1, ← f1] at CP
  rw [← e2, ← f2] at CQ
  clear e1 e2 f1 f2
  cases h0 : (s.toList == [99, 111, 117, 110, 116]) with
  | true =>
    rw [h0] at ES
    go_enter Tryz.func88, Tryz.ntmps88
    go_wp2_with fail
    go_ret
    exact ⟨by rw [ES.out]; rfl, Below.refl _ _⟩
  | false =>
    rw [h0] at ES
    go_enter Tryz.func88, Tryz.ntmps88
    go_wp2_with fail
    refine (CP.out w).mono ?_
    rintro e w1 ⟨rfl, rfl⟩
    clear CP
    cases h1 with
    | true =>
      go_wp2_with fail
      refine (RR.out x1).mono ?_
      rintro e w2 ⟨rfl, hb⟩
      have B := Lib.hid hb
      clear hb
      go_wp2_with fail
      go_ret
      exact ⟨by rw [ES.out]; rfl, B.out⟩
    | false =>
      go_wp2_with fail
      refine (CQ.out _).mono ?_
      rintro e w2 ⟨rfl, rfl⟩
      clear CQ
      cases h2 with
      | false =>
        go_wp2_with fail
        go_ret
        exact ⟨by rw [ES.out]; rfl, Below.refl _ _⟩
      | true =>
        go_wp2_with fail
        refine (RR.out x2).mono ?_
        rintro e w3 ⟨rfl, hb⟩
        have B := Lib.hid hb
        clear hb
        go_wp2_with fail
        go_ret
        exact ⟨by rw [ES.out]; rfl, B.out⟩
end Go.Proofs.YtanpneahembhbaaGreatDoor
end S1

section S2
namespace Go.Proofs.YtanpneahembhbaaGreatDoor
open Go.RowKit
def hdB (b : ByteArray) (x : Am) : Bool := L.ltS b x.n && (hardB x.n && decide (0 ≤ x.v))
def hdsUp : ByteArray → List Am → Bool
  | _, [] => true
  | b, x :: r => hdB b x && hdsUp x.n r
def hdsB (l : List Am) : Bool := decide (1 ≤ l.length) && (decide (l.length ≤ 16) && hdsUp ⟨#[]⟩ l)
set_option maxHeartbeats 8000000 in
set_option maxRecDepth 100000 in
theorem hardStands_any (v : Value) (l : List Am) (w : World) (hv : Row kAm w v l) : Calls Tryz.prog 54 #[v] w fun e w' => e = .returned (.bool (hdsB l)) ∧ Below w.heap.size w w' := by
  have V := Lib.hid hv
  obtain ⟨a, cap, rfl, hlc, hcm⟩ := hv.len
  unfold maxLen at hcm
  obtain ⟨n, hn⟩ : ∃ n, n = l.length := ⟨_, rfl⟩
  rw [← hn] at hlc V ⊢
  have HN := Lib.hid hn
  clear hv hn
  by_cases h1 : n < 1
  · have g : decide ((n : Int) < 1) = true := decide_eq_true (by omega)
    have E : Aside (hdsB l = false) := by show _ = _; unfold hdsB; rw [decide_eq_false (by rw [← HN.out]; omega)]; rfl
    go_enter Tryz.func54, Tryz.ntmps54
    go_wp2_with fail
    go_ret
    exact ⟨by rw [E.out]; rfl, Below.refl _ _⟩
  have g1 : decide ((n : Int) < 1) = false := decide_eq_false (by omega)
  by_cases h8 : n > 16
  · have g : decide ((n : Int) > 16) = true := decide_eq_true (by omega)
    have E : Aside (hdsB l = false) := by show _ = _; unfold hdsB; rw [decide_eq_false (show ¬ l.length ≤ 16 by rw [← HN.out]; omega)]; simp
    go_enter Tryz.func54, Tryz.ntmps54
    go_wp2_with fail
    go_ret
    exact ⟨by rw [E.out]; rfl, Below.refl _ _⟩
  have g8 : decide ((n : Int) > 16) = false := decide_eq_false (by omega)
  have E : Aside (hdsB l = hdsUp ⟨#[]⟩ l) := by show _ = _; unfold hdsB; rw [decide_eq_true (show 1 ≤ l.length by rw [← HN.out]; omega), decide_eq_true (show l.length ≤ 16 by rw [← HN.out]; omega)]; rfl
  go_enter Tryz.func54, Tryz.ntmps54
  go_wp2_with fail
  clear g1 g8
  go_loopg [3, 16] n (fun g sb si wr => ∃ (k : Nat) (b : ByteArray), k ≤ n ∧ g = n - k ∧ si = .int .i64 k ∧ sb = .string b ∧ hdsUp ⟨#[]⟩ l = hdsUp b (l.drop k) ∧ Below w.heap.size w wr)
  case atStart => exact ⟨0, ⟨#[]⟩, Nat.zero_le _, rfl, rfl, rfl, rfl, Below.refl _ _⟩
  case round =>
    obtain ⟨k, b0, hk, hg, rfl, rfl, hpr, hb⟩ := hrel
    have R : Aside (gk = n - k ∧ hdsUp ⟨#[]⟩ l = hdsUp b0 (l.drop k) ∧ Below w.heap.size w wr) := ⟨hg, hpr, hb⟩
    clear hg hpr hb
    by_cases hlt : k < n
    · have hlt' : (k : Int) < (n : Int) := by omega
      obtain ⟨b, off, rfl, pc⟩ := (V.out.below R.out.2.2).at k (by rw [← HN.out]; exact hlt)
      obtain ⟨x, hx⟩ : ∃ x, x = l.getD k kAm.z := ⟨_, rfl⟩
      have UP : Aside (hdsUp ⟨#[]⟩ l = (hdB b0 x && hdsUp x.n (l.drop (k + 1)))) := by
        show _ = _
        rw [R.out.2.1, drop_onez l k kAm.z (by rw [← HN.out]; exact hlt), ← hx]; rfl
      rw [← hx] at pc
      clear hx
      obtain ⟨xn, xv⟩ := x
      have c0 : wr.cell? ⟨b, off + k * 2, none⟩ = some (.string xn) := pc 0 _ rfl
      have c1 : wr.cell? ⟨b, off + k * 2 + 1, none⟩ = some (.int .i64 xv) := pc 1 _ rfl
      obtain ⟨X, hX⟩ : ∃ X, X = wr.alloc (.cells #[.string xn, .int .i64 xv] 37) := ⟨_, rfl⟩
      have AX : Hid (Below wr.heap.size wr X) := Lib.hid (by rw [hX]; exact (Below.refl _ wr).alloc (Nat.le_refl _) _)
      have BX : Hid (X.cell? ⟨wr.heap.size, 0, none⟩ = some (.string xn) ∧ X.cell? ⟨wr.heap.size, 1, none⟩ = some (.int .i64 xv)) :=
        Lib.hid ⟨by rw [hX, World.cell?_alloc_new]; rfl, by rw [hX, World.cell?_alloc_new]; rfl⟩
      have b1 := BX.out.1
      have NK := Lib.hid (hardName_any xn)
      have hX' := hX.symm
      clear hX pc
      cases hL : Op.bytesLess b0.toList xn.toList with
      | false =>
        have F : Aside (hdsUp ⟨#[]⟩ l = false) := by show _ = _; rw [UP.out]; unfold hdB L.ltS; rw [hL]; rfl
        by_cases hq : xn.toList = b0.toList
        · have q1 : (xn.toList == b0.toList) = true := by rw [beq_iff_eq]; exact hq
          have q2 : Op.bytesLess xn.toList b0.toList = false := by rw [hq]; exact K.bl_refl _
          clear hq
          go_wp2_with fail
          go_ret
          exact ⟨by rw [E.out, F.out]; rfl, R.out.2.2.trans (AX.out.mono R.out.2.2.size)⟩
        · have q2 : Op.bytesLess xn.toList b0.toList = true := by
            cases q : Op.bytesLess xn.toList b0.toList with
            | true => rfl
            | false => exact absurd (K.bl_total _ _ q hL) hq
          have q1 : (xn.toList == b0.toList) = false := by rw [beq_eq_false_iff_ne]; exact hq
          clear hq
          go_wp2_with fail
          go_ret
          exact ⟨by rw [E.out, F.out]; rfl, R.out.2.2.trans (AX.out.mono R.out.2.2.size)⟩
      | true =>
        have q2 : Op.bytesLess xn.toList b0.toList = false := K.bl_asymm _ _ hL
        have q1 : (xn.toList == b0.toList) = false := by
          rw [beq_eq_false_iff_ne]; intro q; rw [q] at hL; have h9 := K.bl_refl b0.toList; exact absurd (hL.symm.trans h9) (by simp)
        go_wp2_with fail
        refine (NK.out X).mono ?_
        rintro e w2 ⟨rfl, hb⟩
        have B2 := Lib.hid hb
        clear hX' b1 NK
        cases hN : hardB xn with
        | false =>
          have F : Aside (hdsUp ⟨#[]⟩ l = false) := by show _ = _; rw [UP.out]; unfold hdB; simp [hN]
          clear hb
          go_wp2_with fail
          go_ret
          exact ⟨by rw [E.out, F.out]; rfl, R.out.2.2.trans ((AX.out.trans (B2.out.mono AX.out.size)).mono R.out.2.2.size)⟩
        | true =>
          have b1 := (hb.cell (block_lt_of_cell BX.out.2)).trans BX.out.2
          have b2 := (hb.cell (block_lt_of_cell BX.out.1)).trans BX.out.1
          clear hb
          by_cases hR : xv < 0
          · have F : Aside (hdsUp ⟨#[]⟩ l = false) := by show _ = _; rw [UP.out]; unfold hdB; simp only [show decide (0 ≤ xv) = false from decide_eq_false (by omega), Bool.and_false, Bool.false_and]
            have g : decide (xv < 0) = true := decide_eq_true hR
            clear hR
            go_wp2_with fail
            go_ret
            exact ⟨by rw [E.out, F.out]; rfl, R.out.2.2.trans ((AX.out.trans (B2.out.mono AX.out.size)).mono R.out.2.2.size)⟩
          · have g : decide (xv < 0) = false := decide_eq_false hR
            have F : Aside (hdsUp ⟨#[]⟩ l = hdsUp xn (l.drop (k + 1))) := by
              show _ = _
              rw [UP.out]; unfold hdB L.ltS
              simp only [hL, hN, show decide (0 ≤ xv) = true from decide_eq_true (by omega), Bool.and_self, Bool.true_and]
            clear hR hL hN
            go_wp2_with fail
            go_roundg (n - (k + 1))
            case measure => have := R.out.1; omega
            case rel => exact ⟨k + 1, xn, by omega, rfl, by go_num, rfl, F.out, R.out.2.2.trans ((AX.out.trans (B2.out.mono AX.out.size)).mono R.out.2.2.size)⟩
    · have F : Aside (hdsUp ⟨#[]⟩ l = true) := by
        show _ = _
        rw [R.out.2.1, List.drop_eq_nil_of_le (by rw [← HN.out]; omega)]; rfl
      go_wp2_with fail
      go_ret
      exact ⟨by rw [E.out, F.out]; rfl, R.out.2.2⟩
def qtS (q : Qt) : Bool := namedB q.p q.n && (scB q.k q.a && hdsB q.h)
set_option maxHeartbeats 4000000 in
set_option maxRecDepth 100000 in
theorem quotaStands_any (q : Qt) (hs : Value) (w : World) (hm : L.HasM w) (hv : Row kAm w hs q.h) : Calls Tryz.prog 25 #[q.val hs] w fun e w' => e = .returned (.bool (qtS q)) ∧ Below w.heap.size w w' := by
  obtain ⟨p, n, k, a, h⟩ := q
  simp only at hv
  obtain ⟨u1, u3, rfl, hlc, hcm⟩ := hv.len
  have V := Lib.hid hv
  clear hlc hcm hv
  obtain ⟨S, hS⟩ : ∃ S, S = qtS ⟨p, n, k, a, h⟩ := ⟨_, rfl⟩
  have ES : Aside (S = (namedB p n && (scB k a && hdsB h))) := hS
  rw [← hS]
  clear hS
  unfold Qt.val
  simp only
  obtain ⟨X, hX⟩ : ∃ X, X = w.alloc (.cells #[.string p, .string n, .int .i64 k, .int .i64 a, .slice u1 h.length u3] 26) := ⟨_, rfl⟩
  have AX : Hid (Below w.heap.size w X) := Lib.hid (by rw [hX]; exact (Below.refl _ w).alloc (Nat.le_refl _) _)
  have CX : Hid (∀ i y, #[Value.string p, .string n, .int .i64 k, .int .i64 a, .slice u1 h.length u3][i]? = some y → X.cell? ⟨w.heap.size, i, none⟩ = some y) := Lib.hid fun i y h => by
    rw [hX, World.cell?_alloc_new]; exact h
  have d0 := CX.out 0 _ rfl
  have d1 := CX.out 1 _ rfl
  have NA := Lib.hid (named_any p n X (hm.below AX.out))
  have hX' := hX.symm
  clear hX hm
  go_enter Tryz.func25, Tryz.ntmps25
  go_wp2_with fail
  refine NA.out.mono ?_
  rintro e w1 ⟨rfl, hb⟩
  have B1 := Lib.hid hb
  clear hb NA hX' d0 d1
  cases h1 : namedB p n with
  | false =>
    have F : Aside (S = false) := by show _ = _; rw [ES.out, h1]; rfl
    go_wp2_with fail
    go_ret
    exact ⟨by rw [F.out]; rfl, AX.out.trans (B1.out.mono AX.out.size)⟩
  | true =>
  have d2 := (B1.out.cell (block_lt_of_cell (CX.out 2 _ rfl))).trans (CX.out 2 _ rfl)
  have d3 := (B1.out.cell (block_lt_of_cell (CX.out 3 _ rfl))).trans (CX.out 3 _ rfl)
  have NB := Lib.hid (scopeStands_any k a w1)
  go_wp2_with fail
  refine NB.out.mono ?_
  rintro e w2 ⟨rfl, hb⟩
  have B2 := Lib.hid (B1.out.trans (hb.mono B1.out.size))
  clear hb NB d2 d3
  cases h2 : scB k a with
  | false =>
    have F : Aside (S = false) := by show _ = _; rw [ES.out, h2]; simp
    go_wp2_with fail
    go_ret
    exact ⟨by rw [F.out]; rfl, AX.out.trans (B2.out.mono AX.out.size)⟩
  | true =>
  have d3 := (B2.out.cell (block_lt_of_cell (CX.out 4 _ rfl))).trans (CX.out 4 _ rfl)
  have W3 := Lib.hid (hardStands_any _ h w2 ((V.out.below AX.out).below B2.out))
  have F : Aside (S = hdsB h) := by show _ = _; rw [ES.out, h1, h2]; rfl
  go_wp2_with fail
  refine W3.out.mono ?_
  rintro e w3 ⟨rfl, hb⟩
  have B3 := Lib.hid (B2.out.trans (hb.mono B2.out.size))
  clear d3 W3 hb
  go_wp2_with fail
  go_ret
  exact ⟨by rw [F.out]; rfl, AX.out.trans (B3.out.mono AX.out.size)⟩
end Go.Proofs.YtanpneahembhbaaGreatDoor
end S2

section S3
namespace Go.Proofs.YtanpneahembhbaaGreatDoor
open Go.RowKit
structure Bd where
  p : ByteArray
  n : ByteArray
  s : ByteArray
  v : Int
def Bd.z : Bd := ⟨⟨#[]⟩, ⟨#[]⟩, ⟨#[]⟩, 0⟩
def Bd.val (b : Bd) : Value := .agg #[.string b.p, .string b.n, .string b.s, .int .i64 b.v]
structure Bd.Fit (b : Bd) : Prop where
  s : b.p.size ≤ 140737488355328 ∧ b.n.size ≤ 140737488355328 ∧ b.s.size ≤ 140737488355328
  n : -9223372036854775808 ≤ b.v ∧ b.v ≤ 9223372036854775807
def bdL (b : Bd) : List (List UInt8) := [tx b.p, tx b.n, tx b.s, [by8 b.v]]
def bdE (b : Bd) : List (List UInt8) := [66] :: [1] :: bdL b
def bdS (b : Bd) : Bool := namedB b.p b.n && (L.nameB b.s && inB b.v 0 3)
def bdR (b : Bd) : ByteArray × Nat := if bdS b = true then outR (bdE b) else (⟨#[]⟩, 130)
theorem size_bd : (Tryz.prog.info? 31).map (·.size) = some 4 := by kernel_rfl
set_option maxHeartbeats 4000000 in
set_option maxRecDepth 100000 in
theorem bindingStands_any (b : Bd) (w : World) (hm : L.HasM w) : Calls Tryz.prog 35 #[b.val] w fun e w' => e = .returned (.bool (bdS b)) ∧ Below w.heap.size w w' := by
  obtain ⟨p, n, s, v⟩ := b
  obtain ⟨S, hS⟩ : ∃ S, S = bdS ⟨p, n, s, v⟩ := ⟨_, rfl⟩
  have ES : Aside (S = (namedB p n && (L.nameB s && inB v 0 3))) := hS
  rw [← hS]
  clear hS
  unfold Bd.val
  simp only
  obtain ⟨X, hX⟩ : ∃ X, X = w.alloc (.cells #[.string p, .string n, .string s, .int .i64 v] 31) := ⟨_, rfl⟩
  have AX : Hid (Below w.heap.size w X) := Lib.hid (by rw [hX]; exact (Below.refl _ w).alloc (Nat.le_refl _) _)
  have CX : Hid (∀ i y, #[Value.string p, .string n, .string s, .int .i64 v][i]? = some y → X.cell? ⟨w.heap.size, i, none⟩ = some y) := Lib.hid fun i y h => by
    rw [hX, World.cell?_alloc_new]; exact h
  have d0 := CX.out 0 _ rfl
  have d1 := CX.out 1 _ rfl
  have NA := Lib.hid (named_any p n X (hm.below AX.out))
  have hX' := hX.symm
  clear hX hm
  go_enter Tryz.func35, Tryz.ntmps35
  go_wp2_with fail
  refine NA.out.mono ?_
  rintro e w1 ⟨rfl, hb⟩
  have B1 := Lib.hid hb
  clear hb NA hX' d0 d1
  cases h1 : namedB p n with
  | false =>
    have F : Aside (S = false) := by show _ = _; rw [ES.out, h1]; rfl
    go_wp2_with fail
    go_ret
    exact ⟨by rw [F.out]; rfl, AX.out.trans (B1.out.mono AX.out.size)⟩
  | true =>
  have d2 := (B1.out.cell (block_lt_of_cell (CX.out 2 _ rfl))).trans (CX.out 2 _ rfl)
  have NB := Lib.hid (L.name_any s w1)
  go_wp2_with fail
  refine NB.out.mono ?_
  rintro e w2 ⟨rfl, hb⟩
  have B2 := Lib.hid (B1.out.trans (hb.mono B1.out.size))
  clear hb NB d2
  cases h2 : L.nameB s with
  | false =>
    have F : Aside (S = false) := by show _ = _; rw [ES.out, h2]; simp
    go_wp2_with fail
    go_ret
    exact ⟨by rw [F.out]; rfl, AX.out.trans (B2.out.mono AX.out.size)⟩
  | true =>
  have d3 := (B2.out.cell (block_lt_of_cell (CX.out 3 _ rfl))).trans (CX.out 3 _ rfl)
  have W3 := Lib.hid (within_any v 0 3 w2)
  have F : Aside (S = inB v 0 3) := by show _ = _; rw [ES.out, h1, h2]; rfl
  go_wp2_with fail
  refine W3.out.mono ?_
  rintro e w3 ⟨rfl, hw3⟩
  subst hw3
  clear d3 W3
  go_wp2_with fail
  go_ret
  exact ⟨by rw [F.out]; rfl, AX.out.trans (B2.out.mono AX.out.size)⟩
set_option maxHeartbeats 4000000 in
set_option maxRecDepth 100000 in
theorem layBinding_any (B g : Nat) (v : Value) (s : WS) (b : Bd) (w : World) (H : WAt B w g v s) (hf : b.Fit) (hn : 0 ≤ b.v ∧ b.v ≤ 9) :
    Calls Tryz.prog 37 #[.pointer (some ⟨g, 0, none⟩), b.val] w fun e w' => e = .returned (.tuple #[]) ∧ Laid B g v ((bdL b).foldl WS.lay s) w w' := by
  have SZ := Lib.hid hf.s
  obtain ⟨bp, bn, bs, bv⟩ := b
  simp only at SZ hn
  have hPR := by8_c8 bv hn.1 hn.2
  obtain ⟨c, hc⟩ : ∃ c, c = by8 bv := ⟨_, rfl⟩
  rw [← hc] at hPR
  have EL : Aside (bdL ⟨bp, bn, bs, bv⟩ = [tx bp, tx bn, tx bs, [c]]) := by show _ = _; rw [hc]; rfl
  have P9 : Aside (bv = c8 c) := hPR
  have pr9 : 0 ≤ bv ∧ bv ≤ 255 := by omega
  obtain ⟨cs, hcs⟩ : ∃ cs : Array Value, cs = #[.string bp, .string bn, .string bs, .int .i64 bv] := ⟨_, rfl⟩
  obtain ⟨bo, hbo⟩ : ∃ bo, bo = w.heap.size := ⟨_, rfl⟩
  have W0 : Aside (LX w B g v s [(bo, cs, 31)] (w.alloc (.cells #[.string bp, .string bn, .string bs, .int .i64 bv] 31))) := by
    rw [hcs, hbo]; exact (Laid.refl H).lx.box _ _
  have CSA : Aside (cs = #[.string bp, .string bn, .string bs, .int .i64 bv]) := hcs
  clear hcs H hf hn hc hPR
  have c0 := W0.out.cell (List.mem_cons_self ..) (i := 0) (by rw [CSA.out]; rfl)
  rw [hbo] at c0
  unfold Bd.val
  simp only
  rw [EL.out]
  go_enter Tryz.func37, Tryz.ntmps37
  go_wp2_with fail
  rw [← hbo]
  clear hbo
  refine (W0.out.calls (fun v' hv => wText_any B g v' _ bp _ SZ.out.1 hv)).mono ?_
  rintro e w1 ⟨rfl, hw⟩
  have W1 : Aside (LX w B g v (s.lay (tx bp)) [(bo, cs, 31)] w1) := hw
  clear hw W0 c0
  have c1 := W1.out.cell (List.mem_cons_self ..) (i := 1) (by rw [CSA.out]; rfl)
  go_wp2_with fail
  refine (W1.out.calls (fun v' hv => wText_any B g v' _ bn _ SZ.out.2.1 hv)).mono ?_
  rintro e w2 ⟨rfl, hw⟩
  have W2 : Aside (LX w B g v ((s.lay (tx bp)).lay (tx bn)) [(bo, cs, 31)] w2) := hw
  clear hw W1 c1
  have c2 := W2.out.cell (List.mem_cons_self ..) (i := 2) (by rw [CSA.out]; rfl)
  go_wp2_with fail
  refine (W2.out.calls (fun v' hv => wText_any B g v' _ bs _ SZ.out.2.2 hv)).mono ?_
  rintro e w3 ⟨rfl, hw⟩
  have W3 : Aside (LX w B g v (((s.lay (tx bp)).lay (tx bn)).lay (tx bs)) [(bo, cs, 31)] w3) := hw
  clear hw W2 c2
  have c3 := W3.out.cell (List.mem_cons_self ..) (i := 3) (by rw [CSA.out]; rfl)
  go_wp2_with fail
  refine (W3.out.calls (fun v' hv => wByte_eq P9.out B g v' _ _ hv)).mono ?_
  rintro e w4 ⟨rfl, hw⟩
  have W4 : Aside (Laid B g v ([tx bp, tx bn, tx bs, [c]].foldl WS.lay s) w w4) := hw.laid
  clear hw W3 c3
  go_wp2_with fail
  go_end0
  exact ⟨rfl, W4.out⟩
set_option maxHeartbeats 2000000 in
theorem layB1_any (w0 : World) (bo B g : Nat) (v : Value) (s : WS) (b : Bd) (w : World) (H : WAt B w g v s) (h0 : Below w0.heap.size w0 w) (hf : b.Fit) (hn : 0 ≤ b.v ∧ b.v ≤ 9)
    (hb : w0.heap[bo]? = some (.cells #[.string b.p, .string b.n, .string b.s, .int .i64 b.v] 31 (0, 0))) :
    Calls Tryz.prog 36 #[.pointer (some ⟨g, 0, none⟩), .pointer (some ⟨bo, 0, none⟩)] w fun e w' => e = .returned (.tuple #[]) ∧ Laid B g v ((bdL b).foldl WS.lay s) w w' := by
  have LA := Lib.hid (layBinding_any B g v s b w H hf hn)
  have hc : ∀ i y, (#[.string b.p, .string b.n, .string b.s, .int .i64 b.v] : Array Value)[i]? = some y → w.cell? ⟨bo, i, none⟩ = some y := fun i y hy => by
    have q : w0.cell? ⟨bo, i, none⟩ = some y := by rw [cell_of_row w0 bo i _ _ _ hb]; exact hy
    exact (h0.cell (block_lt_of_cell q)).trans q
  have d0 := hc 0 _ rfl
  have d1 := hc 1 _ rfl
  have d2 := hc 2 _ rfl
  have d3 := hc 3 _ rfl
  unfold Bd.val at LA
  clear H h0 hf hn hb hc
  go_enter Tryz.func36, Tryz.ntmps36
  go_wp2_with fail
  refine LA.out.mono ?_
  rintro e w1 ⟨rfl, hl⟩
  have L1 := Lib.hid hl
  clear hl d0 d1 d2 d3
  go_wp2_with fail
  go_end0
  exact ⟨rfl, L1.out⟩
set_option maxHeartbeats 4000000 in
set_option maxRecDepth 100000 in
theorem bytesOfB_any (bo : Nat) (b : Bd) (w : World) (hf : b.Fit) (hn : 0 ≤ b.v ∧ b.v ≤ 9) (hb : w.heap[bo]? = some (.cells #[.string b.p, .string b.n, .string b.s, .int .i64 b.v] 31 (0, 0))) :
    Calls Tryz.prog 24 #[.bool true, .int .u8 66, .func (.func 36) #[] #[.pointer (some ⟨bo, 0, none⟩)]] w fun e w' => e = .returned (.tuple #[.string (outR (bdE b)).1, .int .i64 (outR (bdE b)).2]) ∧ Below w.heap.size w w' := by
  have V := Lib.hid (And.intro hf (And.intro hn hb))
  clear hf hn hb
  go_enter Tryz.func24, Tryz.ntmps24
  go_wp2_with fail
  refine (newWriter_any 8192 w).mono ?_
  rintro e w3 ⟨rfl, hw, _, hb⟩
  obtain ⟨B, hB⟩ : ∃ B, B = w.heap.size := ⟨_, rfl⟩
  rw [← hB] at hw ⊢
  have W3 : Aside (WW w B B wr0 w3) := ⟨⟨_, hw⟩, by rw [hB]; exact Nat.le_refl _, hb⟩
  clear hw hb hB
  go_wp2_with fail
  refine (W3.out.calls (fun v hv => wByte_eq (n := 66) (c := 66) rfl B B v _ w3 hv)).mono ?_
  rintro e w4 ⟨rfl, hw⟩
  have W4 : Aside (WW w B B (wr0.lay [66]) w4) := hw
  clear hw W3
  go_wp2_with fail
  refine (W4.out.calls (fun v hv => wByte_eq (n := 1) (c := 1) rfl B B v _ w4 hv)).mono ?_
  rintro e w5 ⟨rfl, hw⟩
  have W5 : Aside (WW w B B ((wr0.lay [66]).lay [1]) w5) := hw
  clear hw W4
  go_wp2_with fail
  refine (W5.out.calls (fun v hv => layB1_any w bo B B v _ b w5 hv W5.out.be V.out.1 V.out.2.1 V.out.2.2)).mono ?_
  rintro e w6 ⟨rfl, hw⟩
  have W6 : Aside (WW w B B ((bdE b).foldl WS.lay wr0) w6) := hw
  clear hw W5
  go_wp2_with fail
  obtain ⟨u, hu⟩ := W6.out.wr
  refine (wOut_any _ _ _ _ w6 hu).mono ?_
  rintro e w7 ⟨v2, rfl, ho, hb⟩
  have hc := convT ho.bytes
  have A : Aside (Below w.heap.size w w7) := W6.out.be.trans (hb.mono W6.out.be.size)
  have E : Aside _ := lays_out (bdE b)
  clear ho hb hu
  go_wp2_with fail
  go_ret2
  exact ⟨by rw [← E.out]; rfl, A.out⟩
set_option maxHeartbeats 4000000 in
set_option maxRecDepth 100000 in
theorem encodeB_any (b : Bd) (w : World) (hm : L.HasM w) (hf : b.Fit) :
    Calls Tryz.prog 12 #[b.val] w fun e w' => e = .returned (.tuple #[.string (bdR b).1, .int .i64 (bdR b).2]) ∧ Below w.heap.size w w' := by
  obtain ⟨X, hX⟩ : ∃ X, X = w.alloc (.cells #[.string b.p, .string b.n, .string b.s, .int .i64 b.v] 31) := ⟨_, rfl⟩
  have AX : Hid (Below w.heap.size w X) := Lib.hid (by rw [hX]; exact (Below.refl _ w).alloc (Nat.le_refl _) _)
  have HX : X.heap[w.heap.size]? = some (.cells #[.string b.p, .string b.n, .string b.s, .int .i64 b.v] 31 (0, 0)) := by rw [hX, heap_alloc_new]
  have hc : ∀ i y, (#[.string b.p, .string b.n, .string b.s, .int .i64 b.v] : Array Value)[i]? = some y → X.cell? ⟨w.heap.size, i, none⟩ = some y := fun i y hy => by
    rw [cell_of_row X w.heap.size i _ _ _ HX]; exact hy
  have d0 := hc 0 _ rfl
  have d1 := hc 1 _ rfl
  have d2 := hc 2 _ rfl
  have d3 := hc 3 _ rfl
  have V := Lib.hid (And.intro hf HX)
  have OS := Lib.hid (bindingStands_any b X (hm.below AX.out))
  unfold Bd.val at OS ⊢
  have hX' := hX.symm
  clear hX HX hc hf hm
  go_enter Tryz.func12, Tryz.ntmps12
  go_wp2_with fail
  refine OS.out.mono ?_
  rintro e w1 ⟨rfl, hb⟩
  have B1 := Lib.hid hb
  clear hb d0 d1 d2 d3 hX' OS
  cases hS : bdS b with
  | false =>
    have E : Aside (bdR b = (⟨#[]⟩, 130)) := by show _ = _; unfold bdR; rw [hS]; rfl
    go_wp2_with fail
    refine (bytesOf_no _ _ w1).mono ?_
    rintro e w2 ⟨rfl, rfl⟩
    go_wp2_with fail
    go_ret2
    exact ⟨by rw [E.out]; rfl, AX.out.trans (B1.out.mono AX.out.size)⟩
  | true =>
    have E : Aside (bdR b = outR (bdE b)) := by show _ = _; unfold bdR; rw [hS]; rfl
    have hv : 0 ≤ b.v ∧ b.v ≤ 9 := by
      unfold bdS inB at hS
      simp only [Bool.and_eq_true, decide_eq_true_iff] at hS
      exact ⟨hS.2.2.1, by omega⟩
    have BO := Lib.hid (bytesOfB_any w.heap.size b w1 V.out.1 hv (by rw [B1.out.block w.heap.size (lt_of_some V.out.2)]; exact V.out.2))
    clear hS hv
    go_wp2_with fail
    refine BO.out.mono ?_
    rintro e w2 ⟨rfl, hb⟩
    have B2 := Lib.hid hb
    clear hb BO
    go_wp2_with fail
    go_ret2
    exact ⟨by rw [E.out]; rfl, AX.out.trans ((B1.out.trans (B2.out.mono B1.out.size)).mono AX.out.size)⟩
end Go.Proofs.YtanpneahembhbaaGreatDoor
end S3

section S4
namespace Go.Proofs.YtanpneahembhbaaGreatDoor.L
open Go.RowKit
theorem splitE_none {p : ByteArray} (h : splitO p = none) : splitE p = 41 := by unfold splitE; rw [h]; rfl
theorem splitE_some {p : ByteArray} {ts : List ByteArray} (h : splitO p = some ts) : splitE p = 0 := by unfold splitE; rw [h]; rfl
theorem splitT_none {p : ByteArray} (h : splitO p = none) : splitT p = [] := by unfold splitT; rw [h]; rfl
theorem splitT_some {p : ByteArray} {ts : List ByteArray} (h : splitO p = some ts) : splitT p = ts := by unfold splitT; rw [h]; rfl
end Go.Proofs.YtanpneahembhbaaGreatDoor.L
end S4

section S5
namespace Go.Proofs.YtanpneahembhbaaGreatDoor.L
open Go.RowKit
set_option maxHeartbeats 4000000 in
set_option maxRecDepth 100000 in
theorem refName_any (s : ByteArray) (w : World) : Calls Tryz.prog 100 #[.string s] w fun e w' => e = .returned (.bool (nameB s)) ∧ w' = w := by
  go_enter Tryz.func100, Tryz.ntmps100
  by_cases h0 : s.size = 0
  · have g0 : decide ((s.size : Int) < 1) = true := decide_eq_true (by omega)
    have hA : Hid (nameB s = false) := Lib.hid (by unfold nameB; rw [decide_eq_false (show ¬ 0 < s.size by omega)]; rfl)
    go_wp2
    go_ret
    exact ⟨by rw [hA.out]; rfl, rfl⟩
  have g0 : decide ((s.size : Int) < 1) = false := decide_eq_false (by omega)
  by_cases h1 : 32 < s.size
  · have g1 : decide ((s.size : Int) > 32) = true := decide_eq_true (by omega)
    have hA : Hid (nameB s = false) := Lib.hid (by unfold nameB; rw [decide_eq_false (show ¬ s.size ≤ 32 by omega), Bool.and_false, Bool.false_and])
    go_wp2
    go_ret
    exact ⟨by rw [hA.out]; rfl, rfl⟩
  have g1 : decide ((s.size : Int) > 32) = false := decide_eq_false (by omega)
  have w1 : wrap64 ((s.size : Int) - 1) = (s.size : Int) - 1 := by unfold wrap64; omega
  have hp : 0 < s.size := by omega
  have hl : s.size - 1 < s.size := by omega
  by_cases hf : (s[0]'hp).toNat = 45
  · have f0 : (((s[0]'hp).toNat : Int) == 45) = true := by rw [beq_iff_eq]; omega
    have hA : Hid (nameB s = false) := Lib.hid (nameB_false hp (by
      unfold okAt
      rw [get_lit s 0 hp, hf]
      rfl))
    go_wp2
    go_ret
    exact ⟨by rw [hA.out]; rfl, rfl⟩
  have f0 : (((s[0]'hp).toNat : Int) == 45) = false := by rw [beq_eq_false_iff_ne]; omega
  by_cases he : (s[s.size - 1]'hl).toNat = 45
  · have f1 : (((s[s.size - 1]'hl).toNat : Int) == 45) = true := by rw [beq_iff_eq]; omega
    have hA : Hid (nameB s = false) := Lib.hid (nameB_false hl (by
      unfold okAt
      rw [get_lit s _ hl, he, decide_eq_false (show ¬ s.size - 1 + 1 < s.size by omega), Bool.and_false]
      rfl))
    go_wp2
    go_ret
    exact ⟨by rw [hA.out]; rfl, rfl⟩
  have f1 : (((s[s.size - 1]'hl).toNat : Int) == 45) = false := by rw [beq_eq_false_iff_ne]; omega
  have F0 := Lib.hid hf
  have F1 := Lib.hid he
  clear hf he
  go_wp2
  clear f0 f1
  go_loopg [3] s.size (fun g si wr => ∃ (k : Nat), k ≤ s.size ∧ g = s.size - k ∧ si = .int .i64 k ∧ (∀ i, i < k → i < s.size → okAt s i = true) ∧ wr = w)
  case atStart => exact ⟨0, Nat.zero_le _, rfl, rfl, fun i h => by omega, rfl⟩
  case round =>
    obtain ⟨k, hk, hg, rfl, hok, rfl⟩ := hrel
    have R : Aside (gk = s.size - k ∧ ∀ i, i < k → i < s.size → okAt s i = true) := ⟨hg, hok⟩
    clear hg hok
    by_cases hlt : k < s.size
    · have hlt' : (k : Int) < (s.size : Int) := by omega
      obtain ⟨c, hc⟩ : ∃ c, c = (s[k]'hlt).toNat := ⟨_, rfl⟩
      have hc' : (s.get! k).toNat = c := by rw [get_lit s k hlt]; exact hc.symm
      have C : Hid ((s.get! k).toNat = c) := hc'
      have fc : ((s[k]'hlt).toNat : Int) = (c : Int) := by rw [hc]
      clear hc hc'
      rcases (by omega : (c = 45) ∨ (c < 48 ∧ c ≠ 45) ∨ (48 ≤ c ∧ c ≤ 57) ∨ (58 ≤ c ∧ c ≤ 96) ∨ (97 ≤ c ∧ c ≤ 122) ∨ (122 < c)) with hx | hx | hx | hx | hx | hx
      · have gge97 : decide ((c : Int) ≥ 97) = false := decide_eq_false (by omega)
        have gge48 : decide ((c : Int) ≥ 48) = false := decide_eq_false (by omega)
        have gne45 : ((c : Int) != 45) = false := by rw [bne_eq_false_iff_eq]; omega
        have gq : ((c : Int) == 45) = true := by rw [beq_iff_eq]; omega
        have hA : Hid (okAt s k = true) := Lib.hid (by
          have n0 : 0 < k := by
            rcases Nat.eq_zero_or_pos k with e | e
            · subst e
              exact absurd ((get_lit s 0 hp).symm ▸ hx ▸ C.out : (s[0]'hp).toNat = 45) F0.out
            · exact e
          have n1 : k + 1 < s.size := by
            rcases Nat.lt_or_ge (k + 1) s.size with e | e
            · exact e
            · have ek : k = s.size - 1 := by omega
              subst ek
              have h1 := C.out
              rw [get_lit s _ hl, hx] at h1
              exact absurd h1 F1.out
          unfold okAt
          rw [C.out, decide_eq_true n0, decide_eq_true n1, decide_eq_true hx, Bool.and_self, Bool.and_self, Bool.or_true])
        clear hx
        go_wp2
        go_roundg (s.size - (k + 1))
        case measure => have := R.out.1; omega
        case rel => exact ⟨k + 1, by omega, rfl, by go_num, grow_ok R.out.2 hA.out, rfl⟩
      · have gge97 : decide ((c : Int) ≥ 97) = false := decide_eq_false (by omega)
        have gge48 : decide ((c : Int) ≥ 48) = false := decide_eq_false (by omega)
        have gne45 : ((c : Int) != 45) = true := by rw [bne_iff_ne]; omega
        have gq : ((c : Int) == 45) = false := by rw [beq_eq_false_iff_ne]; omega
        have hA : Hid (nameB s = false) := Lib.hid (nameB_false hlt (by
          unfold okAt plainN
          rw [C.out, decide_eq_false (show ¬ c = 45 by omega), Bool.and_false, Bool.or_false]
          simp
          omega))
        clear hx
        go_wp2
        go_ret
        exact ⟨by rw [hA.out]; rfl, rfl⟩
      · have gge97 : decide ((c : Int) ≥ 97) = false := decide_eq_false (by omega)
        have gge48 : decide ((c : Int) ≥ 48) = true := decide_eq_true (by omega)
        have gle57 : decide ((c : Int) ≤ 57) = true := decide_eq_true (by omega)
        have hA : Hid (okAt s k = true) := Lib.hid (by unfold okAt plainN; rw [C.out]; simp [hx])
        clear hx
        go_wp2
        go_roundg (s.size - (k + 1))
        case measure => have := R.out.1; omega
        case rel => exact ⟨k + 1, by omega, rfl, by go_num, grow_ok R.out.2 hA.out, rfl⟩
      · have gge97 : decide ((c : Int) ≥ 97) = false := decide_eq_false (by omega)
        have gge48 : decide ((c : Int) ≥ 48) = true := decide_eq_true (by omega)
        have gle57 : decide ((c : Int) ≤ 57) = false := decide_eq_false (by omega)
        have gne45 : ((c : Int) != 45) = true := by rw [bne_iff_ne]; omega
        have gq : ((c : Int) == 45) = false := by rw [beq_eq_false_iff_ne]; omega
        have hA : Hid (nameB s = false) := Lib.hid (nameB_false hlt (by
          unfold okAt plainN
          rw [C.out, decide_eq_false (show ¬ c = 45 by omega), Bool.and_false, Bool.or_false]
          simp
          omega))
        clear hx
        go_wp2
        go_ret
        exact ⟨by rw [hA.out]; rfl, rfl⟩
      · have gge97 : decide ((c : Int) ≥ 97) = true := decide_eq_true (by omega)
        have gle122 : decide ((c : Int) ≤ 122) = true := decide_eq_true (by omega)
        have hA : Hid (okAt s k = true) := Lib.hid (by unfold okAt plainN; rw [C.out]; simp [hx])
        clear hx
        go_wp2
        go_roundg (s.size - (k + 1))
        case measure => have := R.out.1; omega
        case rel => exact ⟨k + 1, by omega, rfl, by go_num, grow_ok R.out.2 hA.out, rfl⟩
      · have gge97 : decide ((c : Int) ≥ 97) = true := decide_eq_true (by omega)
        have gle122 : decide ((c : Int) ≤ 122) = false := decide_eq_false (by omega)
        have gge48 : decide ((c : Int) ≥ 48) = true := decide_eq_true (by omega)
        have gle57 : decide ((c : Int) ≤ 57) = false := decide_eq_false (by omega)
        have gne45 : ((c : Int) != 45) = true := by rw [bne_iff_ne]; omega
        have gq : ((c : Int) == 45) = false := by rw [beq_eq_false_iff_ne]; omega
        have hA : Hid (nameB s = false) := Lib.hid (nameB_false hlt (by
          unfold okAt plainN
          rw [C.out, decide_eq_false (show ¬ c = 45 by omega), Bool.and_false, Bool.or_false]
          simp
          omega))
        clear hx
        go_wp2
        go_ret
        exact ⟨by rw [hA.out]; rfl, rfl⟩
    · have hA : Hid (nameB s = true) := Lib.hid (nameB_true hp (by omega) fun i hi => R.out.2 i (by omega) hi)
      go_wp2
      go_ret
      exact ⟨by rw [hA.out]; rfl, rfl⟩
end Go.Proofs.YtanpneahembhbaaGreatDoor.L
end S5

section S6
namespace Go.Proofs.YtanpneahembhbaaGreatDoor.L
open Go.RowKit
theorem pathOf_take (ts : List ByteArray) (k : Nat) (h : k < ts.length) : pathOf (ts.take (k + 1)) = pathOf (ts.take k) ++ (47 :: (ts.getD k ⟨#[]⟩).data.toList) := by
  rw [take_one ts k ⟨#[]⟩ h, pathOf, List.flatMap_append, ← pathOf]
  simp
theorem bytes_size (l : List UInt8) : (⟨l.toArray⟩ : ByteArray).size = l.length := by simp [ByteArray.size]
theorem bytes_app (l m : List UInt8) : (⟨l.toArray⟩ : ByteArray) ++ ⟨m.toArray⟩ = ⟨(l ++ m).toArray⟩ := by
  apply ByteArray.ext
  simp
end Go.Proofs.YtanpneahembhbaaGreatDoor.L
end S6

section S7
namespace Go.Proofs.YtanpneahembhbaaGreatDoor.L
open Go.RowKit
theorem Strs.tail {w : World} {g n cap : Nat} {ts : List ByteArray} (h : Strs w (.slice (some ⟨g, 0, none⟩) n cap) ts) (hn : 0 < ts.length) : Strs w (.slice (some ⟨g, 1, none⟩) (n - 1) (cap - 1)) ts.tail := by
  obtain ⟨a, c, e, h1, h2, _, h3⟩ := h
  simp only [Value.slice.injEq] at e
  obtain ⟨rfl, rfl, rfl⟩ := e
  refine ⟨_, cap - 1, by rw [List.length_tail], by rw [List.length_tail]; omega, by unfold maxLen at h2 ⊢; omega, (fun h => by cases h), fun k hk => ⟨g, 1, rfl, ?_⟩⟩
  rw [List.length_tail] at hk
  obtain ⟨b, off, e, hc⟩ := h3 (k + 1) (by omega)
  cases e
  rw [show 1 + k = 0 + (k + 1) by omega, hc]
  congr 2
  cases ts with
  | nil => simp at hn
  | cons t r => simp
theorem Strs.take {w : World} {a : Option Addr} {n cap : Nat} {ts : List ByteArray} (h : Strs w (.slice a n cap) ts) (k : Nat) (hk : k ≤ ts.length) : Strs w (.slice a k cap) (ts.take k) := by
  obtain ⟨a', c, e, h1, h2, h0, h3⟩ := h
  simp only [Value.slice.injEq] at e
  obtain ⟨rfl, rfl, rfl⟩ := e
  have hl : (ts.take k).length = k := by rw [List.length_take]; omega
  refine ⟨a, cap, by rw [hl], by rw [hl]; omega, h2, h0, fun j hj => ?_⟩
  rw [hl] at hj
  obtain ⟨b, off, e, hc⟩ := h3 j (by omega)
  refine ⟨b, off, e, ?_⟩
  rw [hc]
  congr 2
  rw [List.getD_eq_getElem?_getD, List.getD_eq_getElem?_getD, List.getElem?_take_of_lt hj]
theorem extract_bytes (s : ByteArray) (f k : Nat) : s.extract f k = bytesOf ((s.data.toList.drop f).take (k - f)) := by
  apply data_inj
  rw [Lib.extract_data]
  show _ = ((s.data.toList.drop f).take (k - f)).toArray.toList
  rw [List.toList_toArray]
/-- Where the cutting stands. -/
def Cutting (s : List UInt8) (f k : Nat) (done : List (List UInt8)) : Prop := f ≤ k ∧ done.length ≤ f ∧ pieces 47 s = done ++ pieces 47 (s.drop f) ∧ 47 ∉ (s.drop f).take (k - f)
theorem cutting_start (s : List UInt8) : Cutting s 0 0 [] := ⟨Nat.le_refl _, Nat.le_refl _, rfl, by simp⟩
theorem drop_split (s : List UInt8) {f k : Nat} (hf : f ≤ k) (hk : k < s.length) : s.drop f = (s.drop f).take (k - f) ++ s[k] :: s.drop (k + 1) := by
  have h1 : s.drop f = (s.drop f).take (k - f) ++ (s.drop f).drop (k - f) := (List.take_append_drop _ _).symm
  rw [List.drop_drop, show f + (k - f) = k by omega, List.drop_eq_getElem_cons hk] at h1
  exact h1
theorem Cutting.go {s : List UInt8} {f k : Nat} {done : List (List UInt8)} (h : Cutting s f k done) (hk : k < s.length) (hc : s[k] ≠ 47) : Cutting s f (k + 1) done := by
  obtain ⟨h1, h2, h3, h4⟩ := h
  refine ⟨by omega, h2, h3, ?_⟩
  rw [show k + 1 - f = (k - f) + 1 by omega, List.take_add_one, List.mem_append, not_or]
  refine ⟨h4, ?_⟩
  rw [List.getElem?_drop, show f + (k - f) = k by omega, List.getElem?_eq_getElem hk]
  simp only [Option.toList_some, List.mem_singleton]
  exact fun e => hc e.symm
theorem Cutting.cut {s : List UInt8} {f k : Nat} {done : List (List UInt8)} (h : Cutting s f k done) (hk : k < s.length) (hc : s[k] = 47) : Cutting s (k + 1) (k + 1) (done ++ [(s.drop f).take (k - f)]) := by
  obtain ⟨h1, h2, h3, h4⟩ := h
  refine ⟨Nat.le_refl _, by rw [List.length_append, List.length_singleton]; omega, ?_, by simp⟩
  have hd := drop_split s h1 hk
  rw [hc] at hd
  rw [h3, List.append_assoc]
  congr 1
  conv => lhs; rw [hd]
  rw [pieces_app _ _ _ h4]
  rfl
theorem Cutting.done {s : List UInt8} {f : Nat} {done : List (List UInt8)} (h : Cutting s f s.length done) : pieces 47 s = done ++ [(s.drop f).take (s.length - f)] := by
  obtain ⟨h1, h2, h3, h4⟩ := h
  have e : (s.drop f).take (s.length - f) = s.drop f := List.take_of_length_le (by rw [List.length_drop]; omega)
  rw [e] at h4 ⊢
  rw [h3, pieces_free _ _ h4]
set_option maxHeartbeats 8000000 in
set_option maxRecDepth 100000 in
theorem refPieces_any (s : ByteArray) (w : World) (hs : s.size ≤ 1048576) :
    Calls Tryz.prog 132 #[.string s, .int .u8 47] w fun e w' => ∃ v, e = .returned v ∧ OwnS w.heap.size w' v ((pieces 47 s.data.toList).map bytesOf) ∧ Below w.heap.size w w' := by
  have sl : s.data.toList.length = s.size := by simp
  go_enter Tryz.func132, Tryz.ntmps132
  go_wp2_with fail
  go_loopg [5, 6, 7] (s.size + 1) (fun g so sf si wr => ∃ (k f : Nat) (vo : Value), g = s.size + 1 - k ∧ si = .int .i64 k ∧ sf = .int .i64 f ∧ so = vo ∧ f ≤ s.size + 1 ∧ Below w.heap.size w wr ∧
    ((k ≤ s.size ∧ ∃ done, Cutting s.data.toList f k done ∧ OwnS w.heap.size wr vo (done.map bytesOf)) ∨ (k = s.size + 1 ∧ OwnS w.heap.size wr vo ((pieces 47 s.data.toList).map bytesOf))))
  case atStart => exact ⟨0, 0, _, rfl, rfl, rfl, rfl, by omega, Below.refl _ _, Or.inl ⟨Nat.zero_le _, [], cutting_start _, World.ownsRow_nil _ _ _ _⟩⟩
  case round =>
    obtain ⟨k, f, vo, hg, rfl, rfl, rfl, hf, hb, hst⟩ := hrel
    have GK := Lib.hid hg
    have HB := Lib.hid hb
    have S0 := Lib.hid hb.size
    clear hg hb
    rcases hst with ⟨hk, done, hC, hO⟩ | ⟨hk, hO⟩
    · have O := Lib.hid hO
      have C := Lib.hid hC
      have hfk := hC.1
      have L : Hid (((done.map bytesOf).length + 1) * 16 ≤ 140737488355328) := Lib.hid (by rw [List.length_map]; have := hC.2.1; omega)
      clear hO hC
      have hk' : decide ((k : Int) ≤ (s.size : Int)) = true := decide_eq_true (by omega)
      have ex := Lib.hid (extract_bytes s f k)
      by_cases hlt : k < s.size
      · have ge : ((k : Int) == (s.size : Int)) = false := by rw [beq_eq_false_iff_ne]; omega
        have hlt' : (k : Int) < (s.size : Int) := by omega
        have hcs : s.data.toList[k]'(by omega) = s[k]'hlt := by simp [ByteArray.getElem_eq_getElem_data]
        by_cases hc : s[k]'hlt = 47
        · have gc : (((s[k]'hlt).toNat : Int) == 47) = true := by rw [hc]; rfl
          go_wp2_with (at_builtin; refine app_txt rfl _ _ rfl rfl O.out S0.out (s.extract f k) rfl L.out ?_)
          intro v' w' h1 h2
          have B2 := Lib.hid (HB.out.trans ((Below.refl _ _).grown h2 S0.out (fun k hk => (O.out.lt k hk).1)))
          have O2 : Hid (OwnS w.heap.size w' v' ((done ++ [(s.data.toList.drop f).take (k - f)]).map bytesOf)) := Lib.hid (by
            rw [List.map_append, List.map_singleton, ← ex.out]
            exact h1)
          have C2 := Lib.hid (C.out.cut (by omega) (hcs.trans hc))
          clear h1 h2 O C L
          go_wp2_with fail
          go_roundg (s.size + 1 - (k + 1))
          case measure => have := GK.out; omega
          case rel => exact ⟨k + 1, k + 1, _, rfl, by go_num, by go_num, rfl, by omega, B2.out, Or.inl ⟨by omega, _, C2.out, O2.out⟩⟩
        · have gc : (((s[k]'hlt).toNat : Int) == 47) = false := by
            rw [beq_eq_false_iff_ne]
            intro h
            have h9 : (s[k]'hlt).toNat = 47 := by omega
            exact hc (UInt8.toNat_inj.1 (h9.trans rfl))
          have C2 := Lib.hid (C.out.go (by omega) (fun h => hc (hcs.symm.trans h)))
          go_wp2_with fail
          go_roundg (s.size + 1 - (k + 1))
          case measure => have := GK.out; omega
          case rel => exact ⟨k + 1, f, _, rfl, by go_num, rfl, rfl, hf, HB.out, Or.inl ⟨by omega, _, C2.out, O.out⟩⟩
      · have ge : ((k : Int) == (s.size : Int)) = true := by rw [beq_iff_eq]; omega
        have EK : Hid (k = s.size) := Lib.hid (by omega)
        go_wp2_with (at_builtin; refine app_txt rfl _ _ rfl rfl O.out S0.out (s.extract f k) rfl L.out ?_)
        intro v' w' h1 h2
        have B2 := Lib.hid (HB.out.trans ((Below.refl _ _).grown h2 S0.out (fun k hk => (O.out.lt k hk).1)))
        have O2 : Hid (OwnS w.heap.size w' v' ((pieces 47 s.data.toList).map bytesOf)) := Lib.hid (by
          have hd : Cutting s.data.toList f s.data.toList.length done := by rw [sl, ← EK.out]; exact C.out
          rw [hd.done, List.map_append, List.map_singleton, sl, ← EK.out, ← ex.out]
          exact h1)
        clear h1 h2 O C L
        go_wp2_with fail
        go_roundg (s.size + 1 - (k + 1))
        case measure => have := GK.out; omega
        case rel => exact ⟨k + 1, k + 1, _, rfl, by go_num, by go_num, rfl, by omega, B2.out, Or.inr ⟨by omega, O2.out⟩⟩
    · subst hk
      have hk' : decide (((s.size : Int) + 1) ≤ (s.size : Int)) = false := decide_eq_false (by omega)
      have O := Lib.hid hO
      clear hO
      go_wp2_with fail
      go_ret
      exact ⟨_, rfl, O.out, HB.out⟩
end Go.Proofs.YtanpneahembhbaaGreatDoor.L
end S7

section S8
namespace Go.Proofs.YtanpneahembhbaaGreatDoor.L
open Go.RowKit
theorem pieces_head_ne {p : List UInt8} (h : Lib.hasPrefix p [47] = false) : (pieces 47 p).length < 2 ∨ ∃ x r, (pieces 47 p) = x :: r ∧ x ≠ [] := by
  cases p with
  | nil => exact Or.inl (by decide)
  | cons b l =>
    have hb : b ≠ 47 := by
      intro e
      subst e
      simp [Lib.hasPrefix] at h
    rw [pieces_cons, if_neg hb]
    exact Or.inr ⟨_, _, rfl, by simp⟩
theorem pieces_slash {p : List UInt8} (h : Lib.hasPrefix p [47] = true) : pieces 47 p = [] :: pieces 47 p.tail := by
  cases p with
  | nil => cases h
  | cons b l =>
    have : b = 47 := by simp [Lib.hasPrefix] at h; exact h.symm
    rw [pieces_cons, if_pos this]
    rfl
theorem pieces_pos (c : UInt8) (l : List UInt8) : 1 ≤ (pieces c l).length := List.length_pos_iff.2 (pieces_ne c l)
set_option maxHeartbeats 8000000 in
set_option maxRecDepth 100000 in
theorem refSplit_any (p : ByteArray) (w : World) (hs : p.size ≤ 1048576) :
    Calls Tryz.prog 124 #[.string p] w fun e w' => ∃ v, e = .returned (.tuple #[v, .int .i64 (splitE p)]) ∧ Strs w' v (splitT p) ∧ Below w.heap.size w w' := by
  have nilS : ∀ W, Strs W (.slice none 0 0) [] := fun W => ⟨none, 0, rfl, by simp, by decide, fun _ => rfl, fun k hk => by simp at hk⟩
  have NS := Lib.hid nilS
  clear nilS
  have PP := Lib.hid (refPieces_any p w hs)
  go_enter Tryz.func124, Tryz.ntmps124
  by_cases hr : p.data.toList = [47]
  · have hA : Hid (splitE p = 0 ∧ splitT p = []) := Lib.hid (by unfold splitE splitT splitO; rw [if_pos hr]; exact ⟨rfl, rfl⟩)
    have hp : (p.toList == [47]) = true := by rw [list_of_bytes, hr]; rfl
    go_wp2_with fail
    go_ret2
    exact ⟨.slice none 0 0, by rw [hA.out.1]; rfl, by rw [hA.out.2]; exact NS.out _, Below.refl _ _⟩
  have hp : (p.toList == [47]) = false := by rw [list_of_bytes, beq_eq_false_iff_ne]; exact hr
  have HN : Hid (¬ (Lib.hasPrefix p.data.toList [47] = true ∧ p.size ≤ 64 ∧ ((pieces 47 p.data.toList.tail).map bytesOf).length ≤ 8 ∧ ((pieces 47 p.data.toList.tail).map bytesOf).all nameB = true) → splitE p = 41 ∧ splitT p = []) := Lib.hid (by
    intro h
    unfold splitE splitT splitO
    rw [if_neg hr, if_neg h]
    exact ⟨rfl, rfl⟩)
  go_wp2_with fail
  refine PP.out.mono ?_
  rintro e w1 ⟨v, rfl, own, hb⟩
  have B1 := Lib.hid hb
  have S1 := Lib.hid own.strs
  have hplen : ((pieces 47 p.data.toList).map bytesOf).length = (pieces 47 p.data.toList).length := by simp
  obtain ⟨g, cap, hv, hc1, hc2⟩ : ∃ g cap, v = .slice (some ⟨g, 0, none⟩) (pieces 47 p.data.toList).length cap ∧ (pieces 47 p.data.toList).length ≤ cap ∧ cap ≤ maxLen := by
    obtain ⟨_, ⟨_, h⟩ | ⟨g, cap, cur, hv, _, _, h1, h2, _⟩⟩ := own
    · rw [hplen] at h
      have := pieces_pos 47 p.data.toList
      omega
    · exact ⟨g, cap, by rw [hv, hplen], by omega, h2⟩
  subst hv
  unfold maxLen at hc2
  clear own hb PP hplen
  by_cases h64 : p.size ≤ 64
  · have g64 : decide ((p.size : Int) > 64) = false := decide_eq_false (by omega)
    cases hpre : Lib.hasPrefix p.data.toList [47] with
    | false =>
      have hA := Lib.hid (HN.out (by rw [hpre]; simp))
      have hx := pieces_head_ne hpre
      have hat := S1.out
      by_cases h2 : (pieces 47 p.data.toList).length < 2
      · have g2 : decide (((pieces 47 p.data.toList).length : Int) < 2) = true := decide_eq_true (by omega)
        clear hx hat
        obtain ⟨n, hn⟩ : ∃ n, n = (pieces 47 p.data.toList).length := ⟨_, rfl⟩
        rw [← hn] at g2 hc1 ⊢
        clear hn
        go_wp2_with fail
        go_ret2
        exact ⟨.slice none 0 0, by rw [hA.out.1]; rfl, by rw [hA.out.2]; exact NS.out _, B1.out⟩
      · have g2 : decide (((pieces 47 p.data.toList).length : Int) < 2) = false := decide_eq_false (by omega)
        obtain ⟨x, r, hxr, hxe⟩ : ∃ x r, pieces 47 p.data.toList = x :: r ∧ x ≠ [] := by
          rcases hx with h | h
          · exact absurd h h2
          · exact h
        obtain ⟨b, off, e', c0⟩ := hat.at 0 (by rw [List.length_map]; omega)
        cases e'
        rw [hxr, List.map_cons, List.getD_cons_zero, Nat.add_zero] at c0
        have gx : (bytesOf x).toList.isEmpty = false := by
          rw [list_of_bytes]
          cases x with
          | nil => exact absurd rfl hxe
          | cons y z => rfl
        obtain ⟨t, ht⟩ : ∃ t, t = bytesOf x := ⟨_, rfl⟩
        rw [← ht] at c0 gx
        obtain ⟨n, hn⟩ : ∃ n, n = (pieces 47 p.data.toList).length := ⟨_, rfl⟩
        have hn2 : 2 ≤ n := by omega
        rw [← hn] at g2 hc1 ⊢
        clear hn ht hxr hxe hx hat h2
        by_cases h9 : n ≤ 9
        · have g9 : decide ((n : Int) > 9) = false := decide_eq_false (by omega)
          go_wp2_with fail
          go_ret2
          exact ⟨.slice none 0 0, by rw [hA.out.1]; rfl, by rw [hA.out.2]; exact NS.out _, B1.out⟩
        · have g9 : decide ((n : Int) > 9) = true := decide_eq_true (by omega)
          go_wp2_with fail
          go_ret2
          exact ⟨.slice none 0 0, by rw [hA.out.1]; rfl, by rw [hA.out.2]; exact NS.out _, B1.out⟩
    | true =>
      have hsl := pieces_slash hpre
      obtain ⟨ts, hts⟩ : ∃ ts, ts = (pieces 47 p.data.toList.tail).map bytesOf := ⟨_, rfl⟩
      have hlen : (pieces 47 p.data.toList).length = ts.length + 1 := by rw [hsl, hts, List.length_cons, List.length_map]
      have hmap : (pieces 47 p.data.toList).map bytesOf = ⟨#[]⟩ :: ts := by rw [hsl, hts, List.map_cons]; rfl
      have hpos : 1 ≤ ts.length := by rw [hts, List.length_map]; exact pieces_pos _ _
      have hsome : Hid (ts.length ≤ 8 → ts.all nameB = true → splitE p = 0 ∧ splitT p = ts) := Lib.hid (by
        intro h8 hall
        have e : splitO p = some ts := by
          unfold splitO
          rw [if_neg hr, if_pos ⟨hpre, h64, by rw [← hts]; exact h8, by rw [← hts]; exact hall⟩, ← hts]
        unfold splitE splitT
        rw [e]
        exact ⟨rfl, rfl⟩)
      have hno : Hid (¬ (ts.length ≤ 8 ∧ ts.all nameB = true) → splitE p = 41 ∧ splitT p = []) := Lib.hid (by
        intro h
        refine HN.out fun h2 => h ?_
        rw [hts]
        exact h2.2.2)
      rw [hmap, hlen] at S1
      rw [hlen] at hc1 ⊢
      obtain ⟨b, off, e', c0⟩ := S1.out.at 0 (by simp)
      cases e'
      rw [List.getD_cons_zero, Nat.add_zero] at c0
      have g2 : decide ((ts.length : Int) + 1 < 2) = false := decide_eq_false (by omega)
      clear HN hts hmap hsl hlen
      by_cases h8 : ts.length ≤ 8
      · have g9 : decide ((ts.length : Int) + 1 > 9) = false := decide_eq_false (by omega)
        go_wp2_with fail
        clear c0 g2 g9
        go_loopg [5] ts.length (fun g' si wr => ∃ (k : Nat), k ≤ ts.length ∧ g' = ts.length - k ∧ si = .int .i64 ((k : Int) + 1) ∧ (ts.take k).all nameB = true ∧ Below w1.heap.size w1 wr)
        case atStart => exact ⟨0, Nat.zero_le _, rfl, rfl, rfl, Below.refl _ _⟩
        case round =>
          obtain ⟨k, hk, hgk, rfl, ha, hb⟩ := hrel
          have GK := Lib.hid hgk
          have HA := Lib.hid ha
          have HB := Lib.hid hb
          clear hgk ha hb
          by_cases hlt : k < ts.length
          · obtain ⟨b', off', e', ck⟩ := (S1.out.below HB.out).at (k + 1) (by simp; omega)
            cases e'
            rw [List.getD_cons_succ, Nat.zero_add] at ck
            obtain ⟨t, ht⟩ : ∃ t, t = ts.getD k ⟨#[]⟩ := ⟨_, rfl⟩
            rw [← ht] at ck
            have C := Lib.hid ht
            clear ht
            have hlt' : (k : Int) + 1 < (ts.length : Int) + 1 := by omega
            have RN := Lib.hid (refName_any t)
            cases hn : nameB t with
            | true =>
              rw [hn] at RN
              go_wp2_with fail
              refine (RN.out _).mono ?_
              rintro e w2 ⟨rfl, rfl⟩
              go_wp2_with fail
              go_roundg (ts.length - (k + 1))
              case measure => have := GK.out; omega
              case rel => exact ⟨k + 1, by omega, rfl, by go_num, by rw [take_one ts k ⟨#[]⟩ hlt, ← C.out, List.all_append, HA.out]; simp [hn], HB.out⟩
            | false =>
              rw [hn] at RN
              have hall : ts.all nameB = false := by
                rw [List.all_eq_false]
                refine ⟨t, ?_, by rw [hn]; exact Bool.false_ne_true⟩
                rw [C.out, List.getD_eq_getElem?_getD, List.getElem?_eq_getElem hlt]
                exact List.getElem_mem hlt
              have hA := Lib.hid (hno.out (by rw [hall]; simp))
              clear hall
              go_wp2_with fail
              refine (RN.out _).mono ?_
              rintro e w2 ⟨rfl, rfl⟩
              go_wp2_with fail
              go_ret2
              exact ⟨.slice none 0 0, by rw [hA.out.1]; rfl, by rw [hA.out.2]; exact NS.out _, B1.out.trans (HB.out.mono B1.out.size)⟩
          · have hall : ts.all nameB = true := by
              have := HA.out
              rwa [List.take_of_length_le (by omega)] at this
            have hA := Lib.hid (hsome.out h8 hall)
            have ek : k = ts.length := by omega
            subst ek
            clear hall
            have ST := Lib.hid ((S1.out.below HB.out).tail (by simp))
            go_wp2_with fail
            go_ret2
            refine ⟨_, by rw [hA.out.1]; rfl, ?_, B1.out.trans (HB.out.mono B1.out.size)⟩
            rw [hA.out.2]
            have := ST.out
            rw [List.tail_cons, Nat.add_sub_cancel] at this
            exact this
      · have g9 : decide ((ts.length : Int) + 1 > 9) = true := decide_eq_true (by omega)
        have hA := Lib.hid (hno.out (fun h => h8 h.1))
        go_wp2_with fail
        go_ret2
        exact ⟨.slice none 0 0, by rw [hA.out.1]; rfl, by rw [hA.out.2]; exact NS.out _, B1.out⟩
  · have g64 : decide ((p.size : Int) > 64) = true := decide_eq_true (by omega)
    have hA := Lib.hid (HN.out (fun h => h64 h.2.1))
    obtain ⟨n, hn⟩ : ∃ n, n = (pieces 47 p.data.toList).length := ⟨_, rfl⟩
    rw [← hn] at hc1 ⊢
    clear hn
    go_wp2_with fail
    go_ret2
    exact ⟨.slice none 0 0, by rw [hA.out.1]; rfl, by rw [hA.out.2]; exact NS.out _, B1.out⟩
end Go.Proofs.YtanpneahembhbaaGreatDoor.L
end S8

section S9
namespace Go.Proofs.YtanpneahembhbaaGreatDoor.L
open Go.RowKit
theorem OwnS.mono {B B' : Nat} {w : World} {v : Value} {ts : List ByteArray} (h : OwnS B w v ts) (hb : B' ≤ B) : OwnS B' w v ts := by
  obtain ⟨h1, h | ⟨g, cap, cur, hv, h0, hr⟩⟩ := h
  · exact ⟨h1, .inl h⟩
  · exact ⟨h1, .inr ⟨g, cap, cur, hv, Nat.le_trans hb h0, hr⟩⟩
theorem joinR_good {ts : List ByteArray} (hg : Good ts) : joinR ts = (pth ts, 0) := by
  unfold joinR
  rw [hg.1, if_pos rfl, if_pos hg.2.1, if_pos hg.2.2]
  rfl
set_option maxHeartbeats 2000000 in
theorem refPath_any (p : ByteArray) (w : World) (hs : p.size ≤ 1048576) : Calls Tryz.prog 112 #[.string p] w fun e w' => e = .returned (.int .i64 (splitE p)) ∧ Below w.heap.size w w' := by
  have SP := Lib.hid (refSplit_any p w hs)
  go_enter Tryz.func112, Tryz.ntmps112
  go_wp2_with fail
  refine SP.out.mono ?_
  rintro e w1 ⟨v, rfl, _, hb⟩
  have B1 := Lib.hid hb
  clear hb
  go_wp2_with fail
  go_ret
  exact ⟨rfl, B1.out⟩
end Go.Proofs.YtanpneahembhbaaGreatDoor.L
end S9
