/-
  EncodeObject, ValidObject.
-/
import Derived.Test.YtehgnbgbmicheaaGreatDoorObM
namespace Go.Proofs.YtehgnbgbmicheaaGreatDoor
open Go.RowKit
theorem ams_good {l : List Am} (h : amsB l = true) : l.length ≤ 16 ∧ ∀ y ∈ l, 0 ≤ y.v := by
  unfold amsB at h
  rw [Bool.and_eq_true, Bool.and_eq_true, decide_eq_true_iff, List.all_eq_true] at h
  refine ⟨h.1, fun y hy => ?_⟩
  have := h.2.1 y hy
  unfold amB at this
  rw [Bool.and_eq_true, decide_eq_true_iff] at this
  exact this.1
theorem pts_good {b : ByteArray} {l : List Pt} (h : ptsUp b l = true) : ∀ x ∈ l, L.nameB x.n = true ∧ amsB x.r = true ∧ amsB x.l = true := by
  induction l generalizing b with
  | nil => intro x hx; simp at hx
  | cons y r ih =>
    unfold ptsUp at h
    rw [Bool.and_eq_true] at h
    intro x hx
    rcases List.mem_cons.1 hx with rfl | hx
    · have := h.1
      unfold ptB at this
      simp only [Bool.and_eq_true] at this
      exact ⟨this.2.1, this.2.2.1, this.2.2.2⟩
    · exact ih h.2 x hx
theorem labels_good {l : List (ByteArray × ByteArray)} (h : L.validE l = 0) : l.length ≤ 16 := by
  unfold L.validE at h
  split at h
  · rename_i q
    unfold L.lblsB at q
    rw [Bool.and_eq_true, decide_eq_true_iff] at q
    exact q.1
  · simp at h
theorem obS_parts {o : Ob} (h : obS o = true) : namedB o.p o.n = true ∧ L.validE o.ls = 0 ∧ (0 ≤ o.pr ∧ o.pr ≤ 9) ∧ (0 ≤ o.dl ∧ o.dl ≤ 1152921504606846976) ∧ (0 ≤ o.ver ∧ o.ver ≤ 1152921504606846976) ∧ 1 ≤ o.ps.length ∧ o.ps.length ≤ 8 ∧ ptsUp ⟨#[]⟩ o.ps = true := by
  unfold obS ptsB inB at h
  simp only [Bool.and_eq_true, decide_eq_true_iff] at h
  obtain ⟨h1, h2, h3, h4, h5, h6, h7, h8⟩ := h
  exact ⟨h1, h2, h3, h4, h5, h6, h7, h8⟩
theorem nice_of {o : Ob} (h : obS o = true) (hf : o.Fit) : o.Nice := by
  obtain ⟨h1, h2, h3, h4, h5, h6, h7, h8⟩ := obS_parts h
  have hg := pts_good h8
  refine ⟨hf, by have := labels_good h2; omega, by omega, fun x hx => ?_, ⟨h3.1, h3.2, h4.1, h5.1⟩⟩
  have q := hg x hx
  have q1 := ams_good q.2.1
  have q2 := ams_good q.2.2
  exact ⟨by omega, by omega, q1.2, q2.2⟩
set_option maxHeartbeats 2000000 in
theorem lay1_any (w0 : World) (bo B g : Nat) (v : Value) (s : WS) (o : Ob) (ls ps : Value) (w : World) (H : WAt B w g v s) (h0 : Below w0.heap.size w0 w) (lo : w0.heap.size ≤ B) (hv : ObV w0 ls ps o) (hn : o.Nice)
    (hb : w0.heap[bo]? = some (.cells #[.string o.p, .string o.n, ls, .int .i64 o.pr, .int .i64 o.dl, ps, .int .i64 o.ver] 25 (0, 0))) :
    Calls Tryz.prog 23 #[.pointer (some ⟨g, 0, none⟩), .pointer (some ⟨bo, 0, none⟩)] w fun e w' => e = .returned (.tuple #[]) ∧ Laid B g v ((obL o).foldl WS.lay s) w w' := by
  have LA := Lib.hid (layObject_any w0 B g v s o ls ps w H h0 lo hv hn)
  have hc : ∀ i y, #[Value.string o.p, .string o.n, ls, .int .i64 o.pr, .int .i64 o.dl, ps, .int .i64 o.ver][i]? = some y → w.cell? ⟨bo, i, none⟩ = some y := fun i y hy => by
    have q : w0.cell? ⟨bo, i, none⟩ = some y := by rw [cell_of_row w0 bo i _ _ _ hb]; exact hy
    exact (h0.cell (block_lt_of_cell q)).trans q
  have d0 := hc 0 _ rfl
  have d1 := hc 1 _ rfl
  have d2 := hc 2 _ rfl
  have d3 := hc 3 _ rfl
  have d4 := hc 4 _ rfl
  have d5 := hc 5 _ rfl
  have d6 := hc 6 _ rfl
  obtain ⟨la, lc, rfl, _, _⟩ := hv.l.len
  obtain ⟨pa, pc, rfl, _, _⟩ := hv.p.len
  unfold Ob.val at LA
  clear H h0 lo hv hn hb hc
  go_enter Tryz.func23, Tryz.ntmps23
  go_wp2_with fail
  refine LA.out.mono ?_
  rintro e w1 ⟨rfl, hl⟩
  have L1 := Lib.hid hl
  clear hl d0 d1 d2 d3 d4 d5 d6
  go_wp2_with fail
  go_end0
  exact ⟨rfl, L1.out⟩
set_option maxHeartbeats 4000000 in
set_option maxRecDepth 100000 in
theorem bytesOf1_any (bo : Nat) (o : Ob) (ls ps : Value) (w : World) (hv : ObV w ls ps o) (hn : o.Nice)
    (hb : w.heap[bo]? = some (.cells #[.string o.p, .string o.n, ls, .int .i64 o.pr, .int .i64 o.dl, ps, .int .i64 o.ver] 25 (0, 0))) :
    Calls Tryz.prog 21 #[.bool true, .int .u8 79, .func (.func 23) #[] #[.pointer (some ⟨bo, 0, none⟩)]] w fun e w' => e = .returned (.tuple #[.string (outR (obE o)).1, .int .i64 (outR (obE o)).2]) ∧ Below w.heap.size w w' := by
  have V := Lib.hid (And.intro hv (And.intro hn hb))
  clear hv hn hb
  go_enter Tryz.func21, Tryz.ntmps21
  go_wp2_with fail
  refine (newWriter_any 8192 w).mono ?_
  rintro e w3 ⟨rfl, hw, _, hb⟩
  obtain ⟨B, hB⟩ : ∃ B, B = w.heap.size := ⟨_, rfl⟩
  rw [← hB] at hw ⊢
  have W3 : Aside (WW w B B wr0 w3) := ⟨⟨_, hw⟩, by rw [hB]; exact Nat.le_refl _, hb⟩
  clear hw hb hB
  go_wp2_with fail
  refine (W3.out.calls (fun v hv => wByte_eq (n := 79) (c := 79) rfl B B v _ w3 hv)).mono ?_
  rintro e w4 ⟨rfl, hw⟩
  have W4 : Aside (WW w B B (wr0.lay [79]) w4) := hw
  clear hw W3
  go_wp2_with fail
  refine (W4.out.calls (fun v hv => wByte_eq (n := 1) (c := 1) rfl B B v _ w4 hv)).mono ?_
  rintro e w5 ⟨rfl, hw⟩
  have W5 : Aside (WW w B B ((wr0.lay [79]).lay [1]) w5) := hw
  clear hw W4
  go_wp2_with fail
  refine (W5.out.calls (fun v hv => lay1_any w bo B B v _ o ls ps w5 hv W5.out.be W5.out.lo V.out.1 V.out.2.1 V.out.2.2)).mono ?_
  rintro e w6 ⟨rfl, hw⟩
  have W6 : Aside (WW w B B ((obE o).foldl WS.lay wr0) w6) := hw
  clear hw W5
  go_wp2_with fail
  obtain ⟨u, hu⟩ := W6.out.wr
  refine (wOut_any _ _ _ _ w6 hu).mono ?_
  rintro e w7 ⟨v2, rfl, ho, hb⟩
  have hc := convT ho.bytes
  have A : Aside (Below w.heap.size w w7) := W6.out.be.trans (hb.mono W6.out.be.size)
  have E : Aside _ := lays_out (obE o)
  clear ho hb hu
  go_wp2_with fail
  go_ret2
  exact ⟨by rw [← E.out]; rfl, A.out⟩
set_option maxHeartbeats 2000000 in
theorem bytesOf_no (c : Int) (v : Value) (w : World) : Calls Tryz.prog 21 #[.bool false, .int .u8 c, v] w fun e w' => e = .returned (.tuple #[.string ⟨#[]⟩, .int .i64 130]) ∧ w' = w := by
  go_enter Tryz.func21, Tryz.ntmps21
  go_wp2_with fail
  go_ret2
  exact ⟨rfl, rfl⟩
set_option maxHeartbeats 4000000 in
set_option maxRecDepth 100000 in
theorem encode_any (o : Ob) (ls ps : Value) (w : World) (hm : L.HasM w) (hv : ObV w ls ps o) (hf : o.Fit) :
    Calls Tryz.prog 10 #[o.val ls ps] w fun e w' => e = .returned (.tuple #[.string (obR o).1, .int .i64 (obR o).2]) ∧ Below w.heap.size w w' := by
  obtain ⟨la, lc, rfl, _, _⟩ := hv.l.len
  obtain ⟨pa, pc, rfl, _, _⟩ := hv.p.len
  obtain ⟨X, hX⟩ : ∃ X, X = w.alloc (.cells #[.string o.p, .string o.n, .slice la o.ls.length lc, .int .i64 o.pr, .int .i64 o.dl, .slice pa o.ps.length pc, .int .i64 o.ver] 25) := ⟨_, rfl⟩
  have AX : Hid (Below w.heap.size w X) := Lib.hid (by rw [hX]; exact (Below.refl _ w).alloc (Nat.le_refl _) _)
  have HX : X.heap[w.heap.size]? = some (.cells #[.string o.p, .string o.n, .slice la o.ls.length lc, .int .i64 o.pr, .int .i64 o.dl, .slice pa o.ps.length pc, .int .i64 o.ver] 25 (0, 0)) := by rw [hX, heap_alloc_new]
  have hc : ∀ i y, #[Value.string o.p, .string o.n, .slice la o.ls.length lc, .int .i64 o.pr, .int .i64 o.dl, .slice pa o.ps.length pc, .int .i64 o.ver][i]? = some y → X.cell? ⟨w.heap.size, i, none⟩ = some y := fun i y hy => by
    rw [cell_of_row X w.heap.size i _ _ _ HX]; exact hy
  have d0 := hc 0 _ rfl
  have d1 := hc 1 _ rfl
  have d2 := hc 2 _ rfl
  have d3 := hc 3 _ rfl
  have d4 := hc 4 _ rfl
  have d5 := hc 5 _ rfl
  have d6 := hc 6 _ rfl
  have V := Lib.hid (And.intro hv (And.intro hf HX))
  have OS := Lib.hid (objectStands_any o _ _ X (hm.below AX.out) (hv.below AX.out))
  unfold Ob.val at OS ⊢
  have hX' := hX.symm
  clear hX HX hc hv hf hm
  go_enter Tryz.func10, Tryz.ntmps10
  go_wp2_with fail
  refine OS.out.mono ?_
  rintro e w1 ⟨rfl, hb⟩
  have B1 := Lib.hid hb
  clear hb d0 d1 d2 d3 d4 d5 d6 hX' OS
  cases hS : obS o with
  | false =>
    have E : Aside (obR o = (⟨#[]⟩, 130)) := by show _ = _; unfold obR; rw [hS]; rfl
    go_wp2_with fail
    refine (bytesOf_no _ _ w1).mono ?_
    rintro e w2 ⟨rfl, rfl⟩
    go_wp2_with fail
    go_ret2
    exact ⟨by rw [E.out]; rfl, AX.out.trans (B1.out.mono AX.out.size)⟩
  | true =>
    have E : Aside (obR o = outR (obE o)) := by show _ = _; unfold obR; rw [hS]; rfl
    have BO := Lib.hid (bytesOf1_any w.heap.size o _ _ w1 (V.out.1.below (AX.out.trans (B1.out.mono AX.out.size))) (nice_of hS V.out.2.1) (by rw [B1.out.block w.heap.size (lt_of_some V.out.2.2)]; exact V.out.2.2))
    clear hS
    go_wp2_with fail
    refine BO.out.mono ?_
    rintro e w2 ⟨rfl, hb⟩
    have B2 := Lib.hid hb
    clear hb BO
    go_wp2_with fail
    go_ret2
    exact ⟨by rw [E.out]; rfl, AX.out.trans ((B1.out.trans (B2.out.mono B1.out.size)).mono AX.out.size)⟩
set_option maxHeartbeats 2000000 in
theorem valido_any (o : Ob) (ls ps : Value) (w : World) (hm : L.HasM w) (hv : ObV w ls ps o) (hf : o.Fit) :
    Calls Tryz.prog 7 #[o.val ls ps] w fun e w' => e = .returned (.int .i64 (obR o).2) ∧ Below w.heap.size w w' := by
  obtain ⟨la, lc, rfl, _, _⟩ := hv.l.len
  obtain ⟨pa, pc, rfl, _, _⟩ := hv.p.len
  have A0 := Lib.hid ((Below.refl _ w).alloc (Nat.le_refl _) (.cells #[.string o.p, .string o.n, .slice la o.ls.length lc, .int .i64 o.pr, .int .i64 o.dl, .slice pa o.ps.length pc, .int .i64 o.ver] 25))
  have EN := Lib.hid (encode_any o _ _ _ (hm.below A0.out) (hv.below A0.out) hf)
  unfold Ob.val at EN ⊢
  clear hv hf hm
  go_enter Tryz.func7, Tryz.ntmps7
  go_wp2_with fail
  refine EN.out.mono ?_
  rintro e w1 ⟨rfl, hb⟩
  have B1 := Lib.hid hb
  clear hb EN
  go_wp2_with fail
  go_ret
  exact ⟨rfl, A0.out.trans (B1.out.mono A0.out.size)⟩
end Go.Proofs.YtehgnbgbmicheaaGreatDoor
