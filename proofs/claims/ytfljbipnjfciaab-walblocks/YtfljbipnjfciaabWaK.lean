/-
  bring.
-/
import Derived.Test.YtfljbipnjfciaabWaJ
namespace Go.Proofs.Ytfljbipnjfciaab
open Go.RowKit Go.Maps
def LS.T (s : LS) : Nat := (s.pay.length + 463) / 464
def chk (s : LS) (i : Nat) : List UInt8 := (s.pay.drop (464 * i)).take 464
def gAt (s : LS) (i : Nat) : Grp := grp s.ep (s.es + i) i s.T s.pay.length
def LS.at (s : LS) (i : Nat) : Nat := s.fst + (s.ea + i) % s.n
/-- What bring makes of the device, from a block on. -/
def brD (s : LS) : Nat → DS → DS × Int
  | 0, ds => flD ds
  | r + 1, ds => if (wrE ds (s.at (s.T - (r + 1)) : Int) (layB (gAt s (s.T - (r + 1))) (chk s (s.T - (r + 1))))).2 ≠ 0 then wrE ds (s.at (s.T - (r + 1)) : Int) (layB (gAt s (s.T - (r + 1))) (chk s (s.T - (r + 1)))) else brD s r (wrE ds (s.at (s.T - (r + 1)) : Int) (layB (gAt s (s.T - (r + 1))) (chk s (s.T - (r + 1))))).1
theorem gAt_val {s : LS} (h : LFit s) (i : Nat) (hi : i < s.T) : Val (gAt s i) := by
  obtain ⟨q1, q2, q3, q4, q5, q6, q7, q8, q9, q10, q11, q12, q13, q14⟩ := h
  unfold LS.T at hi
  have ht : s.T = (s.pay.length + 463) / 464 := rfl
  refine ⟨?_, ?_, ?_, ?_, ?_, ?_, ?_, ?_, ?_, ?_⟩ <;> (unfold gAt; simp only; omega)
theorem gAt_share {s : LS} (i : Nat) (hi : i < s.T) : shG (gAt s i) = ((chk s i).length : Int) := by
  unfold LS.T at hi
  unfold shG gAt chk
  simp only
  rw [List.length_take, List.length_drop]
  omega
theorem wr_ws (ds : DS) (i : Int) (p : List UInt8) : (wrE ds i p).1.ws ≤ ds.ws + 1 := by
  unfold wrE
  have h := act_same ds
  repeat' split
  · exact Nat.le_succ _
  · exact Nat.le_succ _
  · rw [h.2.2.2.1]; exact Nat.le_succ _
  · show (actD ds).1.ws + 1 ≤ _
    rw [h.2.2.2.1]
    exact Nat.le_refl _
theorem wr_cache (ds : DS) (i : Int) (p : List UInt8) : (wrE ds i p).1.cache.length ≤ ds.cache.length + 1 := by
  unfold wrE
  have h := act_same ds
  repeat' split
  · exact Nat.le_succ _
  · exact Nat.le_succ _
  · rw [h.1]; exact Nat.le_succ _
  · show ((actD ds).1.cache ++ [(i.toNat, p)]).length ≤ _
    rw [h.1, List.length_append]
    exact Nat.le_refl _
/-- A device and a log over it. -/
structure Wl (B : Nat) (W : World) (d mb mp : Nat) (cv : Value) (ds : DS) (l : Nat) (pv : Value) (s : LS) : Prop where
  dv : Dv B W d mb mp cv ds
  lg : Lg B W l d pv s
variable {B : Nat} {w W W' : World} {d mb mp : Nat} {cv : Value} {ds : DS} {l : Nat} {pv : Value} {s : LS}
theorem Wl.l_ne (h : Wl B W d mb mp cv ds l pv s) : ¬ Foot d mb mp cv l := by
  have hl := h.lg.self
  intro hf
  rcases hf with rfl | rfl | rfl | hf
  · rw [h.dv.self] at hl; simp at hl
  · rw [h.dv.med] at hl; simp at hl
  · obtain ⟨M, hM, _⟩ := h.dv.latest
    obtain ⟨es, c, hm⟩ := map_block hM
    rw [hm] at hl; simp at hl
  · obtain ⟨cur2, hc2⟩ := row_block h.dv.cache hf
    rw [hc2] at hl; simp at hl
theorem foot_ty {g : Nat} {cs : Array Value} {t : TypeId} {fr : Nat × Nat} (h : Dv B W d mb mp cv ds) (hg : W.heap[g]? = some (.cells cs t fr)) (h1 : t ≠ 81) (h2 : t ≠ 99) (h3 : t ≠ 121) : ¬ Foot d mb mp cv g := by
  intro hf
  rcases hf with rfl | rfl | rfl | hf
  · rw [h.self] at hg; simp at hg; exact h1 hg.2.1.symm
  · rw [h.med] at hg; simp at hg; exact h2 hg.2.1.symm
  · obtain ⟨M, hM, _⟩ := h.latest
    obtain ⟨es, c, hm⟩ := map_block hM
    rw [hm] at hg; simp at hg
  · obtain ⟨cur2, hc2⟩ := row_block h.cache hf
    rw [hc2] at hg; simp at hg; exact h3 hg.2.1.symm
theorem Wl.below (h : Wl B W d mb mp cv ds l pv s) (hb : Below W.heap.size W W') : Wl B W' d mb mp cv ds l pv s := ⟨h.dv.below hb, h.lg.below hb⟩
theorem Wl.dev {cv' : Value} {ds' : DS} (h : Wl B W d mb mp cv ds l pv s) (hd : Dv B W' d mb mp cv' ds') (hk : Kept (Foot d mb mp cv) W W') : Wl B W' d mb mp cv' ds' l pv s :=
  ⟨hd, h.lg.kept hk h.l_ne (h.dv.bytes_ne h.lg.pay)⟩
set_option maxRecDepth 100000 in
set_option maxHeartbeats 4000000 in
theorem bring_any (h : Wl B w d mb mp cv ds l pv s) (hws : ds.ws + 600 < 4611686018427387904) (hcl : ds.cache.length + 600 < 137438953472) : Calls Try.prog 66 #[.pointer (some ⟨l, 0, none⟩)] w fun e w' => ∃ cv', e = .returned (.int .i64 (brD s s.T ds).2) ∧ Wl B w' d mb mp cv' (brD s s.T ds).1 l pv s ∧ Kept (Foot d mb mp cv) w w' ∧ At cv cv' w := by
  have H := Lib.hid h
  obtain ⟨a, cap, hpv, hlc, hcm⟩ := row_slice h.lg.pay
  have HPV := Lib.hid hpv
  obtain ⟨pl, hpl⟩ : ∃ pl, pl = s.pay.length := ⟨_, rfl⟩
  have PL := Lib.hid hpl
  obtain ⟨T, hT⟩ : ∃ T, T = s.T := ⟨_, rfl⟩
  have TT := Lib.hid hT
  have hp2 : pl ≤ 237568 := by rw [hpl]; have := h.lg.fit.pl; have := h.lg.fit.hi; omega
  have hT2 : T = (pl + 463) / 464 := by rw [hT, hpl]; rfl
  have T2 := Lib.hid hT2
  have hT3 : T ≤ 512 := by omega
  have h1 := h.lg.fit.e2; have h2 := h.lg.fit.f4
  obtain ⟨ep, hep⟩ : ∃ ep, ep = s.ep := ⟨_, rfl⟩
  obtain ⟨es, hes⟩ : ∃ es, es = s.es := ⟨_, rfl⟩
  have EE := Lib.hid (And.intro hep hes)
  rw [← hep] at h1
  rw [← hes] at h2
  have BO : Hid (∀ W, Calls Try.prog 64 #[.int .i64 (pl : Int)] W fun e w' => e = .returned (.int .i64 (T : Int)) ∧ w' = W) := Lib.hid (fun W => by rw [hT2]; exact blocksOf_any pl (by omega) W)
  have CS : Hid (∀ W, Below w.heap.size w W → W.cell? ⟨l, 3, none⟩ = some (.int .i64 (ep : Int)) ∧ W.cell? ⟨l, 6, none⟩ = some (.int .i64 (es : Int)) ∧ W.cell? ⟨l, 8, none⟩ = some (.slice a pl cap)) := Lib.hid (fun W hb => by
    have q := h.lg.below hb
    exact ⟨by rw [q.cell 3, hep]; rfl, by rw [q.cell 6, hes]; rfl, by rw [q.cell 8, hpl, ← hpv]; rfl⟩)
  have B0 : Hid (Below w.heap.size w w.drew ∧ ∀ o : Obj, Below w.heap.size w (w.alloc o).drew ∧ Below w.heap.size w (w.drew.alloc o)) := Lib.hid ⟨below_drawn w 1, fun o => by
    have h1 : Below w.heap.size w (w.alloc o) := (Below.refl _ _).alloc (Nat.le_refl _) _
    exact ⟨⟨h1.os, h1.tape, h1.output, h1.size, h1.block⟩, (below_drawn w 1).alloc (Nat.le_refl _) _⟩⟩
  unfold maxLen at hcm
  clear h hpl hpv hlc hT hT2 hep hes
  go_enter Try.func66, Try.ntmps66
  go_wp2_with fail
  rename_i Q' K hK
  obtain ⟨U, hU⟩ : ∃ U, U = (w.alloc (.cells #[.int .i64 (ep : Int), .int .i64 (es : Int), .int .i64 0, .int .i64 (T : Int), .int .i64 (pl : Int)] 23)).drew := ⟨_, rfl⟩
  obtain ⟨g3, hg3⟩ : ∃ g3, g3 = w.heap.size := ⟨_, rfl⟩
  have GU : Hid (U.heap[g3]? = some (.cells #[.int .i64 (ep : Int), .int .i64 ((es + 0 : Nat) : Int), .int .i64 ((0 : Nat) : Int), .int .i64 (T : Int), .int .i64 (pl : Int)] 23 (0, 0))) := Lib.hid (by rw [hU, hg3]; exact heap_alloc_new w _)
  have BU : Hid (Below w.heap.size w U) := Lib.hid (by rw [hU]; exact (B0.out.2 _).1)
  have KEY : Exit.then K Q' Exit.normal
    {
      tmps :=
        #[Value.pointer (some { block := l, off := 0 }), undef, Value.int IntKind.i64 0,
          Value.pointer (some { block := w.heap.size, off := 0 }), undef, undef, undef,
          Value.pointer (some { block := l, off := 0 }), Value.pointer (some { block := l, off := 0 }),
          Value.pointer (some { block := l, off := 3 }), Value.int IntKind.i64 (ep : Int),
          Value.pointer (some { block := l, off := 0 }), Value.pointer (some { block := l, off := 0 }),
          Value.pointer (some { block := l, off := 6 }), Value.pointer (some { block := l, off := 6 }),
          Value.int IntKind.i64 (es : Int), Value.pointer (some { block := l, off := 0 }),
          Value.pointer (some { block := l, off := 0 }), Value.pointer (some { block := l, off := 8 }),
          Value.slice a pl cap, Value.int IntKind.i64 (pl : Int), Value.int IntKind.i64 (T : Int),
          Value.pointer (some { block := l, off := 0 }), Value.pointer (some { block := l, off := 0 }),
          Value.pointer (some { block := l, off := 8 }), Value.slice a pl cap, Value.int IntKind.i64 (pl : Int),
          Value.agg
            #[Value.int IntKind.i64 (ep : Int), Value.int IntKind.i64 (es : Int), Value.int IntKind.i64 0, Value.int IntKind.i64 (T : Int),
              Value.int IntKind.i64 (pl : Int)], undef, undef, undef, undef, undef, undef, undef, undef, undef, undef, undef, undef, undef, undef, undef, undef, undef, undef, undef, undef, undef, undef, undef, undef, undef, undef, undef, undef, undef, undef, undef, undef, undef, undef, undef, undef, undef, undef, undef, undef, undef, undef, undef, undef, undef, undef],
      defers := [] } U := by
    rw [← hg3]
    have G3 := Lib.hid hg3
    have AU : Hid (Wl B U d mb mp cv ds l pv s) := Lib.hid (H.out.below BU.out)
    have LT : Hid (l < g3) := Lib.hid (by rw [hg3]; exact lt_of_heap H.out.lg.self)
    clear hU BO CS B0 hg3
    go_wp2_with fail
    go_loopg [4, 5, 6] T (fun gg s4 s5 s6 wr => ∃ (i : Nat) (di : DS) (ci : Value), i ≤ T ∧ gg = T - i ∧ wr.heap[g3]? = some (.cells #[.int .i64 (ep : Int), .int .i64 ((es + i : Nat) : Int), .int .i64 (i : Int), .int .i64 (T : Int), .int .i64 (pl : Int)] 23 (0, 0)) ∧ Wl B wr d mb mp ci di l pv s ∧ (di.ws ≤ ds.ws + i ∧ di.cache.length ≤ ds.cache.length + i) ∧ brD s s.T ds = brD s (s.T - i) di ∧ Kept (Foot d mb mp cv) w wr ∧ At cv ci w)
    case atStart => exact ⟨0, ds, cv, Nat.zero_le _, rfl, GU.out, AU.out, ⟨Nat.le_refl _, Nat.le_refl _⟩, rfl, Below.kept BU.out _, At.refl _ _⟩
    case round =>
      obtain ⟨i, di, ci, hi, hgk, hg, hw, hdi, hbr, hkp, hat⟩ := hrel
      have R : Aside (gk = T - i ∧ wr.heap[g3]? = some (.cells #[.int .i64 (ep : Int), .int .i64 ((es + i : Nat) : Int), .int .i64 (i : Int), .int .i64 (T : Int), .int .i64 (pl : Int)] 23 (0, 0)) ∧ Wl B wr d mb mp ci di l pv s ∧ (di.ws ≤ ds.ws + i ∧ di.cache.length ≤ ds.cache.length + i) ∧ brD s s.T ds = brD s (s.T - i) di ∧ Kept (Foot d mb mp cv) w wr ∧ At cv ci w) := ⟨hgk, hg, hw, hdi, hbr, hkp, hat⟩
      have x2 : wr.cell? ⟨g3, 2, none⟩ = some (.int .i64 (i : Int)) := cell_of_row wr g3 2 _ _ _ hg
      have x3 : wr.cell? ⟨g3, 3, none⟩ = some (.int .i64 (T : Int)) := cell_of_row wr g3 3 _ _ _ hg
      clear hgk hg hw hdi hbr hkp hat
      by_cases hlt : i < T
      · have hlt' : (i : Int) < (T : Int) := by omega
        obtain ⟨G, hG⟩ : ∃ G, G = gAt s i := ⟨_, rfl⟩
        have GA : Hid (G.arr = #[.int .i64 (ep : Int), .int .i64 ((es + i : Nat) : Int), .int .i64 (i : Int), .int .i64 (T : Int), .int .i64 (pl : Int)]) := Lib.hid (by rw [hG]; unfold gAt; rw [← EE.out.1, ← EE.out.2, ← TT.out, ← PL.out]; rfl)
        have VG : Hid (Val G) := Lib.hid (by rw [hG]; exact gAt_val R.out.2.2.1.lg.fit i (by rw [← TT.out]; exact hlt))
        obtain ⟨m, hm⟩ : ∃ m, m = (chk s i).length := ⟨_, rfl⟩
        have SG : Hid (shG G = (m : Int)) := Lib.hid (by rw [hG, hm]; exact gAt_share i (by rw [← TT.out]; exact hlt))
        have hm12 : 1 ≤ m ∧ m ≤ 464 := by have := VG.out.share; rw [SG.out] at this; omega
        have hmp : 464 * i + m ≤ pl := by rw [hm, PL.out]; unfold chk; rw [List.length_take, List.length_drop]; have := T2.out; have := PL.out; omega
        have MM := Lib.hid hm
        have GG := Lib.hid hG
        obtain ⟨gp, cap', e1, _, _⟩ : ∃ g c, pv = .slice (some ⟨g, 0, none⟩) pl c ∧ pl ≤ c ∧ c ≤ maxLen := by
          obtain ⟨g, c, e, h1, h2, _⟩ := own_shape R.out.2.2.1.lg.pay (by rw [← PL.out]; omega)
          exact ⟨g, c, by rw [e, PL.out], by rw [PL.out]; exact h1, h2⟩
        have e2 : a = some ⟨gp, 0, none⟩ ∧ cap = cap' := by
          have q := HPV.out
          rw [e1] at q
          simp only [Value.slice.injEq] at q
          exact ⟨q.1.symm, q.2.2.symm⟩
        obtain ⟨rfl, rfl⟩ := e2
        have CS : Hid (∀ W, Below wr.heap.size wr W → W.cell? ⟨g3, 0, none⟩ = some (.int .i64 (ep : Int)) ∧ W.cell? ⟨g3, 1, none⟩ = some (.int .i64 ((es + i : Nat) : Int)) ∧ W.cell? ⟨g3, 2, none⟩ = some (.int .i64 (i : Int)) ∧ W.cell? ⟨g3, 3, none⟩ = some (.int .i64 (T : Int)) ∧ W.cell? ⟨g3, 4, none⟩ = some (.int .i64 (pl : Int)) ∧ W.cell? ⟨l, 8, none⟩ = some (.slice (some ⟨gp, 0, none⟩) pl cap)) := Lib.hid (fun W hb => by
          have q : W.heap[g3]? = _ := (hb.block _ (lt_of_heap R.out.2.1)).trans R.out.2.1
          exact ⟨cell_of_row W g3 0 _ _ _ q, cell_of_row W g3 1 _ _ _ q, cell_of_row W g3 2 _ _ _ q, cell_of_row W g3 3 _ _ _ q, cell_of_row W g3 4 _ _ _ q, by rw [(R.out.2.2.1.lg.below hb).cell 8, ← e1]; rfl⟩)
        have SH : Hid (∀ W, Below wr.heap.size wr W → Calls Try.prog 29 #[.agg #[.int .i64 (ep : Int), .int .i64 ((es + i : Nat) : Int), .int .i64 (i : Int), .int .i64 (T : Int), .int .i64 (pl : Int)]] W fun e w' => e = .returned (.int .i64 (m : Int)) ∧ Below wr.heap.size wr w') := Lib.hid (fun W hb => by
          rw [← GA.out]
          refine (share_any G VG.out W).mono ?_
          rintro e w' ⟨rfl, hb2⟩
          exact ⟨by rw [SG.out], hb.trans (hb2.mono hb.size)⟩)
        have LY : Hid (∀ W, Below wr.heap.size wr W → Calls Try.prog 30 #[.agg #[.int .i64 (ep : Int), .int .i64 ((es + i : Nat) : Int), .int .i64 (i : Int), .int .i64 (T : Int), .int .i64 (pl : Int)], .slice (some ⟨gp, 464 * i, none⟩) m (cap - 464 * i)] W fun e w' => ∃ gb, e = .returned (.slice (some ⟨gb, 0, none⟩) 512 512) ∧ Own wr.heap.size w' (.slice (some ⟨gb, 0, none⟩) 512 512) (layB G (chk s i)) ∧ Below wr.heap.size wr w') := Lib.hid (fun W hb => by
          rw [← GA.out]
          have q := (R.out.2.2.1.lg.pay.below hb).bytes
          rw [e1, PL.out] at q
          have hd := q.drop (464 * i) (by have := PL.out; omega)
          rw [← List.length_drop] at hd
          have ht := hd.take 464
          have ht2 : Bytes W (.slice (some ⟨gp, 464 * i, none⟩) m (cap - 464 * i)) (chk s i) := by
            rw [MM.out]
            unfold chk
            rw [List.length_take]
            have hmin : min 464 (s.pay.drop (464 * i)).length ≤ (s.pay.drop (464 * i)).length := Nat.min_le_right _ _
            have q3 := hd.take (min 464 (s.pay.drop (464 * i)).length) hmin
            simp only [Option.map_some, add_plain, Nat.zero_add] at q3
            have e3 : (s.pay.drop (464 * i)).take (min 464 (s.pay.drop (464 * i)).length) = (s.pay.drop (464 * i)).take 464 := by
              rw [← List.take_take, List.take_length]
            rw [e3] at q3
            exact q3
          refine (lay_any G VG.out _ (chk s i) (by rw [← MM.out]; omega) W ht2).mono ?_
          rintro e w' ⟨gb, rfl, ho, hb2⟩
          exact ⟨gb, rfl, ho.mono hb.size, hb.trans (hb2.mono hb.size)⟩)
        have u1 : (464 : Int) * (i : Int) + (m : Int) ≤ (cap : Int) := by omega
        have u2 : ¬ cap = 464 * i := by omega
        have wm : IntKind.i64.wrap ((464 : Int) * (i : Int) + (m : Int)) = 464 * (i : Int) + (m : Int) := wrap_in (by omega) (by omega)
        have B1 : Hid (Below wr.heap.size wr wr.drew) := Lib.hid (below_drawn wr 1)
        clear hm hG e1
        go_wp2_with fail
        go_region_held (fun W : World => W.cell? ⟨g3, 0, none⟩ = some (.int .i64 (ep : Int)) ∧ W.cell? ⟨g3, 1, none⟩ = some (.int .i64 ((es + i : Nat) : Int)) ∧ W.cell? ⟨g3, 2, none⟩ = some (.int .i64 (i : Int)) ∧ W.cell? ⟨g3, 3, none⟩ = some (.int .i64 (T : Int)) ∧ W.cell? ⟨g3, 4, none⟩ = some (.int .i64 (pl : Int)) ∧ W.cell? ⟨l, 8, none⟩ = some (.slice (some ⟨gp, 0, none⟩) pl cap)) (first | exact CS.out _ hB3 | exact CS.out _ hB2 | exact CS.out _ B1.out) (first | (go_at_call 29; refine (SH.out _ B1.out).mono ?_; rintro r w2 ⟨rfl, hB2⟩) | (go_at_call 30; refine (LY.out _ hB2).mono ?_; rintro r w3 ⟨gb, rfl, hO3, hB3⟩))
        have B3 := Lib.hid hB3
        have O3 := Lib.hid hO3
        clear hO3 hB3 hB2 CS SH LY B1 x2 x3
        have W3 : Hid (Wl B w3 d mb mp ci di l pv s) := Lib.hid (R.out.2.2.1.below B3.out)
        have G33 : Hid (w3.heap[g3]? = some (.cells #[.int .i64 (ep : Int), .int .i64 ((es + i : Nat) : Int), .int .i64 (i : Int), .int .i64 (T : Int), .int .i64 (pl : Int)] 23 (0, 0))) := Lib.hid ((B3.out.block _ (lt_of_heap R.out.2.1)).trans R.out.2.1)
        obtain ⟨pb, hpb⟩ : ∃ pb, pb = s.at i := ⟨_, rfl⟩
        obtain ⟨bs, hbs⟩ : ∃ bs, bs = layB G (chk s i) := ⟨_, rfl⟩
        rw [← hbs] at O3
        obtain ⟨X, hX⟩ : ∃ X, X = wrE di (pb : Int) bs := ⟨_, rfl⟩
        have XX : Hid (X = wrE di (s.at i : Int) (layB (gAt s i) (chk s i))) := Lib.hid (by rw [hX, hpb, hbs, GG.out])
        have PLC : Hid (Calls Try.prog 86 #[.pointer (some ⟨l, 0, none⟩), .int .i64 (i : Int)] w3.drew fun e w' => e = .returned (.int .i64 (pb : Int)) ∧ Below w3.heap.size w3 w') := Lib.hid (by
          have q := place_any (W3.out.lg.below (below_drawn w3 1)) i (by omega)
          refine q.mono ?_
          rintro e w' ⟨rfl, hb⟩
          refine ⟨by rw [hpb]; rfl, ⟨hb.os, hb.tape, hb.output, hb.size, hb.block⟩⟩)
        have WRI : Hid (∀ W, Below w3.heap.size w3 W → Calls Try.prog 85 #[.pointer (some ⟨d, 0, none⟩), .int .i64 (pb : Int), .slice (some ⟨gb, 0, none⟩) 512 512] W fun e w' => ∃ c', e = .returned (.int .i64 X.2) ∧ Wl B w' d mb mp c' X.1 l pv s ∧ Kept (Foot d mb mp ci) wr w' ∧ At ci c' wr ∧ w'.heap[g3]? = some (.cells #[.int .i64 (ep : Int), .int .i64 ((es + i : Nat) : Int), .int .i64 (i : Int), .int .i64 (T : Int), .int .i64 (pl : Int)] 23 (0, 0))) := Lib.hid (fun W hb => by
          have wW := W3.out.below hb
          have oW := O3.out.below hb
          refine (write_any2 wW.dv (pb : Int) (.slice (some ⟨gb, 0, none⟩) 512 512) bs (fun w' hk => (oW.kept hk (fun k hk2 e => wW.dv.bytes_ne oW k hk2 (.inl e))).bytes) (by have := R.out.2.2.2.1; omega) (by have := R.out.2.2.2.1; omega)).mono ?_
          rintro e w' ⟨c', rfl, hd, hk, ha⟩
          have gW : W.heap[g3]? = _ := (hb.block _ (lt_of_heap G33.out)).trans G33.out
          have bW : Below wr.heap.size wr W := B3.out.trans (hb.mono B3.out.size)
          rw [← hX] at hd ⊢
          refine ⟨c', rfl, wW.dev hd hk, (Below.kept bW _).trans hk (fun _ _ q => q), fun k hk2 => ?_, ?_⟩
          · rcases ha k hk2 with q | q
            · exact .inl q
            · exact .inr (Nat.le_trans bW.size q)
          · rw [hk.block _ (lt_of_heap gW) (foot_ty wW.dv gW (by decide) (by decide) (by decide))]
            exact gW)
        have CS : Hid (∀ W, Below w3.heap.size w3 W → W.cell? ⟨l, 0, none⟩ = some (.pointer (some ⟨d, 0, none⟩)) ∧ W.cell? ⟨g3, 2, none⟩ = some (.int .i64 (i : Int))) := Lib.hid (fun W hb => by
          have q : W.heap[g3]? = _ := (hb.block _ (lt_of_heap G33.out)).trans G33.out
          exact ⟨(W3.out.lg.below hb).cell 0, cell_of_row W g3 2 _ _ _ q⟩)
        have CS2 : Hid (∀ W c' x, Wl B W d mb mp c' x l pv s → W.heap[g3]? = some (.cells #[.int .i64 (ep : Int), .int .i64 ((es + i : Nat) : Int), .int .i64 (i : Int), .int .i64 (T : Int), .int .i64 (pl : Int)] 23 (0, 0)) → W.cell? ⟨l, 0, none⟩ = some (.pointer (some ⟨d, 0, none⟩)) ∧ W.cell? ⟨g3, 2, none⟩ = some (.int .i64 (i : Int))) := Lib.hid (fun W c' x h q => ⟨h.lg.cell 0, cell_of_row W g3 2 _ _ _ q⟩)
        have B1 : Hid (Below w3.heap.size w3 w3.drew) := Lib.hid (below_drawn w3 1)
        clear hX hpb hbs
        go_wp2_with fail
        go_region_held (fun W : World => W.cell? ⟨l, 0, none⟩ = some (.pointer (some ⟨d, 0, none⟩)) ∧ W.cell? ⟨g3, 2, none⟩ = some (.int .i64 (i : Int))) (first | exact CS2.out _ _ _ hw5 hg5 | exact CS.out _ hB4 | exact CS.out _ B1.out) (first | (go_at_call 86; refine PLC.out.mono ?_; rintro r w4 ⟨rfl, hB4⟩) | (go_at_call 85; refine (WRI.out _ hB4).mono ?_; rintro r w5 ⟨c5, rfl, hw5, hk5, ha5, hg5⟩))
        have F5 := Lib.hid (And.intro hw5 (And.intro hk5 (And.intro ha5 hg5)))
        clear hw5 hk5 ha5 hg5 hB4 WRI PLC CS CS2 B1 O3 B3 W3 G33
        have AT : Hid (At cv c5 w) := Lib.hid (R.out.2.2.2.2.2.2.trans F5.out.2.2.1 R.out.2.2.2.2.2.1.size)
        have KP : Hid (Kept (Foot d mb mp cv) w w5) := Lib.hid (R.out.2.2.2.2.2.1.trans F5.out.2.1 (fun x hx hf => by
          rcases hf with q | q | q | q
          · exact .inl q
          · exact .inr (.inl q)
          · exact .inr (.inr (.inl q))
          · rcases R.out.2.2.2.2.2.2 x q.symm with q2 | q2
            · exact .inr (.inr (.inr q2.symm))
            · omega))
        have BR : Hid (brD s s.T ds = if X.2 ≠ 0 then X else brD s (s.T - (i + 1)) X.1) := Lib.hid (by
          rw [R.out.2.2.2.2.1]
          have e : s.T - i = (s.T - (i + 1)) + 1 := by have := TT.out; omega
          rw [e]
          have e2 : s.T - (s.T - (i + 1) + 1) = i := by have := TT.out; omega
          show (if (wrE di (s.at (s.T - (s.T - (i + 1) + 1)) : Int) (layB (gAt s (s.T - (s.T - (i + 1) + 1))) (chk s (s.T - (s.T - (i + 1) + 1))))).2 ≠ 0 then _ else _) = _
          rw [e2, ← XX.out])
        have WS : Hid (X.1.ws ≤ ds.ws + (i + 1) ∧ X.1.cache.length ≤ ds.cache.length + (i + 1)) := Lib.hid (by rw [XX.out]; have q := wr_ws di (s.at i : Int) (layB (gAt s i) (chk s i)); have q2 := wr_cache di (s.at i : Int) (layB (gAt s i) (chk s i)); have := R.out.2.2.2.1; omega)
        by_cases hx0 : X.2 = 0
        · have b0 : (X.2 != 0) = false := by rw [hx0]; rfl
          have hg5 := F5.out.2.2.2
          have y1 : w5.cell? ⟨g3, 1, none⟩ = some (.int .i64 ((es + i : Nat) : Int)) := cell_of_row w5 g3 1 _ _ _ hg5
          have f1 : w5.frozen? ⟨g3, 1, none⟩ = false := frozen_of_row w5 g3 1 _ _ hg5
          obtain ⟨W6, hW6⟩ : ∃ W6, W6 = w5.setCell ⟨g3, 1, none⟩ (.int .i64 ((es : Int) + (i : Int) + 1)) := ⟨_, rfl⟩
          have hg6 : W6.heap[g3]? = some (.cells #[.int .i64 (ep : Int), .int .i64 ((es : Int) + (i : Int) + 1), .int .i64 (i : Int), .int .i64 (T : Int), .int .i64 (pl : Int)] 23 (0, 0)) := by rw [hW6, heap_setCell_same _ _ _ _ _ _ hg5]; rfl
          have y2 : W6.cell? ⟨g3, 2, none⟩ = some (.int .i64 (i : Int)) := cell_of_row W6 g3 2 _ _ _ hg6
          have f2 : W6.frozen? ⟨g3, 2, none⟩ = false := frozen_of_row W6 g3 2 _ _ hg6
          have H6 := Lib.hid hg6
          have HW6 := Lib.hid hW6
          have hW6' := hW6.symm
          have y1' : w5.cell? ⟨g3, 1, none⟩ = some (.int .i64 ((es : Int) + (i : Int))) := by rw [y1]; simp
          clear hW6 hg5 hg6 y1
          go_wp2_with fail
          go_roundg (T - (i + 1))
          case measure => have := R.out.1; omega
          case rel =>
            have gne : ¬ Foot d mb mp c5 g3 := foot_ty F5.out.1.dv F5.out.2.2.2 (by decide) (by decide) (by decide)
            have K6 : Kept (fun k => k = g3) w5 W6 := by rw [HW6.out]; exact kept_set _ _ _ rfl
            have K7 : Kept (fun k => k = g3) W6 (W6.setCell ⟨g3, 2, none⟩ (.int .i64 ((i : Int) + 1))) := kept_set _ _ _ rfl
            have K57 := K6.trans K7 (fun _ _ h => h)
            have l3 : l ≠ g3 := by have := LT.out; omega
            refine ⟨i + 1, X.1, c5, by omega, rfl, ?_, ⟨F5.out.1.dv.kept K57 (fun k hk e => gne (e ▸ hk)), F5.out.1.lg.kept K57 l3 (fun k hk e => ?_)⟩, WS.out, by rw [BR.out, if_neg (fun h => h hx0)], KP.out.trans K57 (fun x hx e => by have := G3.out; omega), AT.out⟩
            · rw [heap_setCell_same _ _ _ _ _ _ H6.out]
              have e1 : ((es + (i + 1) : Nat) : Int) = (es : Int) + (i : Int) + 1 := by omega
              have e2 : ((i + 1 : Nat) : Int) = (i : Int) + 1 := by omega
              rw [e1, e2]
              rfl
            · obtain ⟨cur, hc⟩ := row_block F5.out.1.lg.pay hk
              rw [e, F5.out.2.2.2] at hc
              simp at hc
        · have b0 : (X.2 != 0) = true := by rw [bne_iff_ne]; exact hx0
          go_wp2_with fail
          go_ret
          rw [BR.out, if_pos hx0]
          exact ⟨c5, rfl, F5.out.1, KP.out, AT.out⟩
      · have ei : i = T := by omega
        subst ei
        have x0 : wr.cell? ⟨l, 0, none⟩ = some (.pointer (some ⟨d, 0, none⟩)) := R.out.2.2.1.lg.cell 0
        have FL := Lib.hid (flush_any2 R.out.2.2.1.dv (by have := R.out.2.2.2.1; omega))
        go_wp2_with fail
        refine FL.out.mono ?_
        rintro r w5 ⟨c5, rfl, hd5, hk5, hc5⟩
        have F5 := Lib.hid (And.intro hd5 (And.intro hk5 hc5))
        clear hd5 hk5 hc5 FL
        go_wp2_with fail
        go_ret
        have e0 : brD s s.T ds = flD di := by rw [R.out.2.2.2.2.1, ← TT.out, Nat.sub_self]; rfl
        rw [e0]
        have K5 : Kept (Foot d mb mp ci) wr w5 := F5.out.2.1.mono (fun _ _ q => by rcases q with q | q | q; exact .inl q; exact .inr (.inl q); exact .inr (.inr (.inl q)))
        refine ⟨c5, rfl, R.out.2.2.1.dev F5.out.1 K5, R.out.2.2.2.2.2.1.trans F5.out.2.1 (fun _ _ q => by rcases q with q | q | q; exact .inl q; exact .inr (.inl q); exact .inr (.inr (.inl q))), ?_⟩
        rcases F5.out.2.2 with q | q
        · rw [q]; exact R.out.2.2.2.2.2.2
        · rw [q]; intro k hk; simp [Value.ownBlock] at hk
  rw [hU] at KEY
  clear GU BU hU
  have KK := Lib.hid KEY
  clear KEY
  go_region_held (fun W : World => W.cell? ⟨l, 3, none⟩ = some (.int .i64 (ep : Int)) ∧ W.cell? ⟨l, 6, none⟩ = some (.int .i64 (es : Int)) ∧ W.cell? ⟨l, 8, none⟩ = some (.slice a pl cap)) (first | exact CS.out _ B0.out.1 | exact CS.out _ (B0.out.2 _).1 | exact CS.out _ (B0.out.2 _).2) (first | (go_at_call 64; refine (BO.out _).mono ?_; rintro r w2 ⟨rfl, rfl⟩))
  all_goals exact KK.out
end Go.Proofs.Ytfljbipnjfciaab
