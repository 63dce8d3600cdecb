/-
  The document's Uses.
-/
import Derived.Test.YtibjmmfodelhjaaDoorScRd
import Derived.Test.YtibjmmfodelhjaaDoorScY
import Derived.Test.YtibjmmfodelhjaaDoorScO
import Derived.Deep.MidRow
import Derived.Sort.Walk0
import Derived.Deep.DeepCutAuto
namespace Go.Proofs.YtibjmmfodelhjaaDoor
open Go.RowKit
open Go.Sort (grow)
theorem app_rowC {α : Type} {K : Kd α} (ok : K.Ok) {ops : Array Oper} {rest : List Oper} {o : Oper} {a : Act} {Q : Exit → Act → World → Prop} (hgd : o.guard = none) (s y : Operand)
    (ho : o.op = .call { callee := .builtin .append, args := #[s, y], argTypes := #[K.s, K.s] })
    {B : Nat} {w0 : World} {v : Value} {xs : List α} (hs : a.eval s = v) (hown : OwnR K B w0 v xs) (hB : B ≤ w0.heap.size) (x : α) {gg : Nat} (hgg : gg = w0.heap.size) {cs : Array Value} (hcs : cs = (K.c x).toArray)
    (hy : a.eval y = .slice (some ⟨gg, 0, none⟩) 1 1) (hl : (xs.length + 1) * K.b ≤ 140737488355328)
    (h : ∀ v' w', OwnR K B w' v' (xs ++ [x]) → w0.grownBy w' v.ownBlock → (v'.ownBlock = v.ownBlock ∨ v'.ownBlock = some (w0.heap.size + 1)) → wpList Tryd.prog ops Q rest (a.put o.dst v') w') :
    wpList Tryd.prog ops Q (o :: rest) a (w0.alloc (.cells cs K.t)) := by
  subst hgg hcs
  obtain ⟨zv, hinf, hzc⟩ := ok.inf
  obtain ⟨i0, hi, hz0, hz1, hz2⟩ := info_parts hinf
  have hb := ok.by0
  refine wpList_append_own_at _ hgd s y K.s ho B K.t i0 _ K.k K.b ok.und hi hz0 hz1 hz2 hzc ok.pos v xs.length (cellsR K xs) hs (World.ownsRow.alloc hown _) ⟨w0.heap.size, 0, none⟩ 1 1 (K.c x) hy (by rw [ok.len, Nat.one_mul]) ?_ (ok.one x) (by have := Nat.le_mul_of_pos_right (xs.length + 1) hb.1; unfold maxLen; omega) ?_ (by simp; omega) ?_
  · intro j u hj
    rw [add_plain, Nat.zero_add, World.cell?_alloc_new, ← Array.getElem?_toList]; exact hj
  · exact hl
  · intro v' w' h1 h2 _ h4
    refine h v' w' ?_ (grown_alloc h2) (by simpa using h4)
    show w'.ownsRow _ _ _ _ _ _
    rw [cellsR_app, List.length_append, cellsR_single]
    exact h1
theorem own_slice1 {α : Type} {K : Kd α} {B n : Nat} {w : World} {v : Value} {l : List α} (H : OwnR K B w v l) (hn : l.length = n) (h : 0 < n) : ∃ g c, v = .slice (some ⟨g, 0, none⟩) n c ∧ B ≤ g := by
  obtain ⟨a, c, rfl⟩ := H.slice
  obtain ⟨g, rfl, -, hB, -⟩ := H.someOf (by omega)
  exact ⟨g, c, by rw [hn], hB⟩
/-- A struct laid into the middle of a row. -/
theorem store_am {ops : Array Oper} {rest : List Oper} {o : Oper} {a : Act} {w : World} {Q : Exit → Act → World → Prop} (hgd : o.guard = none) (x y : Operand) (ho : o.op = .store 36 x y)
    {B g m c i j : Nat} {L : List Am} (H : OwnR kAm B w (.slice (some ⟨g, 0, none⟩) m c) L) (hi : i < L.length) (z : Am) (hj : j = i * 2) (hx : a.eval x = .pointer (some ⟨g, j, none⟩)) (hy : a.eval y = .agg #[.string z.n, .int .i64 z.v])
    (h : ∀ W, OwnR kAm B W (.slice (some ⟨g, 0, none⟩) m c) (L.set i z) → w.grownBy W (some g) → wpList Tryd.prog ops Q rest (a.put o.dst undef) W) : wpList Tryd.prog ops Q (o :: rest) a w := by
  subst hj
  obtain ⟨cur, -, -, hq, -⟩ := H.parts
  obtain ⟨b', off', e', hcc⟩ := (H.row okAm).at i hi
  simp only [Option.some.injEq, Addr.mk.injEq, and_true] at e'
  obtain ⟨rfl, rfl⟩ := e'
  have c0 := hcc 0 _ rfl
  have c1 := hcc 1 _ rfl
  rw [Nat.zero_add] at c0 c1
  refine wpList_store_mid hgd 36 x y ho g (i * 2) #[.string z.n, .int .i64 z.v] hx hy ?_ (by kernel_rfl) (by simp [Value.oneCell']) ?_
  · intro j hj
    have hj' : j = 0 ∨ j = 1 := by simp at hj; omega
    rcases hj' with rfl | rfl
    · exact ⟨by have c0' : w.cell? ⟨g, i * 2 + 0, none⟩ = _ := c0; rw [c0']; rfl, frozen_row hq _⟩
    · exact ⟨by have c1' : w.cell? ⟨g, i * 2 + 1, none⟩ = _ := c1; rw [c1']; rfl, frozen_row hq _⟩
  · have h1 := H.set okAm i 0 hi (by decide) ⟨z.n, (L.getD i kAm.z).v⟩ (.string z.n) rfl
    have h2 := h1.set okAm i 1 (by rw [List.length_set]; exact hi) (by decide) z (.int .i64 z.v) (by rw [List.getD_eq_getElem?_getD, List.getElem?_set_self hi]; rfl)
    rw [List.set_set] at h2
    exact h _ h2 ((grown_set w g (i * 2) _).trans (grown_set _ g (i * 2 + 1) _))
theorem left_of {N : List (List UInt8)} {nk : List UInt8} {i : Nat} (h : ¬ nk < N.getD i []) : ∀ i0, i0 + 1 = i + 1 → N.getD i0 [] ≤ nk := fun i0 e => by
  obtain rfl : i0 = i := by omega
  exact List.not_lt.1 h
def fAm (es : List En) (n : List UInt8) : Am := ⟨⟨n.toArray⟩, Tot es n⟩
theorem neg_take (ps : List Pt) (k : Nat) (h : k < ps.length) : onegB (ps.take (k + 1)) = (onegB (ps.take k) || pnegB (ps.getD k ⟨⟨#[]⟩, [], []⟩)) := by
  unfold onegB
  rw [take_onez ps k ⟨⟨#[]⟩, [], []⟩ h, List.any_append]
  simp
theorem neg_some {ps : List Pt} {k : Nat} (h : k < ps.length) (hn : pnegB (ps.getD k ⟨⟨#[]⟩, [], []⟩) = true) : onegB ps = true :=
  List.any_eq_true.2 ⟨_, getD_in h, hn⟩
set_option maxHeartbeats 16000000 in
set_option maxRecDepth 100000 in
theorem refUses_core (op on : ByteArray) (opr odl over : Int) (la : Option Addr) (ln lc : Nat) (pa : Option Addr) (pc : Nat) (ops : List Pt) (w : World) (hp : Pts w (.slice pa ops.length pc) ops) (hz : PSz ops) :
    Calls Tryd.prog 30 #[.agg #[.string op, .string on, .slice la ln lc, .int .i64 opr, .int .i64 odl, .slice pa ops.length pc, .int .i64 over]] w fun e w' => ∃ a n c, e = .returned (.tuple #[.slice a n c, .int .i64 (usesE ops)]) ∧ OwnR kAm w.heap.size w' (.slice a n c) (usesL ops) ∧ Below w.heap.size w w' := by
  obtain ⟨_, _, e1, hlc, hcm⟩ := hp.len
  simp only [Value.slice.injEq] at e1
  rw [← e1.2.2] at hlc hcm
  unfold maxLen at hcm
  clear e1
  have HP := Lib.hid hp
  have HZ := Lib.hid hz
  obtain ⟨pn, hpn⟩ : ∃ n, n = ops.length := ⟨_, rfl⟩
  rw [← hpn] at hlc HP ⊢
  have HN := Lib.hid hpn
  clear hp hz hpn
  obtain ⟨X, hX⟩ : ∃ X, X = w.alloc (.cells #[.string op, .string on, .slice la ln lc, .int .i64 opr, .int .i64 odl, .slice pa pn pc, .int .i64 over] 25) := ⟨_, rfl⟩
  have BX : Hid (Below w.heap.size w X) := Lib.hid (by rw [hX]; exact (below_alR w).out _)
  have KC : Hid (∀ W : World, Below X.heap.size X W → W.cell? ⟨w.heap.size, 5, none⟩ = some (.slice pa pn pc)) := Lib.hid fun W hb => by
    have e : X.cell? ⟨w.heap.size, 5, none⟩ = some (.slice pa pn pc) := by rw [hX, World.cell?_alloc_new]; rfl
    exact (hb.cell (block_lt_of_cell e)).trans e
  have XP : Hid (Pts X (.slice pa pn pc) ops) := Lib.hid (HP.out.below BX.out)
  have EX := Lib.hid hX
  clear hX
  obtain ⟨Y, hY⟩ : ∃ Y, Y = X.alloc (.cells #[.string ⟨#[99, 111, 117, 110, 116]⟩, .int .i64 0, .int .i64 1000] 77) := ⟨_, rfl⟩
  have Y0 : Hid (OwnR kRw X.heap.size Y (.slice (some ⟨X.heap.size, 0, none⟩) 1 1) (rws (tkEs ops 0)) ∧ Below X.heap.size X Y) := Lib.hid (by
    rw [hY]
    refine ⟨row_built X (rws (tkEs ops 0)) okRw ?_ ?_ ?_, (below_alR X).out _⟩
    · rfl
    · rfl
    · show 1 ≤ maxLen; decide)
  have EY := Lib.hid hY
  clear hY
  go_enter Tryd.func30, Tryd.ntmps30
  go_wp2_with fail
  rw [← EX.out, ← EY.out]
  have SX : Hid (X.heap.size = w.heap.size + 1) := Lib.hid (by rw [EX.out]; simp)
  clear EX EY
  go_loopg [4, 5] pn (fun g so si wr => ∃ (i : Nat) (a' : Option Addr) (m c : Nat), i ≤ pn ∧ g = pn - i ∧ si = .int .i64 i ∧ so = .slice a' m c ∧ OwnR kRw X.heap.size wr (.slice a' m c) (rws (tkEs ops i)) ∧ onegB (ops.take i) = false ∧ Below X.heap.size X wr)
  case atStart => exact ⟨0, some ⟨w.heap.size + 1, 0, none⟩, 1, 1, Nat.zero_le _, rfl, rfl, rfl, by have q := Y0.out.1; rw [SX.out] at q ⊢; exact q, rfl, Y0.out.2⟩
  case round =>
    obtain ⟨i, a', m, c, hi, hg, rfl, rfl, ho, hng, hb⟩ := hrel
    have R : Hid (gk = pn - i ∧ OwnR kRw X.heap.size wr (.slice a' m c) (rws (tkEs ops i)) ∧ onegB (ops.take i) = false ∧ Below X.heap.size X wr) := Lib.hid ⟨hg, ho, hng, hb⟩
    have k5 := KC.out wr hb
    clear hg ho hng hb
    by_cases hlt : i < pn
    · have hlt' : (i : Int) < (pn : Int) := by omega
      have IL : Hid (i < ops.length) := Lib.hid (by rw [← HN.out]; exact hlt)
      obtain ⟨pb, off, ⟨ra, rn, rc⟩, ⟨sa, sn, sc⟩, rfl, c0, c1, c2, rr, rs⟩ := XP.out.at i IL.out
      simp only [Sl.v] at c1 c2 rr rs
      have RR : Hid (Row kAm X (.slice ra rn rc) (ops.getD i ⟨⟨#[]⟩, [], []⟩).r ∧ Row kAm X (.slice sa sn sc) (ops.getD i ⟨⟨#[]⟩, [], []⟩).l) := Lib.hid ⟨rr, rs⟩
      have CC : Hid (∀ W, Below X.heap.size X W → W.cell? ⟨pb, off + i * 3 + 1, none⟩ = some (.slice ra rn rc) ∧ W.cell? ⟨pb, off + i * 3 + 2, none⟩ = some (.slice sa sn sc)) := Lib.hid fun W hb => ⟨(hb.cell (block_lt_of_cell c1)).trans c1, (hb.cell (block_lt_of_cell c2)).trans c2⟩
      have ST := Lib.hid (tk_step ops i IL.out)
      have NT := Lib.hid (neg_take ops i IL.out)
      have NS := Lib.hid (fun q => neg_some IL.out q)
      have FI := Lib.hid (HZ.out.s _ (getD_in (d := ⟨⟨#[]⟩, [], []⟩) IL.out))
      have TL : Hid ((tkEs ops i).length + (ops.getD i ⟨⟨#[]⟩, [], []⟩).r.length + (ops.getD i ⟨⟨#[]⟩, [], []⟩).l.length ≤ 4000000) := Lib.hid (by
        have q := tk_len ops (i + 1)
        rw [ST.out] at q
        simp only [List.length_append, pre, List.length_map] at q
        have := HZ.out.n
        omega)
      obtain ⟨⟨xn, xr, xl⟩, hx⟩ : ∃ x, x = ops.getD i ⟨⟨#[]⟩, [], []⟩ := ⟨_, rfl⟩
      rw [← hx] at RR ST NT NS FI TL
      simp only at RR ST FI TL
      have PN : Hid (pnegB ⟨xn, xr, xl⟩ = (xr.any negB || xl.any negB)) := Lib.hid rfl
      clear hx rr rs c0 c1 c2
      obtain ⟨d1, d2⟩ := CC.out wr R.out.2.2.2
      obtain ⟨b1, hb1⟩ : ∃ b, b = xr.any negB := ⟨_, rfl⟩
      obtain ⟨b2, hb2⟩ : ∃ b, b = xl.any negB := ⟨_, rfl⟩
      have L1 : Hid (Calls Tryd.prog 39 #[.slice ra rn rc] wr fun e w' => e = .returned (.bool b1) ∧ w' = wr) := Lib.hid (by rw [hb1]; exact refBelow_any _ _ _ (RR.out.1.below R.out.2.2.2))
      have L2 : Hid (Calls Tryd.prog 39 #[.slice sa sn sc] wr fun e w' => e = .returned (.bool b2) ∧ w' = wr) := Lib.hid (by rw [hb2]; exact refBelow_any _ _ _ (RR.out.2.below R.out.2.2.2))
      rw [← hb1, ← hb2] at PN
      have HB := Lib.hid (And.intro hb1 hb2)
      have FB : Hid (Below w.heap.size w wr) := Lib.hid (BX.out.trans (R.out.2.2.2.mono BX.out.size))
      clear hb1 hb2
      go_wp2_with fail
      refine L1.out.mono ?_
      rintro e w2 ⟨rfl, rfl⟩
      cases b1 with
      | true =>
        have E : Hid (usesE ops = 1 ∧ usesL ops = []) := Lib.hid (by have q := NS.out (by rw [PN.out]; rfl); unfold usesE usesL; rw [if_pos q, if_pos q]; exact ⟨rfl, rfl⟩)
        go_wp2_with fail
        go_ret2
        refine ⟨none, 0, 0, by rw [E.out.1]; rfl, ?_, FB.out⟩
        rw [E.out.2]; exact OwnR.nil _ _ _
      | false =>
        go_wp2_with fail
        refine L2.out.mono ?_
        rintro e w2 ⟨rfl, rfl⟩
        cases b2 with
        | true =>
          have E : Hid (usesE ops = 1 ∧ usesL ops = []) := Lib.hid (by have q := NS.out (by rw [PN.out]; rfl); unfold usesE usesL; rw [if_pos q, if_pos q]; exact ⟨rfl, rfl⟩)
          go_wp2_with fail
          go_ret2
          refine ⟨none, 0, 0, by rw [E.out.1]; rfl, ?_, FB.out⟩
          rw [E.out.2]; exact OwnR.nil _ _ _
        | false =>
          have PO : Hid ((∀ x ∈ xr, 0 ≤ x.v ∧ x.v ≤ 9223372036854775807) ∧ (∀ x ∈ xl, 0 ≤ x.v ∧ x.v ≤ 9223372036854775807)) := Lib.hid ⟨fun x hx => ⟨by
              have q := HB.out.1.symm
              rw [List.any_eq_false] at q
              have q2 : ¬ decide (x.v < 0) = true := q x hx
              simpa using q2, (FI.out.1 x hx).2.2⟩, fun x hx => ⟨by
              have q := HB.out.2.symm
              rw [List.any_eq_false] at q
              have q2 : ¬ decide (x.v < 0) = true := q x hx
              simpa using q2, (FI.out.2 x hx).2.2⟩⟩
          have EP : Hid (∀ e ∈ tkEs ops i, 0 ≤ e.2 ∧ e.2 ≤ 9223372036854775807) := Lib.hid (fun e he => ⟨ob_pos (neg_pos R.out.2.2.1) e he, by
            rcases List.mem_cons.1 he with rfl | q
            · show (1000 : Int) ≤ _; decide
            · obtain ⟨p, hp, hq⟩ := List.mem_flatMap.1 q
              have f := HZ.out.s p (List.mem_of_mem_take hp)
              rcases List.mem_append.1 hq with q | q
              · exact pre_le (fun x hx => (f.1 x hx).2.2) e q
              · exact pre_le (fun x hx => (f.2 x hx).2.2) e q⟩)
          have A1 : Hid (Calls Tryd.prog 40 #[.slice a' m c, .slice ra rn rc, .string ⟨#[114, 101, 113, 117, 101, 115, 116, 115, 46]⟩] w2 fun e w' => ∃ a n c, e = .returned (.slice a n c) ∧ OwnR kRw X.heap.size w' (.slice a n c) (rws (tkEs ops i ++ pre tReq xr)) ∧ Below X.heap.size X w') := Lib.hid
            (refAdd_any _ _ (tkEs ops i) xr tReq X w2 R.out.2.2.2 R.out.2.1 RR.out.1 PO.out.1 EP.out (fun x hx => by have := (FI.out.1 x hx).1; have e : tReq.size = 9 := rfl; omega) (by have := TL.out; omega))
          clear L1 L2
          go_wp2_with fail
          refine A1.out.mono ?_
          rintro e w3 ⟨a3, m3, c3, rfl, ho3, hb3⟩
          have Z3 : Hid (OwnR kRw X.heap.size w3 (.slice a3 m3 c3) (rws (tkEs ops i ++ pre tReq xr)) ∧ Below X.heap.size X w3) := Lib.hid ⟨ho3, hb3⟩
          have k5' := KC.out w3 hb3
          obtain ⟨d1', d2'⟩ := CC.out w3 hb3
          clear ho3 hb3 A1 d1 d2 k5
          have A2 : Hid (Calls Tryd.prog 40 #[.slice a3 m3 c3, .slice sa sn sc, .string ⟨#[108, 105, 109, 105, 116, 115, 46]⟩] w3 fun e w' => ∃ a n c, e = .returned (.slice a n c) ∧ OwnR kRw X.heap.size w' (.slice a n c) (rws (tkEs ops (i + 1))) ∧ Below X.heap.size X w') := Lib.hid (by
            rw [ST.out]
            exact refAdd_any _ _ (tkEs ops i ++ pre tReq xr) xl tLim X w3 Z3.out.2 Z3.out.1 RR.out.2 PO.out.2 (fun e he => (List.mem_append.1 he).elim (EP.out e) (fun q => ⟨pre_pos (fun x hx => (PO.out.1 x hx).1) e q, pre_le (fun x hx => (PO.out.1 x hx).2) e q⟩)) (fun x hx => by have := (FI.out.2 x hx).1; have e : tLim.size = 7 := rfl; omega) (by have := TL.out; simp only [List.length_append, pre, List.length_map]; omega))
          go_wp2_with fail
          refine A2.out.mono ?_
          rintro e w4 ⟨a4, m4, c4, rfl, ho4, hb4⟩
          have Z4 : Hid (OwnR kRw X.heap.size w4 (.slice a4 m4 c4) (rws (tkEs ops (i + 1))) ∧ Below X.heap.size X w4) := Lib.hid ⟨ho4, hb4⟩
          clear ho4 hb4 A2
          go_wp2_with fail
          go_roundg (pn - (i + 1))
          case measure => have := R.out.1; omega
          case rel => exact ⟨i + 1, a4, m4, c4, by omega, rfl, by go_num, rfl, Z4.out.1, by rw [NT.out, R.out.2.2.1, PN.out]; rfl, Z4.out.2⟩
    · have EN : Hid (onegB ops = false ∧ tkEs ops i = obEs ops) := Lib.hid (by
        have e : ops.take i = ops := List.take_of_length_le (by rw [← HN.out]; omega)
        exact ⟨by have := R.out.2.2.1; rw [e] at this; exact this, by unfold tkEs; rw [e]⟩)
      have R0 : Hid (OwnR kRw X.heap.size wr (.slice a' m c) (rws (obEs ops)) ∧ Below X.heap.size X wr) := Lib.hid ⟨by have := R.out.2.1; rw [EN.out.2] at this; exact this, R.out.2.2.2⟩
      clear R
      go_wp2_with fail
      obtain ⟨es, hes⟩ : ∃ es, es = obEs ops := ⟨_, rfl⟩
      have ES : Hid (es = obEs ops ∧ (∀ e ∈ es, 0 ≤ e.2) ∧ es.length ≤ 4000000) := Lib.hid ⟨hes, by rw [hes]; exact ob_pos (neg_pos EN.out.1), by rw [hes]; exact HZ.out.n⟩
      rw [← hes] at R0
      obtain ⟨W0, hW0⟩ : ∃ W, W = wr := ⟨_, rfl⟩
      rw [← hW0] at R0 ⊢
      have LM : Hid ((nmF es).length = m) := Lib.hid (by obtain ⟨_, _, e⟩ := R0.out.1.slice; simp only [Value.slice.injEq] at e; rw [← rws_len]; exact e.2.1.symm)
      have bm : m ≤ 4000000 := by rw [← LM.out]; exact Nat.le_trans (nmF_len es) ES.out.2.2
      have hmc : m ≤ c ∧ c ≤ 9223372036854775807 := by
        obtain ⟨_, _, e1, q1, q2⟩ := (R0.out.1.row okRw).len
        simp only [Value.slice.injEq] at e1
        unfold maxLen at q2
        rw [← e1.2.2] at q1 q2
        rw [rws_len, LM.out] at q1
        exact ⟨q1, q2⟩
      obtain ⟨hmc1, hmc2⟩ := hmc
      have FW : Hid (Below w.heap.size w W0) := Lib.hid (BX.out.trans (R0.out.2.mono BX.out.size))
      clear hes hW0 k5
      go_loopg [6, 7] m (fun g so si wr => ∃ (k : Nat) (oa : Option Addr) (n oc : Nat) (N : List (List UInt8)), k ≤ m ∧ g = m - k ∧ si = .int .i64 k ∧ so = .slice oa n oc ∧ OwnR kAm W0.heap.size wr (.slice oa n oc) (N.map (fAm es)) ∧ N.Perm ((nmF es).take k) ∧ N.Pairwise (fun x y => x ≤ y) ∧ (∀ x ∈ (nmF es).take k, ¬ maxA < Tot es x) ∧ Below W0.heap.size W0 wr)
      case atStart => exact ⟨0, none, 0, 0, [], Nat.zero_le _, rfl, rfl, rfl, OwnR.nil _ _ _, by simp, List.Pairwise.nil, by simp, Below.refl _ _⟩
      case round =>
        obtain ⟨k, oa, n, oc, N, hk, hg, rfl, rfl, ho, hpm, hso, hno, hb⟩ := hrel
        have R : Hid (gk = m - k ∧ OwnR kAm W0.heap.size wr (.slice oa n oc) (N.map (fAm es)) ∧ N.Perm ((nmF es).take k) ∧ N.Pairwise (fun x y => x ≤ y) ∧ (∀ x ∈ (nmF es).take k, ¬ maxA < Tot es x) ∧ Below W0.heap.size W0 wr) := Lib.hid ⟨hg, ho, hpm, hso, hno, hb⟩
        have NL : Hid (n = N.length) := Lib.hid (by obtain ⟨_, _, e⟩ := ho.slice; simp only [Value.slice.injEq, List.length_map] at e; exact e.2.1)
        clear hg ho hpm hso hno hb
        by_cases hltk : k < m
        · have hltk' : (k : Int) < (m : Int) := by omega
          have KL : Hid (k < (nmF es).length) := Lib.hid (by rw [LM.out]; exact hltk)
          have NK : Hid (N.length = k) := Lib.hid (by rw [R.out.2.2.1.length_eq, List.length_take, LM.out]; omega)
          obtain ⟨gb, goff, rfl, hcc⟩ := ((R0.out.1.row okRw).below R.out.2.2.2.2.2).at k (by rw [rws_len]; exact KL.out)
          rw [show kRw.z = rwZ from rfl, rws_at es k KL.out] at hcc
          have TK := Lib.hid (take_onez (nmF es) k [] KL.out)
          obtain ⟨nk, hnk⟩ : ∃ nk, nk = (nmF es).getD k [] := ⟨_, rfl⟩
          rw [← hnk] at hcc TK
          obtain ⟨nm, hnm⟩ : ∃ nm : ByteArray, nm = ⟨nk.toArray⟩ := ⟨_, rfl⟩
          obtain ⟨T, hT⟩ : ∃ T, T = Tot es nk := ⟨_, rfl⟩
          obtain ⟨hh, hhh⟩ : ∃ y, y = T / HH := ⟨_, rfl⟩
          obtain ⟨ll, hll⟩ : ∃ y, y = T % HH := ⟨_, rfl⟩
          have c0 : wr.cell? ⟨gb, goff + k * 3, none⟩ = some (.string nm) := by rw [hnm]; exact hcc 0 _ rfl
          have c1 : wr.cell? ⟨gb, goff + k * 3 + 1, none⟩ = some (.int .i64 hh) := by rw [hhh, hT]; exact hcc 1 _ rfl
          have c2 : wr.cell? ⟨gb, goff + k * 3 + 2, none⟩ = some (.int .i64 ll) := by rw [hll, hT]; exact hcc 2 _ rfl
          have HT : Hid (T = Tot es nk ∧ hh = T / HH ∧ ll = T % HH ∧ nm = ⟨nk.toArray⟩ ∧ 0 ≤ T) := Lib.hid ⟨hT, hhh, hll, hnm, by rw [hT]; exact Tot_pos ES.out.2.1 nk⟩
          have ND : Hid (nk ∉ (nmF es).take k) := Lib.hid (by
            intro q
            obtain ⟨i0, hi0, e0⟩ := List.getElem_of_mem q
            rw [List.length_take] at hi0
            rw [List.getElem_take] at e0
            have q2 := nmF_inj es (i := i0) (j := k) (by have := KL.out; omega) KL.out (by rw [getD_ge _ _ _ (by have := KL.out; omega), e0, hnk])
            omega)
          clear hcc hnk hnm hT hhh hll
          by_cases hov : 2147483648 ≤ hh
          · have go : decide (hh ≥ 2147483648) = true := decide_eq_true hov
            have E : Hid (usesE ops = 7 ∧ usesL ops = []) := Lib.hid (by
              have q : Ov (obEs ops) := by
                rw [← ES.out.1]
                refine ⟨nk, ?_⟩
                rw [← HT.out.1]
                exact (half_over T).1 (by rw [← HT.out.2.1]; exact hov)
              unfold usesE usesL; rw [EN.out.1, if_neg (by decide), if_pos q, if_neg (by decide), if_pos q]; exact ⟨rfl, rfl⟩)
            clear c0 c2
            go_wp2_with fail
            go_ret2
            refine ⟨none, 0, 0, by rw [E.out.1]; rfl, ?_, FW.out.trans (R.out.2.2.2.2.2.mono FW.out.size)⟩
            rw [E.out.2]; exact OwnR.nil _ _ _
          · have go : decide (hh ≥ 2147483648) = false := decide_eq_false hov
            have hb4 : 0 ≤ hh ∧ hh < 2147483648 ∧ 0 ≤ ll ∧ ll < 4294967296 := by
              have q := HT.out
              rw [q.2.2.1]
              have h1 := q.2.1
              have h2 := q.2.2.2.2
              unfold HH at *
              omega
            obtain ⟨hb5, hb6, hb7, hb8⟩ := hb4
            have NO : Hid (∀ x ∈ (nmF es).take (k + 1), ¬ maxA < Tot es x) := Lib.hid (by
              rw [TK.out]
              intro x hx
              rcases List.mem_append.1 hx with q | q
              · exact R.out.2.2.2.2.1 x q
              · simp only [List.mem_singleton] at q
                rw [q, ← HT.out.1]
                intro c
                have q2 := (half_over T).2 c
                rw [← HT.out.2.1] at q2
                omega)
            have WRT : Hid (IntKind.i64.wrap (IntKind.i64.wrap (hh * 4294967296) + ll) = T) := Lib.hid (by
              rw [wrap_in (x := hh * 4294967296) (by omega) (by omega), wrap_in (by omega) (by omega), HT.out.2.1, HT.out.2.2.1]
              exact half_val T)
            have a0 := fun ob => cell_al c0 ob
            have a1 := fun ob => cell_al c1 ob
            have a2 := fun ob => cell_al c2 ob
            clear hov
            go_wp2_with fail
            go_cut [8] (fun s8 wx => s8 = .pointer (some ⟨wr.heap.size, 0, none⟩) ∧ wx = (wr.alloc (.cells #[.string nm, .int .i64 T] 36)).drew)
            case first =>
              go_region_law (fail)
              all_goals
                rw [WRT.out]
                go_wp2_with fail
                go_meet
                exact ⟨rfl, rfl⟩
            case rest =>
              obtain ⟨rfl, hwc⟩ := hcut
              have B1 : Hid (Below wr.heap.size wr wc ∧ wc.heap.size = wr.heap.size + 1 ∧ wc.heap[wr.heap.size]? = some (.cells #[.string nm, .int .i64 T] 36 (0, 0))) := Lib.hid (by
                have q := (below_alR wr).out (.cells #[.string nm, .int .i64 T] 36)
                have d := below_drawn (wr.alloc (.cells #[.string nm, .int .i64 T] 36)) 1
                rw [hwc]
                refine ⟨q.trans (d.mono q.size), by simp, ?_⟩
                exact heap_alloc_new wr (.cells #[.string nm, .int .i64 T] 36))
              have ea0 : wc.cell? ⟨wr.heap.size, 0, none⟩ = some (.string nm) := cell_of_row wc _ 0 _ _ _ B1.out.2.2
              have ea1 : wc.cell? ⟨wr.heap.size, 1, none⟩ = some (.int .i64 T) := cell_of_row wc _ 1 _ _ _ B1.out.2.2
              have OW : Hid (OwnR kAm W0.heap.size wc (.slice oa n oc) (N.map (fAm es))) := Lib.hid (R.out.2.1.below B1.out.1)
              have LN : Hid (((N.map (fAm es)).length + 1) * kAm.b ≤ 140737488355328) := Lib.hid (by rw [List.length_map, NK.out]; show (k + 1) * 24 ≤ _; omega)
              have WZ : Hid (W0.heap.size ≤ wc.heap.size) := Lib.hid (Nat.le_trans R.out.2.2.2.2.2.size B1.out.1.size)
              obtain ⟨ga, hga⟩ : ∃ ga, ga = wr.heap.size := ⟨_, rfl⟩
              have GA : Hid (ga = wr.heap.size ∧ ga < wc.heap.size) := Lib.hid ⟨hga, by rw [B1.out.2.1, hga]; omega⟩
              rw [← hga] at ea0 ea1 B1 ⊢
              clear hwc hga a0 a1 a2 c0 c1 c2
              go_wp2_with (at_builtin; refine app_rowC okAm (gg := wc.heap.size) rfl _ _ rfl rfl OW.out WZ.out ⟨nm, T⟩ (by simp) rfl rfl LN.out ?_; intro v' w' h1 h2 h3; obtain ⟨g2, c2, e2, hg2⟩ := own_slice1 (n := k + 1) h1 (by rw [List.length_append, List.length_map, NK.out]; rfl) (by omega); subst e2)
              have NG : Hid (g2 ≠ ga) := Lib.hid (by
                intro e
                rcases h3 with q | q
                · have q2 := R.out.2.1.lt g2 q.symm
                  have := GA.out.1
                  omega
                · simp only [Value.ownBlock, Option.some.injEq] at q
                  have := GA.out.2
                  omega)
              have W1 : Hid (OwnR kAm W0.heap.size w' (.slice (some ⟨g2, 0, none⟩) (k + 1) c2) ((insAt N nk k).map (fAm es)) ∧ Below W0.heap.size W0 w' ∧ w'.cell? ⟨ga, 0, none⟩ = some (.string nm) ∧ w'.cell? ⟨ga, 1, none⟩ = some (.int .i64 T)) := Lib.hid (by
                have bl : Below W0.heap.size W0 wc := R.out.2.2.2.2.2.trans (B1.out.1.mono (by rw [GA.out.1]; exact R.out.2.2.2.2.2.size))
                have nr : some ga ≠ (Value.slice oa n oc).ownBlock := fun e => by
                  have q2 := R.out.2.1.lt ga e.symm
                  have := GA.out.1
                  omega
                refine ⟨?_, bl.trans (grown_belowR h2 OW.out WZ.out), h2.cell ea0 nr, h2.cell ea1 nr⟩
                have e1 : (insAt N nk k).map (fAm es) = N.map (fAm es) ++ [(⟨nm, T⟩ : Am)] := by
                  rw [← NK.out, insAt_end, List.map_append]
                  congr 1
                  show [(⟨⟨nk.toArray⟩, Tot es nk⟩ : Am)] = _
                  rw [← HT.out.1, ← HT.out.2.2.2.1]
                rw [e1]; exact h1)
              have hc2 : k + 1 ≤ c2 ∧ c2 ≤ 9223372036854775807 := by
                obtain ⟨_, _, e1, q1, q2⟩ := (h1.row okAm).len
                simp only [Value.slice.injEq] at e1
                unfold maxLen at q2
                rw [← e1.2.2] at q1 q2
                rw [← e1.2.1] at q1
                exact ⟨q1, q2⟩
              obtain ⟨hc3, hc4⟩ := hc2
              clear h1 h2 h3 OW ea0 ea1 LN WZ
              go_loopg [9] k (fun g0 sj wq => ∃ (j : Nat), j ≤ k ∧ g0 = j ∧ sj = .int .i64 j ∧ OwnR kAm W0.heap.size wq (.slice (some ⟨g2, 0, none⟩) (k + 1) c2) ((insAt N nk j).map (fAm es)) ∧ (∀ i, j ≤ i → i < k → nk < N.getD i []) ∧ Below W0.heap.size W0 wq ∧ wq.cell? ⟨ga, 0, none⟩ = some (.string nm) ∧ wq.cell? ⟨ga, 1, none⟩ = some (.int .i64 T))
              case atStart => exact ⟨k, Nat.le_refl _, rfl, rfl, W1.out.1, fun i h1 h2 => by omega, W1.out.2.1, W1.out.2.2.1, W1.out.2.2.2⟩
              case round =>
                obtain ⟨j, hj, hgj, rfl, hoj, hgt, hbj, z0, z1⟩ := hrel
                have RS : Hid (gk = j ∧ OwnR kAm W0.heap.size wr (.slice (some ⟨g2, 0, none⟩) (k + 1) c2) ((insAt N nk j).map (fAm es)) ∧ (∀ i, j ≤ i → i < k → nk < N.getD i []) ∧ Below W0.heap.size W0 wr ∧ j ≤ k) := Lib.hid ⟨hgj, hoj, hgt, hbj, hj⟩
                clear hgj hoj hgt hbj W1 B1 GA
                rcases Nat.eq_zero_or_pos j with hj0 | hj0
                · subst hj0
                  have e0 : ((0 : Nat) : Int) = 0 := rfl
                  rw [e0]
                  clear e0
                  have r0 := reg z0
                  go_wp2_with fail
                  refine wp_region_quiet_below (by kernel_rfl) (by kernel_rfl) ?_
                  repeat (go_big_quiet_step (fail))
                  refine wpQuiet_nil ?_
                  rintro _ ⟨⟨dq, osq⟩, hw''⟩
                  subst hw''
                  have QB := below_regrown wr dq osq
                  obtain ⟨W5, hW5⟩ : ∃ W, W = grow (redrawn wr dq) osq := ⟨_, rfl⟩
                  rw [← hW5] at QB ⊢
                  have S5 : Hid (OwnR kAm W0.heap.size W5 (.slice (some ⟨g2, 0, none⟩) (k + 1) c2) ((insAt N nk 0).map (fAm es)) ∧ Below W0.heap.size W0 W5 ∧ W5.cell? ⟨ga, 0, none⟩ = some (.string nm) ∧ W5.cell? ⟨ga, 1, none⟩ = some (.int .i64 T)) := Lib.hid ⟨RS.out.2.1.below QB, RS.out.2.2.2.1.trans (QB.mono RS.out.2.2.2.1.size), (QB.cell (block_lt_of_cell z0)).trans z0, (QB.cell (block_lt_of_cell z1)).trans z1⟩
                  clear hW5 QB r0 z0 z1
                  have FN : Hid ((insAt N nk 0).Perm ((nmF es).take (k + 1)) ∧ (insAt N nk 0).Pairwise (fun x y => x ≤ y)) := Lib.hid ⟨(insAt_perm N nk 0).trans (by rw [TK.out]; exact R.out.2.2.1.append_right _), insAt_sorted N nk 0 (by rw [NK.out]; omega) R.out.2.2.2.1 (fun i h => by omega) (fun i h1 h2 => RS.out.2.2.1 i h1 (by rw [← NK.out]; exact h2))⟩
                  go_wp2_with fail
                  go_roundg (m - (k + 1))
                  case measure => have := R.out.1; omega
                  case rel => exact ⟨k + 1, some ⟨g2, 0, none⟩, k + 1, c2, insAt N nk 0, by omega, rfl, by go_num, rfl, S5.out.1, FN.out.1, FN.out.2, NO.out, S5.out.2.1⟩
                · obtain ⟨i, rfl⟩ : ∃ i, j = i + 1 := ⟨j - 1, by omega⟩
                  have IN : Hid (i < N.length) := Lib.hid (by rw [NK.out]; omega)
                  have LX : Hid (((insAt N nk (i + 1)).map (fAm es)).getD i kAm.z = fAm es (N.getD i [])) := Lib.hid (by
                    have hl : i < (insAt N nk (i + 1)).length := by rw [insAt_len _ _ _ (by have := IN.out; omega)]; have := IN.out; omega
                    rw [List.getD_eq_getElem?_getD, List.getElem?_map, List.getElem?_eq_getElem hl]
                    have q := insAt_get N nk [] i IN.out
                    rw [List.getD_eq_getElem?_getD, List.getElem?_eq_getElem hl] at q
                    simp only [Option.getD_some] at q
                    simp only [Option.map_some, Option.getD_some]
                    rw [q])
                  have CI : Hid (∀ W, OwnR kAm W0.heap.size W (.slice (some ⟨g2, 0, none⟩) (k + 1) c2) ((insAt N nk (i + 1)).map (fAm es)) → W.cell? ⟨g2, i * 2, none⟩ = some (.string ⟨(N.getD i []).toArray⟩) ∧ W.cell? ⟨g2, i * 2 + 1, none⟩ = some (.int .i64 (Tot es (N.getD i [])))) := Lib.hid fun W hW => by
                    obtain ⟨b', off', e', hcc⟩ := (hW.row okAm).at i (by rw [List.length_map, insAt_len _ _ _ (by have := IN.out; omega)]; have := IN.out; omega)
                    simp only [Option.some.injEq, Addr.mk.injEq, and_true] at e'
                    obtain ⟨rfl, rfl⟩ := e'
                    rw [LX.out] at hcc
                    have t0 := hcc 0 _ rfl
                    have t1 := hcc 1 _ rfl
                    rw [Nat.zero_add] at t0 t1
                    exact ⟨t0, t1⟩
                  obtain ⟨q0, -⟩ := CI.out wr RS.out.2.1
                  obtain ⟨ni, hni⟩ : ∃ ni : ByteArray, ni = ⟨(N.getD i []).toArray⟩ := ⟨_, rfl⟩
                  have BL : Hid (Op.bytesLess ni.toList nm.toList = decide (N.getD i [] < nk) ∧ (ni.toList == nm.toList) = false) := Lib.hid (by
                    refine ⟨by rw [Go.Proofs.bytesLess_eq, list_of_bytes, list_of_bytes, hni, HT.out.2.2.2.1], ?_⟩
                    rw [list_of_bytes, list_of_bytes, hni, HT.out.2.2.2.1, beq_eq_false_iff_ne]
                    intro e
                    exact ND.out (R.out.2.2.1.mem_iff.1 (by rw [← show N.getD i [] = nk from by simpa using e]; exact getD_in IN.out)))
                  have gq := BL.out.2
                  rw [← hni] at q0
                  have NI := Lib.hid hni
                  have r0 := reg z0
                  have r1 := reg q0
                  have hij : (i : Int) < (k : Int) + 1 := by omega
                  clear hni q0
                  by_cases hlt2 : nk < N.getD i []
                  · have ge : Op.bytesLess ni.toList nm.toList = false := by rw [BL.out.1]; exact decide_eq_false (fun q => List.lt_irrefl _ (List.lt_trans q hlt2))
                    have HL := Lib.hid hlt2
                    clear hlt2
                    go_wp2_with fail
                    refine wp_region_quiet_below (by kernel_rfl) (by kernel_rfl) ?_
                    repeat (go_big_quiet_step (fail))
                    refine wpQuiet_nil ?_
                    rintro _ ⟨⟨dq, osq⟩, hw''⟩
                    subst hw''
                    have QB := below_regrown wr dq osq
                    obtain ⟨W5, hW5⟩ : ∃ W, W = grow (redrawn wr dq) osq := ⟨_, rfl⟩
                    rw [← hW5] at QB ⊢
                    have S5 : Hid (OwnR kAm W0.heap.size W5 (.slice (some ⟨g2, 0, none⟩) (k + 1) c2) ((insAt N nk (i + 1)).map (fAm es)) ∧ Below W0.heap.size W0 W5 ∧ W5.cell? ⟨ga, 0, none⟩ = some (.string nm) ∧ W5.cell? ⟨ga, 1, none⟩ = some (.int .i64 T)) := Lib.hid ⟨RS.out.2.1.below QB, RS.out.2.2.2.1.trans (QB.mono RS.out.2.2.2.1.size), (QB.cell (block_lt_of_cell z0)).trans z0, (QB.cell (block_lt_of_cell z1)).trans z1⟩
                    clear hW5 QB r0 r1 z0 z1
                    obtain ⟨t0, t1⟩ := CI.out W5 S5.out.1
                    rw [← NI.out] at t0
                    obtain ⟨ti, hti⟩ : ∃ t, t = Tot es (N.getD i []) := ⟨_, rfl⟩
                    rw [← hti] at t1
                    have TI := Lib.hid hti
                    clear hti
                    have SL : Hid (((insAt N nk (i + 1)).map (fAm es)).length = k + 1) := Lib.hid (by rw [List.length_map, insAt_len _ _ _ (by have := IN.out; omega), NK.out])
                    have Z0 := Lib.hid (And.intro S5.out.2.2.1 S5.out.2.2.2)
                    have hik : (i : Int) + 1 < (k : Int) + 1 := by omega
                    have M1 : True := trivial
                    go_wp2_with (first
                      | (refine store_am (i := i + 1) (j := (i + 1) * 2) rfl (.tmp 110) (.tmp 109) rfl S5.out.1 (by rw [SL.out]; omega) ⟨ni, ti⟩ rfl rfl rfl ?_; intro W6 h6 g6; clear M1
                         have x0 : W6.cell? ⟨ga, 0, none⟩ = some (.string nm) := g6.cell Z0.out.1 (fun e => NG.out (by injection e with e; exact e.symm))
                         have x1 : W6.cell? ⟨ga, 1, none⟩ = some (.int .i64 T) := g6.cell Z0.out.2 (fun e => NG.out (by injection e with e; exact e.symm))
                         have S6 : Hid (OwnR kAm W0.heap.size W6 (.slice (some ⟨g2, 0, none⟩) (k + 1) c2) (((insAt N nk (i + 1)).map (fAm es)).set (i + 1) ⟨ni, ti⟩) ∧ Below W0.heap.size W0 W6) := Lib.hid ⟨h6, S5.out.2.1.grown g6 S5.out.2.1.size (fun q hq => by cases hq; exact hg2)⟩
                         clear h6 g6)
                      | (refine store_am (i := i) (j := i * 2) rfl (.tmp 115) (.tmp 114) rfl S6.out.1 (by rw [List.length_set, SL.out]; omega) ⟨nm, T⟩ rfl rfl rfl ?_; intro W7 h7 g7
                         have x2 : Hid (W7.cell? ⟨ga, 0, none⟩ = some (.string nm) ∧ W7.cell? ⟨ga, 1, none⟩ = some (.int .i64 T)) := Lib.hid ⟨g7.cell x0 (fun e => NG.out (by injection e with e; exact e.symm)), g7.cell x1 (fun e => NG.out (by injection e with e; exact e.symm))⟩
                         have S7 : Hid (OwnR kAm W0.heap.size W7 (.slice (some ⟨g2, 0, none⟩) (k + 1) c2) ((((insAt N nk (i + 1)).map (fAm es)).set (i + 1) ⟨ni, ti⟩).set i ⟨nm, T⟩) ∧ Below W0.heap.size W0 W7) := Lib.hid ⟨h7, S6.out.2.grown g7 S6.out.2.size (fun q hq => by cases hq; exact hg2)⟩
                         clear h7 g7 x0 x1))
                    have S8 : Hid (OwnR kAm W0.heap.size W7 (.slice (some ⟨g2, 0, none⟩) (k + 1) c2) ((insAt N nk i).map (fAm es))) := Lib.hid (by
                      have q := S7.out.1
                      have e1 : (⟨ni, ti⟩ : Am) = (N.map (fAm es)).getD i kAm.z := by
                        rw [List.getD_eq_getElem?_getD, List.getElem?_map, List.getElem?_eq_getElem IN.out, NI.out, TI.out, getD_ge _ _ _ IN.out]; rfl
                      have e2 : (⟨nm, T⟩ : Am) = fAm es nk := by unfold fAm; rw [HT.out.2.2.2.1, HT.out.1]
                      rw [e1, e2, insAt_map, insAt_step _ _ _ _ (by rw [List.length_map]; exact IN.out), ← insAt_map] at q
                      exact q)
                    clear t0 t1
                    go_wp2_with fail
                    go_roundg i
                    case measure => have := RS.out.1; omega
                    case rel => exact ⟨i, by omega, rfl, by go_num, S8.out, (fun q h1 h2 => by
                      rcases Nat.lt_or_ge i q with h | h
                      · exact RS.out.2.2.1 q (by omega) h2
                      · have e : q = i := by omega
                        rw [e]; exact HL.out), S7.out.2, x2.out.1, x2.out.2⟩
                  · have ge : Op.bytesLess ni.toList nm.toList = true := by
                      rw [BL.out.1]
                      refine decide_eq_true (Classical.byContradiction fun q => ?_)
                      have e := List.le_antisymm (List.not_lt.1 hlt2) (List.not_lt.1 q)
                      exact ND.out (R.out.2.2.1.mem_iff.1 (by rw [← e]; exact getD_in IN.out))
                    have HL := Lib.hid hlt2
                    clear hlt2
                    go_wp2_with fail
                    refine wp_region_quiet_below (by kernel_rfl) (by kernel_rfl) ?_
                    repeat (go_big_quiet_step (fail))
                    refine wpQuiet_nil ?_
                    rintro _ ⟨⟨dq, osq⟩, hw''⟩
                    subst hw''
                    have QB := below_regrown wr dq osq
                    obtain ⟨W5, hW5⟩ : ∃ W, W = grow (redrawn wr dq) osq := ⟨_, rfl⟩
                    rw [← hW5] at QB ⊢
                    have S5 : Hid (OwnR kAm W0.heap.size W5 (.slice (some ⟨g2, 0, none⟩) (k + 1) c2) ((insAt N nk (i + 1)).map (fAm es)) ∧ Below W0.heap.size W0 W5 ∧ W5.cell? ⟨ga, 0, none⟩ = some (.string nm) ∧ W5.cell? ⟨ga, 1, none⟩ = some (.int .i64 T)) := Lib.hid ⟨RS.out.2.1.below QB, RS.out.2.2.2.1.trans (QB.mono RS.out.2.2.2.1.size), (QB.cell (block_lt_of_cell z0)).trans z0, (QB.cell (block_lt_of_cell z1)).trans z1⟩
                    clear hW5 QB r0 r1 z0 z1
                    have FN : Hid ((insAt N nk (i + 1)).Perm ((nmF es).take (k + 1)) ∧ (insAt N nk (i + 1)).Pairwise (fun x y => x ≤ y)) := Lib.hid ⟨(insAt_perm N nk (i + 1)).trans (by rw [TK.out]; exact R.out.2.2.1.append_right _), insAt_sorted N nk (i + 1) (by rw [NK.out]; omega) R.out.2.2.2.1 (left_of HL.out) (fun i h1 h2 => RS.out.2.2.1 i h1 (by rw [← NK.out]; exact h2))⟩
                    go_wp2_with fail
                    go_roundg (m - (k + 1))
                    case measure => have := R.out.1; omega
                    case rel => exact ⟨k + 1, some ⟨g2, 0, none⟩, k + 1, c2, insAt N nk (i + 1), by omega, rfl, by go_num, rfl, S5.out.1, FN.out.1, FN.out.2, NO.out, S5.out.2.1⟩
        · have EK : k = m := by omega
          have FN : Hid (N = nmsOf (obEs ops) ∧ ¬ Ov (obEs ops)) := Lib.hid (by
            have et : (nmF es).take k = nmF es := List.take_of_length_le (by rw [LM.out, EK]; exact Nat.le_refl _)
            have q1 := R.out.2.2.1
            have q2 := R.out.2.2.2.2.1
            rw [et] at q1 q2
            rw [← ES.out.1]
            refine ⟨nmF_sort q1 R.out.2.2.2.1, ?_⟩
            rintro ⟨y, hy⟩
            by_cases hin : y ∈ nmF es
            · exact q2 y hin hy
            · rw [Tot_none (fun q => hin ((mem_nmF _ _).2 q))] at hy
              unfold maxA at hy
              omega)
          have E : Hid (usesE ops = 0 ∧ usesL ops = N.map (fAm es)) := Lib.hid (by
            unfold usesE usesL
            rw [EN.out.1, if_neg (by decide), if_neg FN.out.2, if_neg (by decide), if_neg FN.out.2]
            refine ⟨rfl, ?_⟩
            unfold outL
            rw [FN.out.1, ES.out.1]
            rfl)
          clear EK
          go_wp2_with fail
          go_ret2
          refine ⟨oa, n, oc, by rw [E.out.1]; rfl, ?_, FW.out.trans (R.out.2.2.2.2.2.mono FW.out.size)⟩
          rw [E.out.2]
          exact R.out.2.1.mono FW.out.size
end Go.Proofs.YtibjmmfodelhjaaDoor
