/-
  seeming: of bytes that say that they are a leaf's.
-/
import Derived.Test.YtmoghdpjemidgaaPgM
import Derived.Test.YtmoghdpjemidgaaPgT
namespace Go.Proofs.Ytmoghdpjemidgaa
open Go.RowKit Go.Maps
def sub (b : List UInt8) (a n : Nat) : List UInt8 := (b.drop a).take n
/-- The leaf that bytes seem to be. -/
def seL (b : List UInt8) : Nd := ⟨1, (rdL (leN (sub b 2 2) + 1) (leN (sub b 2 2)) [] [] (b.drop 8)).1, (rdL (leN (sub b 2 2) + 1) (leN (sub b 2 2)) [] [] (b.drop 8)).2, [], [], 0, ⟨#[]⟩⟩
theorem size_reader : (Try.prog.info? 64).map (·.size) = some 1 := by kernel_rfl
theorem leN2_lt (l : List UInt8) : leN (l.take 2) < 65536 := by
  have h := leN_lt (l.take 2)
  have h2 : (l.take 2).length ≤ 2 := by rw [List.length_take]; omega
  exact Nat.lt_of_lt_of_le h (Nat.le_trans (Nat.pow_le_pow_right (by decide) h2) (by decide))
set_option maxHeartbeats 8000000 in
set_option maxRecDepth 100000 in
theorem seeming_leaf (bb ob cb : Nat) (b : List UInt8) (w : World) (hv : Bytes w (.slice (some ⟨bb, ob, none⟩) 512 cb) b) (hl : b.length = 512) (h1 : b.getD 1 0 = 1) :
    Calls Try.prog 26 #[.slice (some ⟨bb, ob, none⟩) 512 cb] w fun e w' => ∃ ve vc, e = .returned (.agg ((seL b).arr ⟨ve, vc, .slice none 0 0, .slice none 0 0⟩)) ∧ OwnE w.heap.size w' ve (seL b).ents ∧ OwnI w.heap.size w' vc (seL b).chs ∧ (∀ g, ve.ownBlock = some g → vc.ownBlock ≠ some g) ∧ Below w.heap.size w w' := by
  have V := Lib.hid hv
  have HL := Lib.hid hl
  have hcb : 512 ≤ cb ∧ cb ≤ 9223372036854775807 := by
    obtain ⟨a2, c2, e, q1, q2, _⟩ := hv
    simp only [Value.slice.injEq] at e
    unfold maxLen at q2
    rw [e.2.2]
    omega
  obtain ⟨hcb1, hcb2⟩ := hcb
  have hb' : Bytes w (.slice (some ⟨bb, ob, none⟩) b.length cb) b := by rw [hl]; exact hv
  have c1 : w.cell? ⟨bb, ob + 1, none⟩ = some (.int .u8 1) := by
    obtain ⟨a2, c2, e, _, _, _, h3⟩ := hv
    simp only [Value.slice.injEq] at e
    obtain ⟨b2, o2, e2, h4⟩ := h3 1 (by omega)
    rw [← e.1] at e2
    simp only [Option.some.injEq, Addr.mk.injEq, and_true] at e2
    rw [e2.1, e2.2, h4, h1]
    rfl
  have bbl : bb < w.heap.size := block_lt_of_cell c1
  obtain ⟨cnt, hcnt⟩ : ∃ cnt, cnt = leN (sub b 2 2) := ⟨_, rfl⟩
  have hc6 : cnt < 65536 := by rw [hcnt]; exact leN2_lt _
  obtain ⟨RR, hRR⟩ : ∃ RR, RR = rdL (cnt + 1) cnt [] [] (b.drop 8) := ⟨_, rfl⟩
  have SL : Hid (seL b = ⟨1, RR.1, RR.2, [], [], 0, ⟨#[]⟩⟩) := Lib.hid (by rw [hRR, hcnt]; rfl)
  have HR := Lib.hid hRR
  have GT : Hid (∀ W, Below w.heap.size w W → Calls Try.prog 36 #[.slice (some ⟨bb, ob + 2, none⟩) 2 (cb - 2)] W fun e w' => e = .returned (.int .i64 (cnt : Int)) ∧ w' = W) := Lib.hid (fun W hW => by
    have hd := (hb'.below hW).drop 2 (by rw [HL.out]; omega)
    rw [← List.length_drop] at hd
    have ht := hd.take 2 (by rw [List.length_drop, HL.out]; omega)
    simp only [Option.map_some, add_plain] at ht
    rw [hcnt]
    exact get_any _ _ W ht (by show ((b.drop 2).take 2).length ≤ 4; rw [List.length_take]; omega))
  have BD : Hid (Bytes w (.slice (some ⟨bb, ob + 8, none⟩) 504 (cb - 8)) (b.drop 8)) := Lib.hid (by
    have hd := hb'.drop 8 (by rw [HL.out]; omega)
    simp only [Option.map_some, add_plain, HL.out] at hd
    exact hd)
  have D8 : Hid ((b.drop 8).length = 504) := Lib.hid (by rw [List.length_drop, hl])
  obtain ⟨gs, hgs⟩ : ∃ gs, gs = w.heap.size := ⟨_, rfl⟩
  obtain ⟨X1, hX1⟩ : ∃ X1, X1 = w.alloc (.cells #[.int .i64 0, .slice none 0 0, .slice none 0 0, .slice none 0 0, .slice none 0 0, .int .i64 0, .string ⟨#[]⟩] 27) := ⟨_, rfl⟩
  obtain ⟨gn, hgn⟩ : ∃ gn, gn = X1.heap.size := ⟨_, rfl⟩
  obtain ⟨X2z, hX2z⟩ : ∃ X2z, X2z = X1.alloc (.cells #[.int .i64 0, .slice none 0 0, .slice none 0 0, .slice none 0 0, .slice none 0 0, .int .i64 0, .string ⟨#[]⟩] 27) := ⟨_, rfl⟩
  obtain ⟨X2, hX2⟩ : ∃ X2, X2 = X2z.setRow gn #[.int .i64 1, .slice none 0 0, .slice none 0 0, .slice none 0 0, .slice none 0 0, .int .i64 0, .string ⟨#[]⟩] := ⟨_, rfl⟩
  obtain ⟨gr, hgr⟩ : ∃ gr, gr = X2.heap.size := ⟨_, rfl⟩
  obtain ⟨X3z, hX3z⟩ : ∃ X3z, X3z = X2.alloc (.cells #[.slice none 0 0] 64) := ⟨_, rfl⟩
  obtain ⟨X3, hX3⟩ : ∃ X3, X3 = X3z.setRow gr #[.slice (some ⟨bb, ob + 8, none⟩) 504 (cb - 8)] := ⟨_, rfl⟩
  have B1 : Below w.heap.size w X1 := by rw [hX1]; exact (Below.refl _ _).alloc (Nat.le_refl _) _
  have s1 : gn = gs + 1 := by rw [hgn, hX1, hgs]; simp
  have s2z : X2z.heap.size = gn + 1 := by rw [hX2z, hgn]; simp
  have G2z : X2z.heap[gn]? = some (.cells #[.int .i64 0, .slice none 0 0, .slice none 0 0, .slice none 0 0, .slice none 0 0, .int .i64 0, .string ⟨#[]⟩] 27 (0, 0)) := by rw [hX2z, hgn]; exact heap_alloc_new _ _
  have K2 : Kept (fun k => k = gn) X2z X2 := by rw [hX2]; exact kept_setRow _ _ _
  have G2 : X2.heap[gn]? = some (.cells #[.int .i64 1, .slice none 0 0, .slice none 0 0, .slice none 0 0, .slice none 0 0, .int .i64 0, .string ⟨#[]⟩] 27 (0, 0)) := by rw [hX2]; exact setRow_heap _ _ _ _ _ _ G2z
  have s2 : gr = gn + 1 := by rw [hgr, hX2]; simp [World.setRow, s2z]
  have B2 : Below w.heap.size w X2 := by
    have h := B1.alloc B1.size (.cells #[.int .i64 0, .slice none 0 0, .slice none 0 0, .slice none 0 0, .slice none 0 0, .int .i64 0, .string ⟨#[]⟩] 27)
    rw [← hX2z] at h
    exact h.trans (K2.below h.size (fun x hx => by omega))
  have G3z : X3z.heap[gr]? = some (.cells #[.slice none 0 0] 64 (0, 0)) := by rw [hX3z, hgr]; exact heap_alloc_new _ _
  have K3 : Kept (fun k => k = gr) X3z X3 := by rw [hX3]; exact kept_setRow _ _ _
  have G3 : X3.heap[gr]? = some (.cells #[.slice (some ⟨bb, ob + 8, none⟩) 504 (cb - 8)] 64 (0, 0)) := by rw [hX3]; exact setRow_heap _ _ _ _ _ _ G3z
  have s3z : X3z.heap.size = gr + 1 := by rw [hX3z, hgr]; simp
  have B3 : Below w.heap.size w X3 := by
    have h := B2.alloc B2.size (.cells #[.slice none 0 0] 64)
    rw [← hX3z] at h
    exact h.trans (K3.below h.size (fun x hx => by omega))
  have N3 : X3.heap[gn]? = some (.cells #[.int .i64 1, .slice none 0 0, .slice none 0 0, .slice none 0 0, .slice none 0 0, .int .i64 0, .string ⟨#[]⟩] 27 (0, 0)) := by
    rw [K3.block gn (by omega) (by omega), hX3z, Below.heap_alloc _ _ _ (by omega)]; exact G2
  have Z3 : X3.heap[gs]? = some (.cells #[.int .i64 0, .slice none 0 0, .slice none 0 0, .slice none 0 0, .slice none 0 0, .int .i64 0, .string ⟨#[]⟩] 27 (0, 0)) := by
    rw [K3.block gs (by omega) (by omega), hX3z, Below.heap_alloc _ _ _ (by omega), K2.block gs (by omega) (by omega), hX2z, Below.heap_alloc _ _ _ (by omega), hX1, hgs]; exact heap_alloc_new _ _
  have BB2 := Lib.hid B2
  have S0 : Hid (Se w X3 gs gn gr (.slice none 0 0) (.slice none 0 0) [] [] (b.drop 8) bb (ob + 8) (cb - 8)) := Lib.hid ⟨N3, Z3,
      ⟨by rw [D8.out]; exact G3, by rw [D8.out]; exact BD.out.below B3, by omega, by have := B3.size; omega⟩, World.ownsRow_nil _ _ _ _, World.ownsRow_nil _ _ _ _, ⟨by omega, by omega, by omega, bbl⟩, B3⟩
  have k1 : X1.cell? ⟨bb, ob + 1, none⟩ = some (.int .u8 1) := by rw [B1.cell (p := ⟨bb, ob + 1, none⟩) (block_lt_of_cell c1)]; exact c1
  have GZ2 := Lib.hid G2z
  have GZ3 := Lib.hid G3z
  have ON1 : Hid ((#[.int .i64 1, .slice none 0 0, .slice none 0 0, .slice none 0 0, .slice none 0 0, .int .i64 0, .string ⟨#[]⟩] : Array Value).all (·.oneCell') = true) := Lib.hid (by simp [Value.oneCell'])
  have ON2 : Hid ((#[.slice (some ⟨bb, ob + 8, none⟩) 504 (cb - 8)] : Array Value).all (·.oneCell') = true) := Lib.hid (by simp [Value.oneCell'])
  have n3 : X3.cell? ⟨gn, 0, none⟩ = some (.int .i64 1) := (node_cells S0.out.n).1
  have hgs' := hgs.symm; have hX1' := hX1.symm; have hgn' := hgn.symm; have hX2' := hX2.symm; have hX2z' := hX2z.symm; have hX3z' := hX3z.symm; have hgr' := hgr.symm; have hX3' := hX3.symm
  clear hgs hX1 hgn hX2 hX2z hX3z hgr hX3 B1 B2 B3 hb' hv hl h1 bbl hcnt hRR s1 s2 s2z s3z G2z K2 G2 G3z K3 G3 N3 Z3
  go_enter Try.func26, Try.ntmps26
  go_wp2_with (first | (go_at_call 36; refine (GT.out _ BB2.out).mono ?_; rintro e wq ⟨rfl, rfl⟩) | (refine wpList_store_row rfl 27 (.tmp 3) (.tmp 12) rfl gn #[.int .i64 1, .slice none 0 0, .slice none 0 0, .slice none 0 0, .slice none 0 0, .int .i64 0, .string ⟨#[]⟩] rfl rfl 27 #[.int .i64 0, .slice none 0 0, .slice none 0 0, .slice none 0 0, .slice none 0 0, .int .i64 0, .string ⟨#[]⟩] GZ2.out size_node rfl ON1.out ?_; rw [hX2']) | (refine wpList_store_row rfl 64 (.tmp 5) (.tmp 18) rfl gr #[.slice (some ⟨bb, ob + 8, none⟩) 504 (cb - 8)] rfl rfl 64 #[.slice none 0 0] GZ3.out size_reader rfl ON2.out ?_; rw [hX3']))
  clear hgs' hX1' hgn' hX2' hgr' hX3' hX2z' hX3z' k1 n3 c1
  go_loopg [7] cnt (fun gg s7 wr => ∃ (es : List Ent) (cs : List Int) (ve vc : Value) (l : List UInt8) (oo c : Nat), gg = cnt - es.length ∧ es.length ≤ cnt ∧ cs.length = es.length ∧ RR = rdL (gg + 1) cnt es cs l ∧ Se w wr gs gn gr ve vc es cs l bb oo c)
  case atStart => exact ⟨[], [], _, _, _, _, _, rfl, Nat.zero_le _, rfl, HR.out, S0.out⟩
  case round =>
    obtain ⟨es, cs, ve, vc, l, oo, c, hg, hle, hcl, hres, hse⟩ := hrel
    have R : Aside (gk = cnt - es.length ∧ cs.length = es.length ∧ RR = rdL (gk + 1) cnt es cs l ∧ Se w wr gs gn gr ve vc es cs l bb oo c) := ⟨hg, hcl, hres, hse⟩
    obtain ⟨ae, ce, rfl, hea, heb⟩ := hse.e.ents.len
    obtain ⟨ac, cc, rfl, hca, hcb'⟩ := hse.i.ints.len
    unfold maxLen at heb hcb'
    obtain ⟨n1, n2, n3, n4, n5, n6, n7⟩ := node_cells hse.n
    have rc : wr.cell? ⟨gr, 0, none⟩ = some (.slice (some ⟨bb, oo, none⟩) l.length c) := by rw [cell_of_row wr gr 0 _ _ _ hse.r.h]; rfl
    obtain ⟨ne, hne⟩ : ∃ ne, ne = es.length := ⟨_, rfl⟩
    obtain ⟨nl, hnl⟩ : ∃ nl, nl = l.length := ⟨_, rfl⟩
    rw [hcl, ← hne] at n3
    rw [← hne] at n2 hea hle
    rw [← hnl] at rc
    have NE := Lib.hid (And.intro hne hnl)
    clear hg hcl hres hse hne hnl hca
    have ON3 : Hid ((#[.int .i64 1, .slice ae ne ce, .slice ac ne cc, .slice none 0 0, .slice none 0 0, .int .i64 0, .string ⟨#[]⟩] : Array Value).all (·.oneCell') = true) := Lib.hid (by simp [Value.oneCell'])
    have OE : Hid (OwnE (gr + 1) wr (.slice ae ne ce) es ∧ OwnI (gr + 1) wr (.slice ac ne cc) cs) := Lib.hid (by
      have q1 := R.out.2.2.2.e
      have q2 := R.out.2.2.2.i
      rw [R.out.2.1, ← NE.out.1] at q2
      rw [← NE.out.1] at q1
      exact ⟨q1, q2⟩)
    have TA : Hid (OwnE w.heap.size (wr.setRow gs #[.int .i64 1, .slice ae ne ce, .slice ac ne cc, .slice none 0 0, .slice none 0 0, .int .i64 0, .string ⟨#[]⟩]) (.slice ae ne ce) es ∧ OwnI w.heap.size (wr.setRow gs #[.int .i64 1, .slice ae ne ce, .slice ac ne cc, .slice none 0 0, .slice none 0 0, .int .i64 0, .string ⟨#[]⟩]) (.slice ac ne cc) cs ∧ Below w.heap.size w (wr.setRow gs #[.int .i64 1, .slice ae ne ce, .slice ac ne cc, .slice none 0 0, .slice none 0 0, .int .i64 0, .string ⟨#[]⟩])) := Lib.hid (by
      have hk := kept_setRow wr gs #[.int .i64 1, .slice ae ne ce, .slice ac ne cc, .slice none 0 0, .slice none 0 0, .int .i64 0, .string ⟨#[]⟩]
      have ho := R.out.2.2.2.o
      refine ⟨?_, ?_, R.out.2.2.2.bl.trans (hk.below R.out.2.2.2.bl.size (fun x hx => by omega))⟩
      · obtain ⟨h1, h | ⟨g, cap, cur, hv, hB, hr⟩⟩ := OE.out.1.kept hk (fun g hg e => by have := (OE.out.1.lt g hg).1; omega)
        · exact ⟨h1, .inl h⟩
        · exact ⟨h1, .inr ⟨g, cap, cur, hv, by omega, hr⟩⟩
      · exact (OE.out.2.kept hk (fun g hg e => by have := (OE.out.2.lt g hg).1; omega)).mono (by omega))
    by_cases h1 : ne < cnt
    case neg =>
      have d1 : decide ((ne : Int) < (cnt : Int)) = false := decide_eq_false (by omega)
      have d1' : decide (ne < cnt) = false := decide_eq_false h1
      have FI : Hid (RR = (es, cs)) := Lib.hid (by rw [R.out.2.2.1, rdL, if_neg (by have := NE.out; omega)])
      go_wp2_with (refine wpList_store_row rfl 27 (.tmp 2) (.tmp 89) rfl gs #[.int .i64 1, .slice ae ne ce, .slice ac ne cc, .slice none 0 0, .slice none 0 0, .int .i64 0, .string ⟨#[]⟩] rfl rfl 27 #[.int .i64 0, .slice none 0 0, .slice none 0 0, .slice none 0 0, .slice none 0 0, .int .i64 0, .string ⟨#[]⟩] R.out.2.2.2.s size_node rfl ON3.out ?_)
      refine bodyPost_ret (results_cell_row rfl _ _ gs 27 #[.int .i64 1, .slice ae ne ce, .slice ac ne cc, .slice none 0 0, .slice none 0 0, .int .i64 0, .string ⟨#[]⟩] (0, 0) _ rfl (setRow_heap _ _ _ _ _ _ R.out.2.2.2.s) Try.underlying27 rfl size_node) rfl ?_
      obtain ⟨t1, t2, t3⟩ := TA.out
      refine ⟨.slice ae ne ce, .slice ac ne cc, ?_, ?_, ?_, ?_, t3⟩
      · rw [SL.out, FI.out]; rfl
      · rw [SL.out, FI.out]; exact t1
      · rw [SL.out, FI.out]; exact t2
      · have q := own_ne R.out.2.2.2.e R.out.2.2.2.i
        rw [← NE.out.1, R.out.2.1, ← NE.out.1] at q
        exact q
    have d1 : decide ((ne : Int) < (cnt : Int)) = true := decide_eq_true (by omega)
    have d1' : decide (ne < cnt) = true := decide_eq_true h1
    by_cases h2 : 0 < nl
    case neg =>
      have d2 : decide ((nl : Int) > 0) = false := decide_eq_false (by omega)
      have d2' : decide (0 < nl) = false := decide_eq_false h2
      have FI : Hid (RR = (es, cs)) := Lib.hid (by rw [R.out.2.2.1, rdL, if_neg (by have := NE.out; omega)])
      go_wp2_with (refine wpList_store_row rfl 27 (.tmp 2) (.tmp 89) rfl gs #[.int .i64 1, .slice ae ne ce, .slice ac ne cc, .slice none 0 0, .slice none 0 0, .int .i64 0, .string ⟨#[]⟩] rfl rfl 27 #[.int .i64 0, .slice none 0 0, .slice none 0 0, .slice none 0 0, .slice none 0 0, .int .i64 0, .string ⟨#[]⟩] R.out.2.2.2.s size_node rfl ON3.out ?_)
      refine bodyPost_ret (results_cell_row rfl _ _ gs 27 #[.int .i64 1, .slice ae ne ce, .slice ac ne cc, .slice none 0 0, .slice none 0 0, .int .i64 0, .string ⟨#[]⟩] (0, 0) _ rfl (setRow_heap _ _ _ _ _ _ R.out.2.2.2.s) Try.underlying27 rfl size_node) rfl ?_
      obtain ⟨t1, t2, t3⟩ := TA.out
      refine ⟨.slice ae ne ce, .slice ac ne cc, ?_, ?_, ?_, ?_, t3⟩
      · rw [SL.out, FI.out]; rfl
      · rw [SL.out, FI.out]; exact t1
      · rw [SL.out, FI.out]; exact t2
      · have q := own_ne R.out.2.2.2.e R.out.2.2.2.i
        rw [← NE.out.1, R.out.2.1, ← NE.out.1] at q
        exact q
    have d2 : decide ((nl : Int) > 0) = true := decide_eq_true (by omega)
    have d2' : decide (0 < nl) = true := decide_eq_true h2
    have EN := Lib.hid (entry_any gr bb oo c l wr R.out.2.2.2.r)
    have NX : Hid (RR = rdL gk cnt (es ++ [(enR l).1]) (cs ++ [((enR l).2.1 : Int)]) (enR l).2.2) := Lib.hid (by rw [R.out.2.2.1, rdL, if_pos (by have := NE.out; omega)])
    obtain ⟨er, her⟩ : ∃ er, er = enR l := ⟨_, rfl⟩
    rw [← her] at EN NX
    obtain ⟨⟨xk, xv⟩, xc, xl⟩ := er
    simp only at EN NX
    clear her
    have LE : Hid (es.length ≤ 1000000 ∧ cs.length ≤ 1000000) := Lib.hid (by have := NE.out.1; have := R.out.2.1; omega)
    have L2 : Hid ((es ++ [(xk, xv)]).length = ne + 1 ∧ (cs ++ [(xc : Int)]).length = ne + 1) := Lib.hid (by have := NE.out.1; have := R.out.2.1; simp; omega)
    go_wp2_with (first | (go_at_call 37; refine EN.out.mono ?_; rintro e w1 ⟨o1, c1, rfl, r1, k1⟩; have S1 := Lib.hid (R.out.2.2.2.read r1 k1); clear r1 k1; obtain ⟨Y, hY⟩ : ∃ Y, Y = w1.alloc (.cells #[.string xk, .string xv] 29) := ⟨_, rfl⟩; have SY : Hid (Se w Y gs gn gr (.slice ae es.length ce) (.slice ac cs.length cc) es cs xl bb o1 c1) := Lib.hid (by rw [hY]; exact S1.out.alloc _); rw [R.out.2.1, ← NE.out.1] at SY; obtain ⟨m0, m1, m2, m3, m4, m5, m6⟩ := node_cells SY.out.n; have ye0 : Y.cell? ⟨w1.heap.size, 0, none⟩ = some (.string xk) := (by rw [hY]; exact World.cell?_alloc_new _ _ _ _); have ye1 : Y.cell? ⟨w1.heap.size, 1, none⟩ = some (.string xv) := (by rw [hY]; exact World.cell?_alloc_new _ _ _ _); have LY : Hid (gr + 1 ≤ Y.heap.size) := Lib.hid SY.out.lt; have hY' := hY.symm; clear hY) | (refine app_ent rfl (.tmp 39) (.tmp 41) rfl (B := gr + 1) (w0 := Y) (v := .slice ae ne ce) (es := es) rfl SY.out.e LY.out xk xv rfl LE.out.1 ?_; intro v2 w2 H2; obtain ⟨a2, c2, hv2, -, -⟩ := H2.out.1.ents.len; rw [L2.out.1] at hv2; subst hv2; have GN : Hid (w2.heap[gn]? = _) := Lib.hid (((grown_kept H2.out.2).block gn (lt_of_heap SY.out.n) (fun e => by have := (SY.out.e.lt gn e.symm).1; have := SY.out.o; omega)).trans SY.out.n); have y1 : w2.cell? ⟨gn, 1, none⟩ = some (.slice ae ne ce) := (node_cells GN.out).2.1; have y2 : w2.frozen? ⟨gn, 1, none⟩ = false := frozen_of_row _ _ _ _ _ GN.out; obtain ⟨W3, hW3⟩ : ∃ W3, W3 = w2.setCell ⟨gn, 1, none⟩ (.slice a2 (ne + 1) c2) := ⟨_, rfl⟩; have S3 : Hid (Se w W3 gs gn gr (.slice a2 (ne + 1) c2) (.slice ac ne cc) (es ++ [(xk, xv)]) cs xl bb o1 c1) := Lib.hid (by rw [hW3]; exact SY.out.ent H2.out.1 H2.out.2); obtain ⟨i0, i1, i2, i3, i4, i5, i6⟩ := node_cells S3.out.n; have LW : Hid (gr + 1 ≤ W3.heap.size) := Lib.hid S3.out.lt; have hW3' := hW3.symm; clear hW3) | (refine app_int1 rfl (.tmp 45) (.tmp 47) rfl (B := gr + 1) (w0 := W3) (v := .slice ac ne cc) (l := cs) rfl S3.out.i LW.out (xc : Int) rfl LE.out.2 ?_; intro v4 w4 H4; obtain ⟨a4, c4, hv4, -, -⟩ := H4.out.1.ints.len; rw [L2.out.2] at hv4; subst hv4; have GM : Hid (w4.heap[gn]? = _) := Lib.hid (((grown_kept H4.out.2).block gn (lt_of_heap S3.out.n) (fun e => by have := (S3.out.i.lt gn e.symm).1; have := S3.out.o; omega)).trans S3.out.n); have z1 : w4.cell? ⟨gn, 2, none⟩ = some (.slice ac ne cc) := (node_cells GM.out).2.2.1; have z2 : w4.frozen? ⟨gn, 2, none⟩ = false := frozen_of_row _ _ _ _ _ GM.out))
    go_roundg (cnt - (ne + 1))
    case measure => have := R.out.1; have := NE.out.1; omega
    case rel => exact ⟨es ++ [(xk, xv)], cs ++ [(xc : Int)], _, _, xl, o1, c1, by rw [L2.out.1], by rw [L2.out.1]; omega, by rw [L2.out.1, L2.out.2], by rw [NX.out]; congr 1; have := R.out.1; have := NE.out.1; omega, S3.out.int H4.out.1 H4.out.2⟩
end Go.Proofs.Ytmoghdpjemidgaa
