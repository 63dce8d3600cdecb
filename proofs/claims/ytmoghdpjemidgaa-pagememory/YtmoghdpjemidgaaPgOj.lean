/-
  seeming: of bytes that say that they are an inner page's: the walk.
-/
import Derived.Test.YtmoghdpjemidgaaPgOi
namespace Go.Proofs.Ytmoghdpjemidgaa
open Go.RowKit Go.Maps
set_option maxHeartbeats 8000000 in
set_option maxRecDepth 100000 in
theorem seeming_inner (bb ob cb : Nat) (b : List UInt8) (w : World) (hv : Bytes w (.slice (some ⟨bb, ob, none⟩) 512 cb) b) (hl : b.length = 512) (h1 : b.getD 1 0 = 2) :
    Calls Try.prog 26 #[.slice (some ⟨bb, ob, none⟩) 512 cb] w fun e w' => ∃ vk vh, e = .returned (.agg ((seI b).arr ⟨.slice none 0 0, .slice none 0 0, vk, vh⟩)) ∧ OwnS w.heap.size w' vk (seI b).keys ∧ OwnI w.heap.size w' vh (seI b).kids ∧ Below w.heap.size w w' := by
  have V := Lib.hid hv
  have HL := Lib.hid hl
  have hcb : 512 ≤ cb ∧ cb ≤ 9223372036854775807 := by
    obtain ⟨a2, c2, e, q1, q2, _⟩ := hv
    simp only [Value.slice.injEq] at e
    unfold maxLen at q2
    rw [e.2.2]
    omega
  obtain ⟨hcb1, hcb2⟩ := hcb
  have hb' : Bytes w (.slice (some ⟨bb, ob, none⟩) b.length cb) b := by rw [hl]; exact hv
  have c1 : w.cell? ⟨bb, ob + 1, none⟩ = some (.int .u8 2) := by
    obtain ⟨a2, c2, e, _, _, _, h3⟩ := hv
    simp only [Value.slice.injEq] at e
    obtain ⟨b2, o2, e2, h4⟩ := h3 1 (by omega)
    rw [← e.1] at e2
    simp only [Option.some.injEq, Addr.mk.injEq, and_true] at e2
    rw [e2.1, e2.2, h4, h1]
    rfl
  have bbl : bb < w.heap.size := block_lt_of_cell c1
  obtain ⟨cnt, hcnt⟩ : ∃ cnt, cnt = leN (sub b 2 2) := ⟨_, rfl⟩
  have hc6 : cnt < 65536 := by rw [hcnt]; exact leN2_lt _
  have GT : Hid (∀ W, Below w.heap.size w W → Calls Try.prog 36 #[.slice (some ⟨bb, ob + 2, none⟩) 2 (cb - 2)] W fun e w' => e = .returned (.int .i64 (cnt : Int)) ∧ w' = W) := Lib.hid (fun W hW => by
    have hd := (hb'.below hW).drop 2 (by rw [HL.out]; omega)
    rw [← List.length_drop] at hd
    have ht := hd.take 2 (by rw [List.length_drop, HL.out]; omega)
    simp only [Option.map_some, add_plain] at ht
    rw [hcnt]
    exact get_any _ _ W ht (by show ((b.drop 2).take 2).length ≤ 4; rw [List.length_take]; omega))
  have BD : Hid (Bytes w (.slice (some ⟨bb, ob + 8, none⟩) 504 (cb - 8)) (b.drop 8)) := Lib.hid (by
    have hd := hb'.drop 8 (by rw [HL.out]; omega)
    simp only [Option.map_some, add_plain, HL.out] at hd
    exact hd)
  have D8 : Hid ((b.drop 8).length = 504) := Lib.hid (by rw [List.length_drop, hl])
  have CNT := Lib.hid hcnt
  obtain ⟨gs, hgs⟩ : ∃ gs, gs = w.heap.size := ⟨_, rfl⟩
  obtain ⟨X1, hX1⟩ : ∃ X1, X1 = w.alloc (.cells #[.int .i64 0, .slice none 0 0, .slice none 0 0, .slice none 0 0, .slice none 0 0, .int .i64 0, .string ⟨#[]⟩] 27) := ⟨_, rfl⟩
  obtain ⟨gn, hgn⟩ : ∃ gn, gn = X1.heap.size := ⟨_, rfl⟩
  obtain ⟨X2z, hX2z⟩ : ∃ X2z, X2z = X1.alloc (.cells #[.int .i64 0, .slice none 0 0, .slice none 0 0, .slice none 0 0, .slice none 0 0, .int .i64 0, .string ⟨#[]⟩] 27) := ⟨_, rfl⟩
  obtain ⟨X2, hX2⟩ : ∃ X2, X2 = X2z.setRow gn #[.int .i64 2, .slice none 0 0, .slice none 0 0, .slice none 0 0, .slice none 0 0, .int .i64 0, .string ⟨#[]⟩] := ⟨_, rfl⟩
  obtain ⟨gr, hgr⟩ : ∃ gr, gr = X2.heap.size := ⟨_, rfl⟩
  obtain ⟨X3z, hX3z⟩ : ∃ X3z, X3z = X2.alloc (.cells #[.slice none 0 0] 64) := ⟨_, rfl⟩
  obtain ⟨X3, hX3⟩ : ∃ X3, X3 = X3z.setRow gr #[.slice (some ⟨bb, ob + 8, none⟩) 504 (cb - 8)] := ⟨_, rfl⟩
  have B1 : Below w.heap.size w X1 := by rw [hX1]; exact (Below.refl _ _).alloc (Nat.le_refl _) _
  have s1 : gn = gs + 1 := by rw [hgn, hX1, hgs]; simp
  have s2z : X2z.heap.size = gn + 1 := by rw [hX2z, hgn]; simp
  have G2z : X2z.heap[gn]? = some (.cells #[.int .i64 0, .slice none 0 0, .slice none 0 0, .slice none 0 0, .slice none 0 0, .int .i64 0, .string ⟨#[]⟩] 27 (0, 0)) := by rw [hX2z, hgn]; exact heap_alloc_new _ _
  have K2 : Kept (fun k => k = gn) X2z X2 := by rw [hX2]; exact kept_setRow _ _ _
  have G2 : X2.heap[gn]? = some (.cells #[.int .i64 2, .slice none 0 0, .slice none 0 0, .slice none 0 0, .slice none 0 0, .int .i64 0, .string ⟨#[]⟩] 27 (0, 0)) := by rw [hX2]; exact setRow_heap _ _ _ _ _ _ G2z
  have s2 : gr = gn + 1 := by rw [hgr, hX2]; simp [World.setRow, s2z]
  have B2 : Below w.heap.size w X2 := by
    have h := B1.alloc B1.size (.cells #[.int .i64 0, .slice none 0 0, .slice none 0 0, .slice none 0 0, .slice none 0 0, .int .i64 0, .string ⟨#[]⟩] 27)
    rw [← hX2z] at h
    exact h.trans (K2.below h.size (fun x hx => by omega))
  have G3z : X3z.heap[gr]? = some (.cells #[.slice none 0 0] 64 (0, 0)) := by rw [hX3z, hgr]; exact heap_alloc_new _ _
  have K3 : Kept (fun k => k = gr) X3z X3 := by rw [hX3]; exact kept_setRow _ _ _
  have G3 : X3.heap[gr]? = some (.cells #[.slice (some ⟨bb, ob + 8, none⟩) 504 (cb - 8)] 64 (0, 0)) := by rw [hX3]; exact setRow_heap _ _ _ _ _ _ G3z
  have s3z : X3z.heap.size = gr + 1 := by rw [hX3z, hgr]; simp
  have B3 : Below w.heap.size w X3 := by
    have h := B2.alloc B2.size (.cells #[.slice none 0 0] 64)
    rw [← hX3z] at h
    exact h.trans (K3.below h.size (fun x hx => by omega))
  have N3 : X3.heap[gn]? = some (.cells #[.int .i64 2, .slice none 0 0, .slice none 0 0, .slice none 0 0, .slice none 0 0, .int .i64 0, .string ⟨#[]⟩] 27 (0, 0)) := by
    rw [K3.block gn (by omega) (by omega), hX3z, Below.heap_alloc _ _ _ (by omega)]; exact G2
  have Z3 : X3.heap[gs]? = some (.cells #[.int .i64 0, .slice none 0 0, .slice none 0 0, .slice none 0 0, .slice none 0 0, .int .i64 0, .string ⟨#[]⟩] 27 (0, 0)) := by
    rw [K3.block gs (by omega) (by omega), hX3z, Below.heap_alloc _ _ _ (by omega), K2.block gs (by omega) (by omega), hX2z, Below.heap_alloc _ _ _ (by omega), hX1, hgs]; exact heap_alloc_new _ _
  have BB2 := Lib.hid B2
  have S0 : Hid (Sk w X3 gs gn gr #[.int .i64 2, .slice none 0 0, .slice none 0 0, .slice none 0 0, .slice none 0 0, .int .i64 0, .string ⟨#[]⟩] (b.drop 8) bb (ob + 8) (cb - 8)) := Lib.hid ⟨N3, Z3,
      ⟨by rw [D8.out]; exact G3, by rw [D8.out]; exact BD.out.below B3, by omega, by have := B3.size; omega⟩, ⟨by omega, by omega, by omega, bbl⟩, B3⟩
  have k1 : X1.cell? ⟨bb, ob + 1, none⟩ = some (.int .u8 2) := by rw [B1.cell (p := ⟨bb, ob + 1, none⟩) (block_lt_of_cell c1)]; exact c1
  have GZ2 := Lib.hid G2z
  have GZ3 := Lib.hid G3z
  have ON1 : Hid ((#[.int .i64 2, .slice none 0 0, .slice none 0 0, .slice none 0 0, .slice none 0 0, .int .i64 0, .string ⟨#[]⟩] : Array Value).all (·.oneCell') = true) := Lib.hid (by simp [Value.oneCell'])
  have ON2 : Hid ((#[.slice (some ⟨bb, ob + 8, none⟩) 504 (cb - 8)] : Array Value).all (·.oneCell') = true) := Lib.hid (by simp [Value.oneCell'])
  obtain ⟨n0, n1, n2, n3, n4, n5, n6⟩ := node_cells S0.out.n
  have hgs' := hgs.symm; have hX1' := hX1.symm; have hgn' := hgn.symm; have hX2' := hX2.symm; have hX2z' := hX2z.symm; have hX3z' := hX3z.symm; have hgr' := hgr.symm; have hX3' := hX3.symm
  clear hgs hX1 hgn hX2 hX2z hX3z hgr hX3 B1 B2 B3 hb' hv hl bbl hcnt s1 s2 s2z s3z G2z K2 G2 G3z K3 G3 N3 Z3
  clear h1
  obtain ⟨nx, hnx⟩ : ∃ nx, nx = leN ((b.drop 8).take 4) := ⟨_, rfl⟩
  obtain ⟨L4, hL4⟩ : ∃ L4, L4 = (b.drop 8).drop 4 := ⟨_, rfl⟩
  obtain ⟨RR, hRR⟩ : ∃ RR, RR = rdI (cnt + 1) cnt [] [(nx : Int)] L4 := ⟨_, rfl⟩
  have SL : Hid (seI b = ⟨2, [], [], RR.1, RR.2, 0, ⟨#[]⟩⟩) := Lib.hid (by rw [hRR, hnx, hL4, CNT.out]; rfl)
  have HR := Lib.hid hRR
  have HX := Lib.hid hnx.symm
  have HL4 := Lib.hid hL4
  clear hRR hnx hL4
  have SD : Hid (Si w X3.drew gs gn gr (.slice none 0 0) (.slice none 0 0) [] [] (b.drop 8) bb (ob + 8) (cb - 8)) := Lib.hid (Si.drew ⟨S0.out.n, S0.out.s, S0.out.r, World.ownsRow_nil _ _ _ _, World.ownsRow_nil _ _ _ _, S0.out.o, S0.out.bl⟩)
  go_enter Try.func26, Try.ntmps26
  go_wp2_with (first | (go_at_call 36; refine (GT.out _ BB2.out).mono ?_; rintro e wq ⟨rfl, rfl⟩) | (refine wpList_store_row rfl 27 (.tmp 3) (.tmp 12) rfl gn #[.int .i64 2, .slice none 0 0, .slice none 0 0, .slice none 0 0, .slice none 0 0, .int .i64 0, .string ⟨#[]⟩] rfl rfl 27 #[.int .i64 0, .slice none 0 0, .slice none 0 0, .slice none 0 0, .slice none 0 0, .int .i64 0, .string ⟨#[]⟩] GZ2.out size_node rfl ON1.out ?_; rw [hX2']) | (refine wpList_store_row rfl 64 (.tmp 5) (.tmp 18) rfl gr #[.slice (some ⟨bb, ob + 8, none⟩) 504 (cb - 8)] rfl rfl 64 #[.slice none 0 0] GZ3.out size_reader rfl ON2.out ?_; rw [hX3']))
  clear hgs' hX1' hgn' hX2' hgr' hX3' hX2z' hX3z' k1 c1
  go_region_law (first | (refine step_number rfl (.tmp 5) (.const (.int .i64 4)) _ rfl gr bb (ob + 8) (cb - 8) 4 (b.drop 8) X3.drew rfl rfl SD.out.r (by decide) nx HX.out ?_; intro o1 c1 w1 H1; have S1 := Lib.hid (SD.out.read H1.out.1 H1.out.2); rw [← HL4.out] at S1; obtain ⟨m0, m1, m2, m3, m4, m5, m6⟩ := node_cells S1.out.n; have mA : ∀ ob, (w1.alloc ob).cell? ⟨gn, 4, none⟩ = some (.slice none 0 0) := (fun ob => by rw [((Below.refl w1.heap.size w1).alloc (Nat.le_refl _) ob).cell (block_lt_of_cell m4)]; exact m4); have LB : Hid (gr + 1 ≤ w1.heap.size) := Lib.hid S1.out.lt) | (refine step_int rfl (.tmp 53) (.tmp 55) rfl (B := gr + 1) (w0 := w1) (v := .slice none 0 0) (es := []) rfl S1.out.h LB.out (nx : Int) rfl (by decide) ?_; intro a2 n2 c2 w2 H2; have GN : Hid (w2.heap[gn]? = _) := Lib.hid (((grown_kept H2.out.2.1).block gn (lt_of_heap S1.out.n) (fun e => by cases e)).trans S1.out.n); have y1 := node_cells GN.out; have y2 : w2.frozen? ⟨gn, 4, none⟩ = false := frozen_of_row _ _ _ _ _ GN.out; obtain ⟨z0, z1, z2, z3, z4, z5, z6⟩ := y1))
  all_goals
    have N2 : n2 = 1 := by
      obtain ⟨a8, c8, h8, _⟩ := H2.out.1.len
      simp only [Value.slice.injEq] at h8
      rw [h8.2.1]; rfl
    subst N2
    have S3 := Lib.hid (S1.out.kid H2.out.1 H2.out.2.1)
    clear z0 z1 z2 z3 z4 z5 z6 y2 m0 m1 m2 m3 m4 m5 m6 mA
    go_wp2_with fail
    go_loopg [60] cnt (fun gg s60 wr => ∃ (ks : List ByteArray) (hs : List Int) (vk vh : Value) (l : List UInt8) (oo c : Nat), gg = cnt - ks.length ∧ ks.length ≤ cnt ∧ hs.length = ks.length + 1 ∧ RR = rdI (gg + 1) cnt ks hs l ∧ Si w wr gs gn gr vk vh ks hs l bb oo c)
    case atStart => exact ⟨[], [(nx : Int)], _, _, _, _, _, rfl, Nat.zero_le _, rfl, HR.out, S3.out⟩
    case round =>
      obtain ⟨ks, hs, vk, vh, l, oo, c, hg, hle, hcl, hres, hse⟩ := hrel
      have R : Aside (gk = cnt - ks.length ∧ hs.length = ks.length + 1 ∧ RR = rdI (gk + 1) cnt ks hs l) := ⟨hg, hcl, hres⟩
      obtain ⟨ak, ck, rfl, hka, hkb⟩ := hse.k.strs.len
      obtain ⟨ah, ch, rfl, hha, hhb⟩ := hse.h.ints.len
      unfold maxLen at hkb hhb
      obtain ⟨nk, hnk⟩ : ∃ nk, nk = ks.length := ⟨_, rfl⟩
      obtain ⟨nl, hnl⟩ : ∃ nl, nl = l.length := ⟨_, rfl⟩
      rw [hcl, ← hnk] at hse
      have SE := Lib.hid hse
      obtain ⟨n1, n2, n3, n4, n5, n6, n7⟩ := node_cells hse.n
      have rc : wr.cell? ⟨gr, 0, none⟩ = some (.slice (some ⟨bb, oo, none⟩) l.length c) := by rw [cell_of_row wr gr 0 _ _ _ hse.r.h]; rfl
      rw [← hnl] at rc
      rw [← hnk] at hka hle
      have NE := Lib.hid (And.intro hnk hnl)
      clear hg hcl hres hse hnk hnl hha
      have ON3 : Hid ((#[.int .i64 2, .slice none 0 0, .slice none 0 0, .slice ak nk ck, .slice ah (nk + 1) ch, .int .i64 0, .string ⟨#[]⟩] : Array Value).all (·.oneCell') = true) := Lib.hid (by simp [Value.oneCell'])
      have TA : Hid (OwnS w.heap.size (wr.setRow gs #[.int .i64 2, .slice none 0 0, .slice none 0 0, .slice ak nk ck, .slice ah (nk + 1) ch, .int .i64 0, .string ⟨#[]⟩]) (.slice ak nk ck) ks ∧ OwnI w.heap.size (wr.setRow gs #[.int .i64 2, .slice none 0 0, .slice none 0 0, .slice ak nk ck, .slice ah (nk + 1) ch, .int .i64 0, .string ⟨#[]⟩]) (.slice ah (nk + 1) ch) hs ∧ Below w.heap.size w (wr.setRow gs #[.int .i64 2, .slice none 0 0, .slice none 0 0, .slice ak nk ck, .slice ah (nk + 1) ch, .int .i64 0, .string ⟨#[]⟩])) := Lib.hid (by
        have hk := kept_setRow wr gs #[.int .i64 2, .slice none 0 0, .slice none 0 0, .slice ak nk ck, .slice ah (nk + 1) ch, .int .i64 0, .string ⟨#[]⟩]
        have ho := SE.out.o
        refine ⟨OwnS.mono (SE.out.k.kept hk (fun g hg e => by have := (SE.out.k.lt g hg).1; omega)) (by omega), (SE.out.h.kept hk (fun g hg e => by have := (SE.out.h.lt g hg).1; omega)).mono (by omega), SE.out.bl.trans (hk.below SE.out.bl.size (fun x hx => by omega))⟩)
      have FIN : Hid (RR = (ks, hs) → ∃ vk vh, Ending.returned (.agg #[.int .i64 2, .slice none 0 0, .slice none 0 0, .slice ak nk ck, .slice ah (nk + 1) ch, .int .i64 0, .string ⟨#[]⟩]) = .returned (.agg ((seI b).arr ⟨.slice none 0 0, .slice none 0 0, vk, vh⟩)) ∧ OwnS w.heap.size (wr.setRow gs #[.int .i64 2, .slice none 0 0, .slice none 0 0, .slice ak nk ck, .slice ah (nk + 1) ch, .int .i64 0, .string ⟨#[]⟩]) vk (seI b).keys ∧ OwnI w.heap.size (wr.setRow gs #[.int .i64 2, .slice none 0 0, .slice none 0 0, .slice ak nk ck, .slice ah (nk + 1) ch, .int .i64 0, .string ⟨#[]⟩]) vh (seI b).kids ∧ Below w.heap.size w (wr.setRow gs #[.int .i64 2, .slice none 0 0, .slice none 0 0, .slice ak nk ck, .slice ah (nk + 1) ch, .int .i64 0, .string ⟨#[]⟩])) := Lib.hid (fun e => by
        rw [SL.out, e]
        exact ⟨.slice ak nk ck, .slice ah (nk + 1) ch, rfl, TA.out.1, TA.out.2.1, TA.out.2.2⟩)
      by_cases h1 : nk < cnt
      case neg =>
        have d1 : decide ((nk : Int) < (cnt : Int)) = false := decide_eq_false (by omega)
        have d1' : decide (nk < cnt) = false := decide_eq_false h1
        have FI : Hid (RR = (ks, hs)) := Lib.hid (by rw [R.out.2.2, rdI, if_neg (by have := NE.out; omega)])
        go_wp2_with (refine wpList_store_row rfl 27 (.tmp 2) (.tmp 89) rfl gs #[.int .i64 2, .slice none 0 0, .slice none 0 0, .slice ak nk ck, .slice ah (nk + 1) ch, .int .i64 0, .string ⟨#[]⟩] rfl rfl 27 #[.int .i64 0, .slice none 0 0, .slice none 0 0, .slice none 0 0, .slice none 0 0, .int .i64 0, .string ⟨#[]⟩] SE.out.s size_node rfl ON3.out ?_)
        refine bodyPost_ret (results_cell_row rfl _ _ gs 27 #[.int .i64 2, .slice none 0 0, .slice none 0 0, .slice ak nk ck, .slice ah (nk + 1) ch, .int .i64 0, .string ⟨#[]⟩] (0, 0) _ rfl (setRow_heap _ _ _ _ _ _ SE.out.s) Try.underlying27 rfl size_node) rfl ?_
        exact FIN.out FI.out
      have d1 : decide ((nk : Int) < (cnt : Int)) = true := decide_eq_true (by omega)
      have d1' : decide (nk < cnt) = true := decide_eq_true h1
      by_cases h2 : 0 < nl
      case neg =>
        have d2 : decide ((nl : Int) > 0) = false := decide_eq_false (by omega)
        have d2' : decide (0 < nl) = false := decide_eq_false h2
        have FI : Hid (RR = (ks, hs)) := Lib.hid (by rw [R.out.2.2, rdI, if_neg (by have := NE.out; omega)])
        go_wp2_with (refine wpList_store_row rfl 27 (.tmp 2) (.tmp 89) rfl gs #[.int .i64 2, .slice none 0 0, .slice none 0 0, .slice ak nk ck, .slice ah (nk + 1) ch, .int .i64 0, .string ⟨#[]⟩] rfl rfl 27 #[.int .i64 0, .slice none 0 0, .slice none 0 0, .slice none 0 0, .slice none 0 0, .int .i64 0, .string ⟨#[]⟩] SE.out.s size_node rfl ON3.out ?_)
        refine bodyPost_ret (results_cell_row rfl _ _ gs 27 #[.int .i64 2, .slice none 0 0, .slice none 0 0, .slice ak nk ck, .slice ah (nk + 1) ch, .int .i64 0, .string ⟨#[]⟩] (0, 0) _ rfl (setRow_heap _ _ _ _ _ _ SE.out.s) Try.underlying27 rfl size_node) rfl ?_
        exact FIN.out FI.out
      have d2 : decide ((nl : Int) > 0) = true := decide_eq_true (by omega)
      have d2' : decide (0 < nl) = true := decide_eq_true h2
      obtain ⟨kl, hkl⟩ : ∃ kl, leN (l.take 1) = kl := ⟨_, rfl⟩
      have hkl9 : kl < 256 := by rw [← hkl]; exact leN1_lt l
      obtain ⟨xk, hxk⟩ : ∃ xk, txt ((l.drop 1).take kl) = xk := ⟨_, rfl⟩
      obtain ⟨xc, hxc⟩ : ∃ xc, leN (((l.drop 1).drop kl).take 4) = xc := ⟨_, rfl⟩
      have NX : Hid (RR = rdI gk cnt (ks ++ [xk]) (hs ++ [(xc : Int)]) (((l.drop 1).drop kl).drop 4)) := Lib.hid (by rw [R.out.2.2, rdI, if_pos (by have := NE.out; omega), hkl, hxk, hxc])
      have XS := Lib.hid (And.intro hkl (And.intro hxk hxc))
      clear hkl hxk hxc
      have E1 := Lib.hid SE.out.drew
      have K9 : Hid (kl < 9223372036854775808 ∧ ks.length + 1 ≤ 8796093022208 ∧ hs.length + 1 ≤ 17592186044416) := Lib.hid (by have := NE.out.1; have := R.out.2.1; omega)
      go_wp2_with fail
      go_region_law (first | (refine step_number rfl (.tmp 5) (.const (.int .i64 1)) _ rfl gr bb oo c 1 l wr.drew rfl rfl E1.out.r (by decide) kl XS.out.1 ?_; intro o1 c1 w1 H1; have S1 := Lib.hid (E1.out.read H1.out.1 H1.out.2); obtain ⟨m0, m1, m2, m3, m4, m5, m6⟩ := node_cells S1.out.n) | (refine step_text rfl (.tmp 5) (.tmp 71) _ rfl gr bb o1 c1 kl (l.drop 1) w1 rfl rfl S1.out.r K9.out.1 xk XS.out.2.1 ?_; intro o2 c2 w2 H2; have S2 := Lib.hid (S1.out.read H2.out.1 H2.out.2); obtain ⟨q0, q1, q2, q3, q4, q5, q6⟩ := node_cells S2.out.n; have mA : ∀ ob, (w2.alloc ob).cell? ⟨gn, 3, none⟩ = some (.slice ak nk ck) := (fun ob => by rw [((Below.refl w2.heap.size w2).alloc (Nat.le_refl _) ob).cell (block_lt_of_cell q3)]; exact q3); have LB : Hid (gr + 1 ≤ w2.heap.size) := Lib.hid S2.out.lt) | (refine step_str rfl (.tmp 70) (.tmp 73) rfl (B := gr + 1) (w0 := w2) (v := .slice ak nk ck) (es := ks) rfl S2.out.k LB.out xk rfl K9.out.2.1 ?_; intro a3 n3' c3 w3 H3; have GN : Hid (w3.heap[gn]? = _) := Lib.hid (((grown_kept H3.out.2).block gn (lt_of_heap S2.out.n) (fun e => by have := (S2.out.k.lt gn e.symm).1; have := S2.out.o; omega)).trans S2.out.n); have y2 : w3.frozen? ⟨gn, 3, none⟩ = false := frozen_of_row _ _ _ _ _ GN.out; obtain ⟨z0, z1, z2, z3, z4, z5, z6⟩ := node_cells GN.out))
      all_goals
        have N3 : n3' = nk + 1 := by
          obtain ⟨a8, c8, h8, _⟩ := H3.out.1.strs.len
          simp only [Value.slice.injEq] at h8
          rw [h8.2.1, List.length_append, ← NE.out.1]; rfl
        subst N3
        have S4 := Lib.hid (S2.out.key H3.out.1 H3.out.2)
        clear z0 z1 z2 z3 z4 z5 z6 y2 q0 q1 q2 q3 q4 q5 q6 mA m0 m1 m2 m3 m4 m5 m6
        obtain ⟨W4, hW4⟩ : ∃ W4, w3.setCell ⟨gn, 3, none⟩ (.slice a3 (nk + 1) c3) = W4 := ⟨_, rfl⟩
        rw [hW4] at S4
        rw [hW4]
        have E4 := Lib.hid S4.out.drew
        obtain ⟨v0, v1, v2, v3, v4, v5, v6⟩ := node_cells S4.out.n
        clear hW4 n1 n2 n3 n4 n5 n6 n7 rc d1 d1' d2 d2'
        go_wp2_with fail
        go_region_law (first | (refine step_number rfl (.tmp 5) (.const (.int .i64 4)) _ rfl gr bb o2 c2 4 ((l.drop 1).drop kl) W4.drew rfl rfl E4.out.r (by decide) xc XS.out.2.2 ?_; intro o5 c5 w5 H5; have S5 := Lib.hid (E4.out.read H5.out.1 H5.out.2); obtain ⟨q0, q1, q2, q3, q4, q5, q6⟩ := node_cells S5.out.n; have mA : ∀ ob, (w5.alloc ob).cell? ⟨gn, 4, none⟩ = some (.slice ah (nk + 1) ch) := (fun ob => by rw [((Below.refl w5.heap.size w5).alloc (Nat.le_refl _) ob).cell (block_lt_of_cell q4)]; exact q4); have LB5 : Hid (gr + 1 ≤ w5.heap.size) := Lib.hid S5.out.lt) | (refine step_int rfl (.tmp 77) (.tmp 79) rfl (B := gr + 1) (w0 := w5) (v := .slice ah (nk + 1) ch) (es := hs) rfl S5.out.h LB5.out (xc : Int) rfl K9.out.2.2 ?_; intro a6 n6' c6 w6 H6; have GM : Hid (w6.heap[gn]? = _) := Lib.hid (((grown_kept H6.out.2.1).block gn (lt_of_heap S5.out.n) (fun e => by have := (S5.out.h.lt gn e.symm).1; have := S5.out.o; omega)).trans S5.out.n); have y2 : w6.frozen? ⟨gn, 4, none⟩ = false := frozen_of_row _ _ _ _ _ GM.out; obtain ⟨z0, z1, z2, z3, z4, z5, z6⟩ := node_cells GM.out))
        all_goals
          have N6 : n6' = nk + 1 + 1 := by
            obtain ⟨a8, c8, h8, _⟩ := H6.out.1.len
            simp only [Value.slice.injEq] at h8
            rw [h8.2.1, List.length_append, R.out.2.1, ← NE.out.1]; rfl
          subst N6
          have S6 := Lib.hid (S5.out.kid H6.out.1 H6.out.2.1)
          clear z0 z1 z2 z3 z4 z5 z6 y2 q0 q1 q2 q3 q4 q5 q6 mA v0 v1 v2 v3 v4 v5 v6
          go_wp2_with fail
          go_roundg (cnt - (nk + 1))
          case measure => have := R.out.1; have := NE.out.1; omega
          case rel => exact ⟨ks ++ [xk], hs ++ [(xc : Int)], _, _, _, o5, c5, by rw [List.length_append, ← NE.out.1]; rfl, by rw [List.length_append, ← NE.out.1]; exact h1, by rw [List.length_append, List.length_append, R.out.2.1]; rfl, by rw [NX.out]; congr 1; have := R.out.1; have := NE.out.1; omega, S6.out⟩
end Go.Proofs.Ytmoghdpjemidgaa
