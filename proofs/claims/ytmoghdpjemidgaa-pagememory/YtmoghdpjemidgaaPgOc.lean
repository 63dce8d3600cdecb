/-
  seeming: of bytes that say that they are a chain's, or of no kind.
-/
import Derived.Test.YtmoghdpjemidgaaPgO
import Derived.Test.YtmoghdpjemidgaaPgEb
namespace Go.Proofs.Ytmoghdpjemidgaa
open Go.RowKit Go.Maps
/-- A page as it is read: its node's cells A. -/
structure Sk (w W : World) (gs gn gr : Nat) (A : Array Value) (l : List UInt8) (bb oo c : Nat) : Prop where
  n : W.heap[gn]? = some (.cells A 27 (0, 0))
  s : W.heap[gs]? = some (.cells #[.int .i64 0, .slice none 0 0, .slice none 0 0, .slice none 0 0, .slice none 0 0, .int .i64 0, .string ⟨#[]⟩] 27 (0, 0))
  r : Rd W gr l bb oo c
  o : w.heap.size ≤ gs ∧ gs < gn ∧ gn < gr ∧ bb < w.heap.size
  bl : Below w.heap.size w W
theorem Sk.read {w W W' : World} {gs gn gr : Nat} {A : Array Value} {l l' : List UInt8} {bb oo c oo' c' : Nat} (h : Sk w W gs gn gr A l bb oo c) (hr : Rd W' gr l' bb oo' c') (hk : Kept (fun y => y = gr) W W') : Sk w W' gs gn gr A l' bb oo' c' :=
  ⟨by rw [hk.block _ (lt_of_heap h.n) (by have := h.o; omega)]; exact h.n, by rw [hk.block _ (lt_of_heap h.s) (by have := h.o; omega)]; exact h.s, hr, h.o, h.bl.trans (hk.below h.bl.size (fun x hx => by have := h.o; omega))⟩
theorem Sk.set {w W : World} {gs gn gr : Nat} {A : Array Value} {l : List UInt8} {bb oo c : Nat} (h : Sk w W gs gn gr A l bb oo c) (k : Nat) (u : Value) : Sk w (W.setCell ⟨gn, k, none⟩ u) gs gn gr (A.setIfInBounds k u) l bb oo c := by
  have hs := kept_set (F := fun y => y = gn) W ⟨gn, k, none⟩ u rfl
  have ho := h.o
  exact ⟨heap_setCell_same _ _ _ _ _ _ h.n, by rw [hs.block _ (lt_of_heap h.s) (by omega)]; exact h.s, h.r.kept hs (by omega) (by omega), h.o, h.bl.trans (hs.below h.bl.size (fun x hx => by omega))⟩
theorem leN4_lt (l : List UInt8) : leN (l.take 4) < 4294967296 := by
  have h := leN_lt (l.take 4)
  have h2 : (l.take 4).length ≤ 4 := by rw [List.length_take]; omega
  exact Nat.lt_of_lt_of_le h (Nat.le_trans (Nat.pow_le_pow_right (by decide) h2) (by decide))
/-- The chain's page that bytes seem to be. -/
def seC (b : List UInt8) : Nd := ⟨3, [], [], [], [], (leN ((b.drop 8).take 4) : Int), txt (((b.drop 8).drop 4).take (leN (sub b 2 2)))⟩
/-- What bytes of no kind seem to be. -/
def seO (b : List UInt8) : Nd := ⟨c8 (b.getD 1 0), [], [], [], [], 0, ⟨#[]⟩⟩
set_option maxHeartbeats 8000000 in
set_option maxRecDepth 100000 in
theorem seeming_chain (bb ob cb : Nat) (b : List UInt8) (w : World) (hv : Bytes w (.slice (some ⟨bb, ob, none⟩) 512 cb) b) (hl : b.length = 512) (h1 : b.getD 1 0 = 3) :
    Calls Try.prog 26 #[.slice (some ⟨bb, ob, none⟩) 512 cb] w fun e w' => e = .returned (.agg ((seC b).arr ⟨.slice none 0 0, .slice none 0 0, .slice none 0 0, .slice none 0 0⟩)) ∧ Below w.heap.size w w' := by
  have V := Lib.hid hv
  have HL := Lib.hid hl
  have hcb : 512 ≤ cb ∧ cb ≤ 9223372036854775807 := by
    obtain ⟨a2, c2, e, q1, q2, _⟩ := hv
    simp only [Value.slice.injEq] at e
    unfold maxLen at q2
    rw [e.2.2]
    omega
  obtain ⟨hcb1, hcb2⟩ := hcb
  have hb' : Bytes w (.slice (some ⟨bb, ob, none⟩) b.length cb) b := by rw [hl]; exact hv
  have c1 : w.cell? ⟨bb, ob + 1, none⟩ = some (.int .u8 3) := by
    obtain ⟨a2, c2, e, _, _, _, h3⟩ := hv
    simp only [Value.slice.injEq] at e
    obtain ⟨b2, o2, e2, h4⟩ := h3 1 (by omega)
    rw [← e.1] at e2
    simp only [Option.some.injEq, Addr.mk.injEq, and_true] at e2
    rw [e2.1, e2.2, h4, h1]
    rfl
  have bbl : bb < w.heap.size := block_lt_of_cell c1
  obtain ⟨cnt, hcnt⟩ : ∃ cnt, cnt = leN (sub b 2 2) := ⟨_, rfl⟩
  have hc6 : cnt < 65536 := by rw [hcnt]; exact leN2_lt _
  have GT : Hid (∀ W, Below w.heap.size w W → Calls Try.prog 36 #[.slice (some ⟨bb, ob + 2, none⟩) 2 (cb - 2)] W fun e w' => e = .returned (.int .i64 (cnt : Int)) ∧ w' = W) := Lib.hid (fun W hW => by
    have hd := (hb'.below hW).drop 2 (by rw [HL.out]; omega)
    rw [← List.length_drop] at hd
    have ht := hd.take 2 (by rw [List.length_drop, HL.out]; omega)
    simp only [Option.map_some, add_plain] at ht
    rw [hcnt]
    exact get_any _ _ W ht (by show ((b.drop 2).take 2).length ≤ 4; rw [List.length_take]; omega))
  have BD : Hid (Bytes w (.slice (some ⟨bb, ob + 8, none⟩) 504 (cb - 8)) (b.drop 8)) := Lib.hid (by
    have hd := hb'.drop 8 (by rw [HL.out]; omega)
    simp only [Option.map_some, add_plain, HL.out] at hd
    exact hd)
  have D8 : Hid ((b.drop 8).length = 504) := Lib.hid (by rw [List.length_drop, hl])
  have CNT := Lib.hid hcnt
  obtain ⟨gs, hgs⟩ : ∃ gs, gs = w.heap.size := ⟨_, rfl⟩
  obtain ⟨X1, hX1⟩ : ∃ X1, X1 = w.alloc (.cells #[.int .i64 0, .slice none 0 0, .slice none 0 0, .slice none 0 0, .slice none 0 0, .int .i64 0, .string ⟨#[]⟩] 27) := ⟨_, rfl⟩
  obtain ⟨gn, hgn⟩ : ∃ gn, gn = X1.heap.size := ⟨_, rfl⟩
  obtain ⟨X2z, hX2z⟩ : ∃ X2z, X2z = X1.alloc (.cells #[.int .i64 0, .slice none 0 0, .slice none 0 0, .slice none 0 0, .slice none 0 0, .int .i64 0, .string ⟨#[]⟩] 27) := ⟨_, rfl⟩
  obtain ⟨X2, hX2⟩ : ∃ X2, X2 = X2z.setRow gn #[.int .i64 3, .slice none 0 0, .slice none 0 0, .slice none 0 0, .slice none 0 0, .int .i64 0, .string ⟨#[]⟩] := ⟨_, rfl⟩
  obtain ⟨gr, hgr⟩ : ∃ gr, gr = X2.heap.size := ⟨_, rfl⟩
  obtain ⟨X3z, hX3z⟩ : ∃ X3z, X3z = X2.alloc (.cells #[.slice none 0 0] 64) := ⟨_, rfl⟩
  obtain ⟨X3, hX3⟩ : ∃ X3, X3 = X3z.setRow gr #[.slice (some ⟨bb, ob + 8, none⟩) 504 (cb - 8)] := ⟨_, rfl⟩
  have B1 : Below w.heap.size w X1 := by rw [hX1]; exact (Below.refl _ _).alloc (Nat.le_refl _) _
  have s1 : gn = gs + 1 := by rw [hgn, hX1, hgs]; simp
  have s2z : X2z.heap.size = gn + 1 := by rw [hX2z, hgn]; simp
  have G2z : X2z.heap[gn]? = some (.cells #[.int .i64 0, .slice none 0 0, .slice none 0 0, .slice none 0 0, .slice none 0 0, .int .i64 0, .string ⟨#[]⟩] 27 (0, 0)) := by rw [hX2z, hgn]; exact heap_alloc_new _ _
  have K2 : Kept (fun k => k = gn) X2z X2 := by rw [hX2]; exact kept_setRow _ _ _
  have G2 : X2.heap[gn]? = some (.cells #[.int .i64 3, .slice none 0 0, .slice none 0 0, .slice none 0 0, .slice none 0 0, .int .i64 0, .string ⟨#[]⟩] 27 (0, 0)) := by rw [hX2]; exact setRow_heap _ _ _ _ _ _ G2z
  have s2 : gr = gn + 1 := by rw [hgr, hX2]; simp [World.setRow, s2z]
  have B2 : Below w.heap.size w X2 := by
    have h := B1.alloc B1.size (.cells #[.int .i64 0, .slice none 0 0, .slice none 0 0, .slice none 0 0, .slice none 0 0, .int .i64 0, .string ⟨#[]⟩] 27)
    rw [← hX2z] at h
    exact h.trans (K2.below h.size (fun x hx => by omega))
  have G3z : X3z.heap[gr]? = some (.cells #[.slice none 0 0] 64 (0, 0)) := by rw [hX3z, hgr]; exact heap_alloc_new _ _
  have K3 : Kept (fun k => k = gr) X3z X3 := by rw [hX3]; exact kept_setRow _ _ _
  have G3 : X3.heap[gr]? = some (.cells #[.slice (some ⟨bb, ob + 8, none⟩) 504 (cb - 8)] 64 (0, 0)) := by rw [hX3]; exact setRow_heap _ _ _ _ _ _ G3z
  have s3z : X3z.heap.size = gr + 1 := by rw [hX3z, hgr]; simp
  have B3 : Below w.heap.size w X3 := by
    have h := B2.alloc B2.size (.cells #[.slice none 0 0] 64)
    rw [← hX3z] at h
    exact h.trans (K3.below h.size (fun x hx => by omega))
  have N3 : X3.heap[gn]? = some (.cells #[.int .i64 3, .slice none 0 0, .slice none 0 0, .slice none 0 0, .slice none 0 0, .int .i64 0, .string ⟨#[]⟩] 27 (0, 0)) := by
    rw [K3.block gn (by omega) (by omega), hX3z, Below.heap_alloc _ _ _ (by omega)]; exact G2
  have Z3 : X3.heap[gs]? = some (.cells #[.int .i64 0, .slice none 0 0, .slice none 0 0, .slice none 0 0, .slice none 0 0, .int .i64 0, .string ⟨#[]⟩] 27 (0, 0)) := by
    rw [K3.block gs (by omega) (by omega), hX3z, Below.heap_alloc _ _ _ (by omega), K2.block gs (by omega) (by omega), hX2z, Below.heap_alloc _ _ _ (by omega), hX1, hgs]; exact heap_alloc_new _ _
  have BB2 := Lib.hid B2
  have S0 : Hid (Sk w X3 gs gn gr #[.int .i64 3, .slice none 0 0, .slice none 0 0, .slice none 0 0, .slice none 0 0, .int .i64 0, .string ⟨#[]⟩] (b.drop 8) bb (ob + 8) (cb - 8)) := Lib.hid ⟨N3, Z3,
      ⟨by rw [D8.out]; exact G3, by rw [D8.out]; exact BD.out.below B3, by omega, by have := B3.size; omega⟩, ⟨by omega, by omega, by omega, bbl⟩, B3⟩
  have k1 : X1.cell? ⟨bb, ob + 1, none⟩ = some (.int .u8 3) := by rw [B1.cell (p := ⟨bb, ob + 1, none⟩) (block_lt_of_cell c1)]; exact c1
  have GZ2 := Lib.hid G2z
  have GZ3 := Lib.hid G3z
  have ON1 : Hid ((#[.int .i64 3, .slice none 0 0, .slice none 0 0, .slice none 0 0, .slice none 0 0, .int .i64 0, .string ⟨#[]⟩] : Array Value).all (·.oneCell') = true) := Lib.hid (by simp [Value.oneCell'])
  have ON2 : Hid ((#[.slice (some ⟨bb, ob + 8, none⟩) 504 (cb - 8)] : Array Value).all (·.oneCell') = true) := Lib.hid (by simp [Value.oneCell'])
  obtain ⟨n0, n1, n2, n3, n4, n5, n6⟩ := node_cells S0.out.n
  have hgs' := hgs.symm; have hX1' := hX1.symm; have hgn' := hgn.symm; have hX2' := hX2.symm; have hX2z' := hX2z.symm; have hX3z' := hX3z.symm; have hgr' := hgr.symm; have hX3' := hX3.symm
  clear hgs hX1 hgn hX2 hX2z hX3z hgr hX3 B1 B2 B3 hb' hv hl bbl hcnt s1 s2 s2z s3z G2z K2 G2 G3z K3 G3 N3 Z3
  clear h1
  obtain ⟨nx, hnx⟩ : ∃ nx, nx = leN ((b.drop 8).take 4) := ⟨_, rfl⟩
  obtain ⟨dt, hdt⟩ : ∃ dt, dt = txt (((b.drop 8).drop 4).take cnt) := ⟨_, rfl⟩
  have N1 := Lib.hid (number_any gr bb (ob + 8) (cb - 8) 4 (b.drop 8) X3 S0.out.r (by decide))
  rw [← hnx] at N1
  have SC : Hid ((seC b).arr ⟨.slice none 0 0, .slice none 0 0, .slice none 0 0, .slice none 0 0⟩ = #[.int .i64 3, .slice none 0 0, .slice none 0 0, .slice none 0 0, .slice none 0 0, .int .i64 (nx : Int), .string dt]) := Lib.hid (by rw [hdt, hnx, CNT.out]; rfl)
  have HD := Lib.hid hdt
  clear hnx hdt
  have ON4 : Hid ((#[.int .i64 3, .slice none 0 0, .slice none 0 0, .slice none 0 0, .slice none 0 0, .int .i64 (nx : Int), .string dt] : Array Value).all (·.oneCell') = true) := Lib.hid (by simp [Value.oneCell'])
  go_enter Try.func26, Try.ntmps26
  go_wp2_with (first | (go_at_call 36; refine (GT.out _ BB2.out).mono ?_; rintro e wq ⟨rfl, rfl⟩) | (refine wpList_store_row rfl 27 (.tmp 3) (.tmp 12) rfl gn #[.int .i64 3, .slice none 0 0, .slice none 0 0, .slice none 0 0, .slice none 0 0, .int .i64 0, .string ⟨#[]⟩] rfl rfl 27 #[.int .i64 0, .slice none 0 0, .slice none 0 0, .slice none 0 0, .slice none 0 0, .int .i64 0, .string ⟨#[]⟩] GZ2.out size_node rfl ON1.out ?_; rw [hX2']) | (refine wpList_store_row rfl 64 (.tmp 5) (.tmp 18) rfl gr #[.slice (some ⟨bb, ob + 8, none⟩) 504 (cb - 8)] rfl rfl 64 #[.slice none 0 0] GZ3.out size_reader rfl ON2.out ?_; rw [hX3']) | (go_at_call 38; refine N1.out.mono ?_; rintro e w1 ⟨o1, c1, rfl, r1, k1⟩; have S1 := Lib.hid (S0.out.read r1 k1); clear r1 k1; obtain ⟨m0, m1, m2, m3, m4, m5, m6⟩ := node_cells S1.out.n; have f5 : w1.frozen? ⟨gn, 5, none⟩ = false := frozen_of_row _ _ _ _ _ S1.out.n; obtain ⟨Y, hY⟩ : ∃ Y, w1.setCell ⟨gn, 5, none⟩ (.int .i64 (nx : Int)) = Y := ⟨_, rfl⟩; have S2 : Hid (Sk w Y gs gn gr #[.int .i64 3, .slice none 0 0, .slice none 0 0, .slice none 0 0, .slice none 0 0, .int .i64 (nx : Int), .string ⟨#[]⟩] ((b.drop 8).drop 4) bb o1 c1) := Lib.hid (by rw [← hY]; exact S1.out.set 5 _); have N2 := Lib.hid (text_any gr bb o1 c1 cnt ((b.drop 8).drop 4) Y S2.out.r (by omega)); rw [← HD.out] at N2) | (go_at_call 39; refine N2.out.mono ?_; rintro e w2 ⟨o2, c2, rfl, r2, k2⟩; have S3 := Lib.hid (S2.out.read r2 k2); clear r2 k2; obtain ⟨p0, p1, p2, p3, p4, p5, p6⟩ := node_cells S3.out.n; have f6 : w2.frozen? ⟨gn, 6, none⟩ = false := frozen_of_row _ _ _ _ _ S3.out.n; obtain ⟨Y2, hY2⟩ : ∃ Y2, w2.setCell ⟨gn, 6, none⟩ (.string dt) = Y2 := ⟨_, rfl⟩; have S4 : Hid (Sk w Y2 gs gn gr #[.int .i64 3, .slice none 0 0, .slice none 0 0, .slice none 0 0, .slice none 0 0, .int .i64 (nx : Int), .string dt] (((b.drop 8).drop 4).drop cnt) bb o2 c2) := Lib.hid (by rw [← hY2]; exact S3.out.set 6 _); obtain ⟨q0, q1, q2, q3, q4, q5, q6⟩ := node_cells S4.out.n) | (refine wpList_store_row rfl 27 (.tmp 2) (.tmp 89) rfl gs #[.int .i64 3, .slice none 0 0, .slice none 0 0, .slice none 0 0, .slice none 0 0, .int .i64 (nx : Int), .string dt] rfl rfl 27 #[.int .i64 0, .slice none 0 0, .slice none 0 0, .slice none 0 0, .slice none 0 0, .int .i64 0, .string ⟨#[]⟩] S4.out.s size_node rfl ON4.out ?_))
  refine bodyPost_ret (results_cell_row rfl _ _ gs 27 #[.int .i64 3, .slice none 0 0, .slice none 0 0, .slice none 0 0, .slice none 0 0, .int .i64 (nx : Int), .string dt] (0, 0) _ rfl (setRow_heap _ _ _ _ _ _ S4.out.s) Try.underlying27 rfl size_node) rfl ?_
  exact ⟨by rw [SC.out], S4.out.bl.trans ((kept_setRow _ _ _).below S4.out.bl.size (fun x hx => by have := S4.out.o; omega))⟩
set_option maxHeartbeats 8000000 in
set_option maxRecDepth 100000 in
theorem seeming_other (bb ob cb : Nat) (b : List UInt8) (w : World) (hv : Bytes w (.slice (some ⟨bb, ob, none⟩) 512 cb) b) (hl : b.length = 512) (h1 : b.getD 1 0 ≠ 1) (h2 : b.getD 1 0 ≠ 2) (h3 : b.getD 1 0 ≠ 3) :
    Calls Try.prog 26 #[.slice (some ⟨bb, ob, none⟩) 512 cb] w fun e w' => e = .returned (.agg ((seO b).arr ⟨.slice none 0 0, .slice none 0 0, .slice none 0 0, .slice none 0 0⟩)) ∧ Below w.heap.size w w' := by
  obtain ⟨kk, hkk⟩ : ∃ kk, kk = c8 (b.getD 1 0) := ⟨_, rfl⟩
  have kk0 : 0 ≤ kk := by rw [hkk]; exact c8_lo _
  have kk1 : kk < 256 := by rw [hkk]; exact c8_hi _
  have e1 : (kk == 1) = false := by rw [beq_eq_false_iff_ne, hkk]; exact fun e => h1 (c8_inj (e.trans (by decide)))
  have e2 : (kk == 2) = false := by rw [beq_eq_false_iff_ne, hkk]; exact fun e => h2 (c8_inj (e.trans (by decide)))
  have e3 : (kk == 3) = false := by rw [beq_eq_false_iff_ne, hkk]; exact fun e => h3 (c8_inj (e.trans (by decide)))
  clear h1 h2 h3
  have V := Lib.hid hv
  have HL := Lib.hid hl
  have hcb : 512 ≤ cb ∧ cb ≤ 9223372036854775807 := by
    obtain ⟨a2, c2, e, q1, q2, _⟩ := hv
    simp only [Value.slice.injEq] at e
    unfold maxLen at q2
    rw [e.2.2]
    omega
  obtain ⟨hcb1, hcb2⟩ := hcb
  have hb' : Bytes w (.slice (some ⟨bb, ob, none⟩) b.length cb) b := by rw [hl]; exact hv
  have c1 : w.cell? ⟨bb, ob + 1, none⟩ = some (.int .u8 kk) := by
    obtain ⟨a2, c2, e, _, _, _, h3⟩ := hv
    simp only [Value.slice.injEq] at e
    obtain ⟨b2, o2, e2, h4⟩ := h3 1 (by omega)
    rw [← e.1] at e2
    simp only [Option.some.injEq, Addr.mk.injEq, and_true] at e2
    rw [e2.1, e2.2, h4, ← hkk]
  have bbl : bb < w.heap.size := block_lt_of_cell c1
  obtain ⟨cnt, hcnt⟩ : ∃ cnt, cnt = leN (sub b 2 2) := ⟨_, rfl⟩
  have hc6 : cnt < 65536 := by rw [hcnt]; exact leN2_lt _
  have GT : Hid (∀ W, Below w.heap.size w W → Calls Try.prog 36 #[.slice (some ⟨bb, ob + 2, none⟩) 2 (cb - 2)] W fun e w' => e = .returned (.int .i64 (cnt : Int)) ∧ w' = W) := Lib.hid (fun W hW => by
    have hd := (hb'.below hW).drop 2 (by rw [HL.out]; omega)
    rw [← List.length_drop] at hd
    have ht := hd.take 2 (by rw [List.length_drop, HL.out]; omega)
    simp only [Option.map_some, add_plain] at ht
    rw [hcnt]
    exact get_any _ _ W ht (by show ((b.drop 2).take 2).length ≤ 4; rw [List.length_take]; omega))
  have BD : Hid (Bytes w (.slice (some ⟨bb, ob + 8, none⟩) 504 (cb - 8)) (b.drop 8)) := Lib.hid (by
    have hd := hb'.drop 8 (by rw [HL.out]; omega)
    simp only [Option.map_some, add_plain, HL.out] at hd
    exact hd)
  have D8 : Hid ((b.drop 8).length = 504) := Lib.hid (by rw [List.length_drop, hl])
  have CNT := Lib.hid hcnt
  obtain ⟨gs, hgs⟩ : ∃ gs, gs = w.heap.size := ⟨_, rfl⟩
  obtain ⟨X1, hX1⟩ : ∃ X1, X1 = w.alloc (.cells #[.int .i64 0, .slice none 0 0, .slice none 0 0, .slice none 0 0, .slice none 0 0, .int .i64 0, .string ⟨#[]⟩] 27) := ⟨_, rfl⟩
  obtain ⟨gn, hgn⟩ : ∃ gn, gn = X1.heap.size := ⟨_, rfl⟩
  obtain ⟨X2z, hX2z⟩ : ∃ X2z, X2z = X1.alloc (.cells #[.int .i64 0, .slice none 0 0, .slice none 0 0, .slice none 0 0, .slice none 0 0, .int .i64 0, .string ⟨#[]⟩] 27) := ⟨_, rfl⟩
  obtain ⟨X2, hX2⟩ : ∃ X2, X2 = X2z.setRow gn #[.int .i64 kk, .slice none 0 0, .slice none 0 0, .slice none 0 0, .slice none 0 0, .int .i64 0, .string ⟨#[]⟩] := ⟨_, rfl⟩
  obtain ⟨gr, hgr⟩ : ∃ gr, gr = X2.heap.size := ⟨_, rfl⟩
  obtain ⟨X3z, hX3z⟩ : ∃ X3z, X3z = X2.alloc (.cells #[.slice none 0 0] 64) := ⟨_, rfl⟩
  obtain ⟨X3, hX3⟩ : ∃ X3, X3 = X3z.setRow gr #[.slice (some ⟨bb, ob + 8, none⟩) 504 (cb - 8)] := ⟨_, rfl⟩
  have B1 : Below w.heap.size w X1 := by rw [hX1]; exact (Below.refl _ _).alloc (Nat.le_refl _) _
  have s1 : gn = gs + 1 := by rw [hgn, hX1, hgs]; simp
  have s2z : X2z.heap.size = gn + 1 := by rw [hX2z, hgn]; simp
  have G2z : X2z.heap[gn]? = some (.cells #[.int .i64 0, .slice none 0 0, .slice none 0 0, .slice none 0 0, .slice none 0 0, .int .i64 0, .string ⟨#[]⟩] 27 (0, 0)) := by rw [hX2z, hgn]; exact heap_alloc_new _ _
  have K2 : Kept (fun k => k = gn) X2z X2 := by rw [hX2]; exact kept_setRow _ _ _
  have G2 : X2.heap[gn]? = some (.cells #[.int .i64 kk, .slice none 0 0, .slice none 0 0, .slice none 0 0, .slice none 0 0, .int .i64 0, .string ⟨#[]⟩] 27 (0, 0)) := by rw [hX2]; exact setRow_heap _ _ _ _ _ _ G2z
  have s2 : gr = gn + 1 := by rw [hgr, hX2]; simp [World.setRow, s2z]
  have B2 : Below w.heap.size w X2 := by
    have h := B1.alloc B1.size (.cells #[.int .i64 0, .slice none 0 0, .slice none 0 0, .slice none 0 0, .slice none 0 0, .int .i64 0, .string ⟨#[]⟩] 27)
    rw [← hX2z] at h
    exact h.trans (K2.below h.size (fun x hx => by omega))
  have G3z : X3z.heap[gr]? = some (.cells #[.slice none 0 0] 64 (0, 0)) := by rw [hX3z, hgr]; exact heap_alloc_new _ _
  have K3 : Kept (fun k => k = gr) X3z X3 := by rw [hX3]; exact kept_setRow _ _ _
  have G3 : X3.heap[gr]? = some (.cells #[.slice (some ⟨bb, ob + 8, none⟩) 504 (cb - 8)] 64 (0, 0)) := by rw [hX3]; exact setRow_heap _ _ _ _ _ _ G3z
  have s3z : X3z.heap.size = gr + 1 := by rw [hX3z, hgr]; simp
  have B3 : Below w.heap.size w X3 := by
    have h := B2.alloc B2.size (.cells #[.slice none 0 0] 64)
    rw [← hX3z] at h
    exact h.trans (K3.below h.size (fun x hx => by omega))
  have N3 : X3.heap[gn]? = some (.cells #[.int .i64 kk, .slice none 0 0, .slice none 0 0, .slice none 0 0, .slice none 0 0, .int .i64 0, .string ⟨#[]⟩] 27 (0, 0)) := by
    rw [K3.block gn (by omega) (by omega), hX3z, Below.heap_alloc _ _ _ (by omega)]; exact G2
  have Z3 : X3.heap[gs]? = some (.cells #[.int .i64 0, .slice none 0 0, .slice none 0 0, .slice none 0 0, .slice none 0 0, .int .i64 0, .string ⟨#[]⟩] 27 (0, 0)) := by
    rw [K3.block gs (by omega) (by omega), hX3z, Below.heap_alloc _ _ _ (by omega), K2.block gs (by omega) (by omega), hX2z, Below.heap_alloc _ _ _ (by omega), hX1, hgs]; exact heap_alloc_new _ _
  have BB2 := Lib.hid B2
  have S0 : Hid (Sk w X3 gs gn gr #[.int .i64 kk, .slice none 0 0, .slice none 0 0, .slice none 0 0, .slice none 0 0, .int .i64 0, .string ⟨#[]⟩] (b.drop 8) bb (ob + 8) (cb - 8)) := Lib.hid ⟨N3, Z3,
      ⟨by rw [D8.out]; exact G3, by rw [D8.out]; exact BD.out.below B3, by omega, by have := B3.size; omega⟩, ⟨by omega, by omega, by omega, bbl⟩, B3⟩
  have k1 : X1.cell? ⟨bb, ob + 1, none⟩ = some (.int .u8 kk) := by rw [B1.cell (p := ⟨bb, ob + 1, none⟩) (block_lt_of_cell c1)]; exact c1
  have GZ2 := Lib.hid G2z
  have GZ3 := Lib.hid G3z
  have ON1 : Hid ((#[.int .i64 kk, .slice none 0 0, .slice none 0 0, .slice none 0 0, .slice none 0 0, .int .i64 0, .string ⟨#[]⟩] : Array Value).all (·.oneCell') = true) := Lib.hid (by simp [Value.oneCell'])
  have ON2 : Hid ((#[.slice (some ⟨bb, ob + 8, none⟩) 504 (cb - 8)] : Array Value).all (·.oneCell') = true) := Lib.hid (by simp [Value.oneCell'])
  obtain ⟨n0, n1, n2, n3, n4, n5, n6⟩ := node_cells S0.out.n
  have hgs' := hgs.symm; have hX1' := hX1.symm; have hgn' := hgn.symm; have hX2' := hX2.symm; have hX2z' := hX2z.symm; have hX3z' := hX3z.symm; have hgr' := hgr.symm; have hX3' := hX3.symm
  clear hgs hX1 hgn hX2 hX2z hX3z hgr hX3 B1 B2 B3 hb' hv hl bbl hcnt s1 s2 s2z s3z G2z K2 G2 G3z K3 G3 N3 Z3
  have SC : Hid ((seO b).arr ⟨.slice none 0 0, .slice none 0 0, .slice none 0 0, .slice none 0 0⟩ = #[.int .i64 kk, .slice none 0 0, .slice none 0 0, .slice none 0 0, .slice none 0 0, .int .i64 0, .string ⟨#[]⟩]) := Lib.hid (by rw [hkk]; rfl)
  clear hkk
  go_enter Try.func26, Try.ntmps26
  go_wp2_with (first | (go_at_call 36; refine (GT.out _ BB2.out).mono ?_; rintro e wq ⟨rfl, rfl⟩) | (refine wpList_store_row rfl 27 (.tmp 3) (.tmp 12) rfl gn #[.int .i64 kk, .slice none 0 0, .slice none 0 0, .slice none 0 0, .slice none 0 0, .int .i64 0, .string ⟨#[]⟩] rfl rfl 27 #[.int .i64 0, .slice none 0 0, .slice none 0 0, .slice none 0 0, .slice none 0 0, .int .i64 0, .string ⟨#[]⟩] GZ2.out size_node rfl ON1.out ?_; rw [hX2']) | (refine wpList_store_row rfl 64 (.tmp 5) (.tmp 18) rfl gr #[.slice (some ⟨bb, ob + 8, none⟩) 504 (cb - 8)] rfl rfl 64 #[.slice none 0 0] GZ3.out size_reader rfl ON2.out ?_; rw [hX3']) | (refine wpList_store_row rfl 27 (.tmp 2) (.tmp 89) rfl gs #[.int .i64 kk, .slice none 0 0, .slice none 0 0, .slice none 0 0, .slice none 0 0, .int .i64 0, .string ⟨#[]⟩] rfl rfl 27 #[.int .i64 0, .slice none 0 0, .slice none 0 0, .slice none 0 0, .slice none 0 0, .int .i64 0, .string ⟨#[]⟩] S0.out.s size_node rfl ON1.out ?_))
  refine bodyPost_ret (results_cell_row rfl _ _ gs 27 #[.int .i64 kk, .slice none 0 0, .slice none 0 0, .slice none 0 0, .slice none 0 0, .int .i64 0, .string ⟨#[]⟩] (0, 0) _ rfl (setRow_heap _ _ _ _ _ _ S0.out.s) Try.underlying27 rfl size_node) rfl ?_
  exact ⟨by rw [SC.out], S0.out.bl.trans ((kept_setRow _ _ _).below S0.out.bl.size (fun x hx => by have := S0.out.o; omega))⟩
end Go.Proofs.Ytmoghdpjemidgaa
