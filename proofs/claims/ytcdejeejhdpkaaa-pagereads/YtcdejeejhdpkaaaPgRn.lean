/-
  Several texts as one.
-/
import Derived.Test.YtcdejeejhdpkaaaPgEn
namespace Go.Proofs.Ytcdejeejhdpkaaa
open Go.RowKit Go.Maps
set_option maxHeartbeats 16000000 in
set_option maxRecDepth 100000 in
theorem renc_leaf (n : Nd) (v : Nv) (w : World) (hv : Ls w v n) (hz : Sz n) (hf : fitB n = true) (il : IsLeaf n) :
    Calls Try.prog 33 #[.agg (n.arr v)] w fun e w' => ∃ v', e = .returned (.tuple #[v', .int .i64 0]) ∧ Own w.heap.size w' v' (encN n) ∧ Below w.heap.size w w' := by
  have V := Lib.hid hv
  have FT := Lib.hid (fun W (h : Ls W v n) => rFits_any n v W h hz)
  rw [hf] at FT
  have IL := Lib.hid il
  obtain ⟨r, hr⟩ : ∃ r, r = encN n := ⟨_, rfl⟩
  rw [← hr]
  have RR := Lib.hid hr
  have FC := Lib.hid (fit_cases hf)
  have hkk := il.k
  obtain ⟨kind, ents, chs, keys, kids, next, data⟩ := n
  obtain ⟨ve, vc, vk, vh⟩ := v
  simp only at hkk
  subst hkk
  obtain ⟨ae, ce, he, hle, hme⟩ := hv.e.len
  obtain ⟨ac, cc, hc, hlc, hmc⟩ := hv.c.len
  obtain ⟨ak, ck, hk, hlk, hmk⟩ := hv.k.len
  obtain ⟨ah, ch, hh, hlh, hmh⟩ := hv.h.len
  simp only at he hc hk hh hle hlc hlk hlh
  subst he hc hk hh
  unfold maxLen at hme hmc hmk hmh
  unfold Nd.arr at FT ⊢
  simp only at FT ⊢
  obtain ⟨ne, hne⟩ : ∃ k, k = ents.length := ⟨_, rfl⟩
  obtain ⟨nc, hnc⟩ : ∃ k, k = chs.length := ⟨_, rfl⟩
  obtain ⟨nk, hnk⟩ : ∃ k, k = keys.length := ⟨_, rfl⟩
  obtain ⟨nh, hnh⟩ : ∃ k, k = kids.length := ⟨_, rfl⟩
  rw [← hne, ← hnc, ← hnk, ← hnh] at FT
  rw [← hne, ← hnc, ← hnk, ← hnh]
  rw [← hne] at hle; rw [← hnc] at hlc; rw [← hnk] at hlk; rw [← hnh] at hlh
  have HE := Lib.hid hne; have HC := Lib.hid hnc; have HK := Lib.hid hnk; have HH := Lib.hid hnh
  obtain ⟨gx, hgx⟩ : ∃ gx, gx = w.heap.size := ⟨_, rfl⟩
  obtain ⟨X, hX⟩ : ∃ X, X = w.alloc (.cells #[.int .i64 1, .slice ae ne ce, .slice ac nc cc, .slice ak nk ck, .slice ah nh ch, .int .i64 next, .string data] 27) := ⟨_, rfl⟩
  have XB : Hid (Below w.heap.size w X) := Lib.hid (by rw [hX]; exact (Below.refl _ _).alloc (Nat.le_refl _) _)
  have XG : Hid (X.heap[gx]? = some (.cells #[.int .i64 1, .slice ae ne ce, .slice ac nc cc, .slice ak nk ck, .slice ah nh ch, .int .i64 next, .string data] 27 (0, 0))) := Lib.hid (by rw [hX, hgx]; exact heap_alloc_new _ _)
  have CX : Hid (∀ W, Below X.heap.size X W → W.heap[gx]? = some (.cells #[.int .i64 1, .slice ae ne ce, .slice ac nc cc, .slice ak nk ck, .slice ah nh ch, .int .i64 next, .string data] 27 (0, 0))) := Lib.hid (fun W h => (h.block gx (lt_of_heap XG.out)).trans XG.out)
  have EN : Hid (∀ W, Below X.heap.size X W → Below w.heap.size w W) := Lib.hid (fun W h => XB.out.trans (h.mono XB.out.size))
  have LX : Hid (∀ W, Below X.heap.size X W → Ls W ⟨.slice ae ents.length ce, .slice ac chs.length cc, .slice ak keys.length ck, .slice ah kids.length ch⟩ ⟨1, ents, chs, keys, kids, next, data⟩) := Lib.hid (fun W h => V.out.below (EN.out W h))
  rw [← HE.out, ← HC.out, ← HK.out, ← HH.out] at LX
  obtain ⟨x0, x1, x2, x3, x4, x5, x6⟩ := node_cells XG.out
  have hX' := hX.symm
  have hgx' := hgx.symm
  clear hr hv hz hf hne hnc hnk hnh hX hgx
  have hnk0 : nk = 0 := by rw [HK.out]; exact il.y
  have hds : data.size = 0 := il.d
  have hn5 : ne ≤ 512 := by
    rw [HE.out]
    rcases FC.out with ⟨_, h2, _⟩ | ⟨h1, _⟩ | h1
    · rw [leaf_len il] at h2
      have h3 := sum_ge (szL (⟨1, ents, chs, keys, kids, next, data⟩ : Nd)) 1 (fun x hx => by unfold szL at hx; obtain ⟨y, _, rfl⟩ := List.mem_map.1 hx; unfold szE; omega)
      rw [szL_length _ il.c] at h3
      have h4 : (Nd.ents ⟨1, ents, chs, keys, kids, next, data⟩).length = ents.length := rfl
      omega
    · have := h1.k; simp at this
    · have := h1.k; simp at this
  obtain ⟨bs, hbs⟩ : ∃ bs, bs = bsL ⟨1, ents, chs, keys, kids, next, data⟩ := ⟨_, rfl⟩
  have BS : Hid (bs.length = ne ∧ (∀ k, k < ne → bs.getD k [] = enE (ents.getD k (⟨#[]⟩, ⟨#[]⟩)) (chs.getD k 0).toNat) ∧ 8 + bs.flatten.length ≤ 512 ∧ r = encL 1 ne bs.flatten) := Lib.hid ⟨by rw [hbs, bsL_length _ il.c, HE.out], fun k hk => by rw [hbs]; exact bsL_at _ il.c k (by rw [← show ne = (Nd.ents ⟨1, ents, chs, keys, kids, next, data⟩).length from HE.out]; exact hk), by
    rcases FC.out with ⟨_, h2, _⟩ | ⟨h1, _⟩ | h1
    · rw [hbs]; exact h2
    · have := h1.k; simp at this
    · have := h1.k; simp at this, by rw [RR.out, (encN_leaf _ il).1, hbs, HE.out]⟩
  have HQ : Hid (nc = ne ∧ ∀ k, k < ne → (ents.getD k (⟨#[]⟩, ⟨#[]⟩)).1.size ≤ 120 ∧ staB (ents.getD k (⟨#[]⟩, ⟨#[]⟩)).2 (chs.getD k 0) = true) := Lib.hid ⟨by rw [HC.out, HE.out]; exact il.c, fun k hk => leafG_rel _ _ _ il.g k (by rw [HE.out] at hk; exact hk)⟩
  subst hnk0
  clear il hbs
  have EC : Hid ((#[.int .u8 181, .int .u8 1, .int .u8 ((ne : Int) % 256), .int .u8 ((ne : Int) / 256), .int .u8 0, .int .u8 0, .int .u8 0, .int .u8 0] : Array Value) = (cells8 (hdN 1 ne ++ [0, 0, 0, 0])).toArray) := Lib.hid (hd8_cells 1 ne (by decide) (by omega))
  obtain ⟨hd8, hhd⟩ : ∃ h, h = hdN 1 ne ++ [0, 0, 0, 0] := ⟨_, rfl⟩
  rw [← hhd] at EC
  have HD : Hid (hd8 = hdN 1 ne ++ [0, 0, 0, 0] ∧ hd8.length = 8) := Lib.hid ⟨hhd, by rw [hhd, List.length_append, hd_length]; rfl⟩
  clear hhd
  go_enter Try.func33, Try.ntmps33
  go_wp2_with (go_at_call 46; refine (FT.out X (LX.out X (Below.refl _ _))).mono ?_; rintro e w1 ⟨rfl, hb⟩; have B1 := Lib.hid hb; obtain ⟨x0, x1, x2, x3, x4, x5, x6⟩ := node_cells (CX.out w1 hb); clear hb; obtain ⟨gb, hgb⟩ : ∃ gb, w1.heap.size = gb := ⟨_, rfl⟩; obtain ⟨Y, hY⟩ : ∃ Y, w1.alloc (.cells #[.int .u8 181, .int .u8 1, .int .u8 ((ne : Int) % 256), .int .u8 ((ne : Int) / 256), .int .u8 0, .int .u8 0, .int .u8 0, .int .u8 0] 5) = Y := ⟨_, rfl⟩; have YO : Hid (Own gb Y (.slice (some ⟨gb, 0, none⟩) 8 8) hd8 ∧ Below X.heap.size X Y ∧ X.heap.size ≤ gb ∧ gb < Y.heap.size) := Lib.hid ⟨own_of (by rw [← hY, ← hgb, EC.out]; exact heap_alloc_new _ _) (Nat.le_refl _) HD.out.2 (by decide), by rw [← hY]; exact B1.out.alloc B1.out.size _, by rw [← hgb]; exact B1.out.size, by rw [← hY, ← hgb]; simp⟩; obtain ⟨x0, x1, x2, x3, x4, x5, x6⟩ := node_cells (CX.out Y YO.out.2.1))
  have EB : Hid (∀ W vb, Gr (.slice (some ⟨gb, 0, none⟩) 8 8) vb Y W → Below X.heap.size X W ∧ gb ≤ W.heap.size) := Lib.hid (fun W vb h => ⟨YO.out.2.1.trans (h.k.below YO.out.2.1.size (fun x hx => by have e : x = gb := (by simpa [Value.ownBlock] using hx); have := YO.out.2.2.1; omega)), by have := h.k.size; have := YO.out.2.2.2; omega⟩)
  clear x0 x1 x2 x3 x4 x5 x6 hX' hgx' hY hgb
  go_loopg [6, 7] ne (fun gg s6 si wr => ∃ (k : Nat) (vb : Value), k ≤ ne ∧ gg = ne - k ∧ si = .int .i64 k ∧ vb = s6 ∧ Own gb wr vb (hd8 ++ (bs.take k).flatten) ∧ Gr (.slice (some ⟨gb, 0, none⟩) 8 8) vb Y wr)
  case atStart => exact ⟨0, _, Nat.zero_le _, rfl, rfl, rfl, by simpa using YO.out.1, Gr.refl _ _⟩
  case round =>
    obtain ⟨k, vb, hk, hg, rfl, rfl, ho, hgr⟩ := hrel
    have R : Aside (gk = ne - k ∧ Own gb wr vb (hd8 ++ (bs.take k).flatten) ∧ Gr (.slice (some ⟨gb, 0, none⟩) 8 8) vb Y wr) := ⟨hg, ho, hgr⟩
    have BX := Lib.hid (EB.out wr vb hgr)
    clear hg ho hgr
    obtain ⟨x0, x1, x2, x3, x4, x5, x6⟩ := node_cells (CX.out wr BX.out.1)
    by_cases hlt : k < ne
    · obtain ⟨b, off, hae, c0, c1⟩ := (LX.out wr BX.out.1).e.at k (by show k < ents.length; rw [← HE.out]; exact hlt)
      have DC : Hid (∃ b' off', ac = some ⟨b', off', none⟩ ∧ ∀ W, Below X.heap.size X W → W.cell? ⟨b', off' + k, none⟩ = some (.int .i64 (chs.getD k 0))) := Lib.hid (by
        obtain ⟨b', off', hac, d0⟩ := (LX.out X (Below.refl _ _)).c.at k (by show k < chs.length; rw [← HC.out, HQ.out.1]; exact hlt)
        exact ⟨b', off', hac, fun W h => by rw [h.cell (p := ⟨b', off' + k, none⟩) (block_lt_of_cell d0)]; exact d0⟩)
      obtain ⟨b', off', hac, dX⟩ := DC.out
      simp only at hae c0 c1
      subst hae hac
      have QK := HQ.out.2 k hlt
      have BK := BS.out.2.1 k hlt
      have FN := Lib.hid (flat_next bs k (by rw [BS.out.1]; exact hlt))
      rw [BK] at FN
      have FL := flat_le bs (k + 1)
      rw [FN.out, List.length_append] at FL
      obtain ⟨x, hx⟩ : ∃ x, x = ents.getD k (⟨#[]⟩, ⟨#[]⟩) := ⟨_, rfl⟩
      obtain ⟨c, hc⟩ : ∃ c, c = chs.getD k 0 := ⟨_, rfl⟩
      rw [← hc] at dX QK FN FL
      rw [← hx] at c0 c1 QK FN FL
      obtain ⟨xk, xv⟩ := x
      simp only at c0 c1 QK
      obtain ⟨z1, z2, z3⟩ := staB_ch QK.2
      have z4 := staB_size QK.2
      have z5 := QK.1
      obtain ⟨cN, hcN⟩ : ∃ cN : Nat, c = (cN : Int) := ⟨c.toNat, by omega⟩
      subst hcN
      rw [Int.toNat_natCast] at FN FL
      have hL5 : Hid ((hd8 ++ (bs.take k).flatten).length + (enE (xk, xv) cN).length ≤ 512) := Lib.hid (by rw [List.length_append, HD.out.2]; have := BS.out.2.2.1; omega)
      have EL := Lib.hid (enE_length (xk, xv) cN)
      have DX := Lib.hid dX
      clear hx hc QK BK FL DC
      have hlt' : (k : Int) < (ne : Int) := by omega
      have hlt2 : (k : Int) < (nc : Int) := by have := HQ.out.1; omega
      obtain ⟨L, hL⟩ : ∃ L, L = hd8 ++ (bs.take k).flatten := ⟨_, rfl⟩
      have RO : Hid (Own gb wr vb L ∧ Gr (.slice (some ⟨gb, 0, none⟩) 8 8) vb Y wr) := Lib.hid (by rw [hL]; exact R.out.2)
      rw [← hL] at hL5
      have HLL := Lib.hid hL
      clear hL
      obtain ⟨g8, hg8⟩ : ∃ g8, wr.heap.size = g8 := ⟨_, rfl⟩
      obtain ⟨Z, hZ⟩ : ∃ Z, wr.alloc (.cells #[.string xk, .string xv] 29) = Z := ⟨_, rfl⟩
      have ZO : Hid (Own gb Z vb L ∧ Gr (.slice (some ⟨gb, 0, none⟩) 8 8) vb Y Z ∧ Nb g8 vb ∧ Z.heap[g8]? = some (.cells #[.string xk, .string xv] 29 (0, 0))) := Lib.hid ⟨by rw [← hZ]; exact RO.out.1.below ((Below.refl _ _).alloc (Nat.le_refl _) _), by rw [← hZ]; exact RO.out.2.alloc _, fun j hj => by have := (RO.out.1.lt j hj.symm).2; omega, by rw [← hZ, ← hg8]; exact heap_alloc_new _ _⟩
      have BZ := Lib.hid (EB.out Z vb ZO.out.2.1)
      obtain ⟨e0, e1⟩ := entry_cells ZO.out.2.2.2
      obtain ⟨n0, n1, n2, n3, n4, n5, n6⟩ := node_cells (CX.out Z BZ.out.1)
      have dZ := DX.out Z BZ.out.1
      have MT1 : True := trivial
      have MT2 : True := trivial
      clear dX
      by_cases h0 : cN = 0
      · subst h0
        have EE : Hid (enE (xk, xv) 0 = [UInt8.ofNat xk.size, UInt8.ofNat xv.size] ++ xk.data.toList ++ xv.data.toList) := Lib.hid rfl
        have TC := Lib.hid (two_cells xk.size xv.size (by omega) (by omega))
        have L1 : Hid (L.length + 200 ≤ 10000) := Lib.hid (by have := hL5.out; omega)
        have g00 : (((0 : Nat) : Int) != 0) = false := by decide
        go_wp2_with (first | (at_builtin; refine app_fresh rfl (.tmp 62) (.tmp 69) rfl (B := gb) (w0 := Z) (v := vb) (l := L) [UInt8.ofNat xk.size, UInt8.ofNat xv.size] _ 2 TC.out rfl rfl ZO.out.1 BZ.out.2 rfl (by have := L1.out; simp; omega) ?_; intro v1 w2 H2; have G2 : Hid (Gr (.slice (some ⟨gb, 0, none⟩) 8 8) v1 Y w2 ∧ Nb g8 v1 ∧ w2.heap[g8]? = some (.cells #[.string xk, .string xv] 29 (0, 0))) := Lib.hid ⟨ZO.out.2.1.trans H2.out.2, H2.out.2.nb ZO.out.2.2.1 (lt_of_heap ZO.out.2.2.2), H2.out.2.block ZO.out.2.2.1 ZO.out.2.2.2⟩; obtain ⟨e0, e1⟩ := entry_cells G2.out.2.2; have T1 := Lib.hid (dtext_any gb v1 _ xk w2 H2.out.1 (EB.out w2 v1 G2.out.1).2 (by rw [List.length_append]; have := L1.out; simp; omega))) | (go_at_call 47; clear MT1; refine T1.out.mono ?_; rintro e w3 ⟨v2, rfl, o3, g3⟩; have O3 := Lib.hid o3; have G3 : Hid (Gr (.slice (some ⟨gb, 0, none⟩) 8 8) v2 Y w3 ∧ Nb g8 v2 ∧ w3.heap[g8]? = some (.cells #[.string xk, .string xv] 29 (0, 0))) := Lib.hid ⟨G2.out.1.trans g3, g3.nb G2.out.2.1 (lt_of_heap G2.out.2.2), g3.block G2.out.2.1 G2.out.2.2⟩; obtain ⟨e0, e1⟩ := entry_cells G3.out.2.2; have T2 := Lib.hid (dtext_any gb v2 _ xv w3 o3 (EB.out w3 v2 G3.out.1).2 (by rw [List.length_append, List.length_append, str_size]; have := L1.out; simp; omega)); clear o3 g3) | (go_at_call 47; clear MT2; refine T2.out.mono ?_; rintro e w4 ⟨v3, rfl, o4, g4⟩; have O4 : Hid (Own gb w4 v3 (hd8 ++ (bs.take (k + 1)).flatten) ∧ Gr (.slice (some ⟨gb, 0, none⟩) 8 8) v3 Y w4) := Lib.hid ⟨by rw [FN.out, EE.out, ← List.append_assoc, ← HLL.out]; simpa [List.append_assoc] using o4, G3.out.1.trans g4⟩; have d4 := DX.out w4 (EB.out w4 v3 O4.out.2).1; obtain ⟨n0, n1, n2, n3, n4, n5, n6⟩ := node_cells (CX.out w4 (EB.out w4 v3 O4.out.2).1); clear o4 g4))
        go_roundg (ne - (k + 1))
        case measure => have := R.out.1; omega
        case rel => exact ⟨k + 1, v3, by omega, rfl, by go_num, rfl, O4.out.1, O4.out.2⟩
      · have EE : Hid (enE (xk, xv) cN = [UInt8.ofNat xk.size, UInt8.ofNat 255] ++ xk.data.toList ++ leB 4 cN) := Lib.hid (by unfold enE; simp only; rw [if_neg h0, if_neg h0])
        have XV : Hid (xv.data.toList = []) := Lib.hid (List.length_eq_zero_iff.1 (by rw [str_size]; exact z3 (by omega)))
        have TC := Lib.hid (two_cells xk.size 255 (by omega) (by omega))
        have L1 : Hid (L.length + 200 ≤ 10000) := Lib.hid (by have := hL5.out; omega)
        have g00 : ((cN : Int) != 0) = true := by rw [bne_iff_ne]; omega
        have MN : True := trivial
        clear h0
        go_wp2_with (first | (at_builtin; refine app_fresh rfl (.tmp 62) (.tmp 69) rfl (B := gb) (w0 := Z) (v := vb) (l := L) [UInt8.ofNat xk.size, UInt8.ofNat 255] _ 2 TC.out rfl rfl ZO.out.1 BZ.out.2 rfl (by have := L1.out; simp; omega) ?_; intro v1 w2 H2; have G2 : Hid (Gr (.slice (some ⟨gb, 0, none⟩) 8 8) v1 Y w2 ∧ Nb g8 v1 ∧ w2.heap[g8]? = some (.cells #[.string xk, .string xv] 29 (0, 0))) := Lib.hid ⟨ZO.out.2.1.trans H2.out.2, H2.out.2.nb ZO.out.2.2.1 (lt_of_heap ZO.out.2.2.2), H2.out.2.block ZO.out.2.2.1 ZO.out.2.2.2⟩; obtain ⟨e0, e1⟩ := entry_cells G2.out.2.2; have T1 := Lib.hid (dtext_any gb v1 _ xk w2 H2.out.1 (EB.out w2 v1 G2.out.1).2 (by rw [List.length_append]; have := L1.out; simp; omega))) | (go_at_call 47; clear MT1; refine T1.out.mono ?_; rintro e w3 ⟨v2, rfl, o3, g3⟩; have O3 := Lib.hid o3; have G3 : Hid (Gr (.slice (some ⟨gb, 0, none⟩) 8 8) v2 Y w3 ∧ Nb g8 v2 ∧ w3.heap[g8]? = some (.cells #[.string xk, .string xv] 29 (0, 0))) := Lib.hid ⟨G2.out.1.trans g3, g3.nb G2.out.2.1 (lt_of_heap G2.out.2.2), g3.block G2.out.2.1 G2.out.2.2⟩; obtain ⟨e0, e1⟩ := entry_cells G3.out.2.2; have T2 := Lib.hid (dtext_any gb v2 _ xv w3 o3 (EB.out w3 v2 G3.out.1).2 (by rw [List.length_append, List.length_append, str_size]; have := L1.out; simp; omega)); clear o3 g3) | (go_at_call 47; clear MT2; refine T2.out.mono ?_; rintro e w4 ⟨v3, rfl, o4, g4⟩; have O4 : Hid (Own gb w4 v3 (L ++ [UInt8.ofNat xk.size, UInt8.ofNat 255] ++ xk.data.toList) ∧ Gr (.slice (some ⟨gb, 0, none⟩) 8 8) v3 Y w4) := Lib.hid ⟨by have q := o4; rw [XV.out, List.append_nil] at q; exact q, G3.out.1.trans g4⟩; have T3 := Lib.hid (dnumber_any gb v3 _ cN w4 O4.out.1 (EB.out w4 v3 O4.out.2).2 (by rw [List.length_append, List.length_append, str_size]; have := L1.out; simp; omega) (by omega)); have d4 := DX.out w4 (EB.out w4 v3 O4.out.2).1; obtain ⟨n0, n1, n2, n3, n4, n5, n6⟩ := node_cells (CX.out w4 (EB.out w4 v3 O4.out.2).1); clear o4 g4) | (go_at_call 48; refine T3.out.mono ?_; rintro e w5 ⟨v4, rfl, o5, g5⟩; have O5 : Hid (Own gb w5 v4 (hd8 ++ (bs.take (k + 1)).flatten) ∧ Gr (.slice (some ⟨gb, 0, none⟩) 8 8) v4 Y w5) := Lib.hid ⟨by rw [FN.out, EE.out, ← List.append_assoc, ← HLL.out]; simpa [List.append_assoc] using o5, O4.out.2.trans g5⟩; clear o5 g5))
        go_roundg (ne - (k + 1))
        case measure => have := R.out.1; omega
        case rel => exact ⟨k + 1, v4, by omega, rfl, by go_num, rfl, O5.out.1, O5.out.2⟩
    · obtain ⟨BD, hBD⟩ : ∃ BD, BD = bs.flatten := ⟨_, rfl⟩
      have TO : Hid (Own gb wr vb (hd8 ++ BD) ∧ Gr (.slice (some ⟨gb, 0, none⟩) 8 8) vb Y wr ∧ 8 + BD.length ≤ 512 ∧ r = encL 1 ne BD) := Lib.hid (by
        have q := R.out.2
        rw [List.take_of_length_le (by rw [BS.out.1]; omega)] at q
        rw [hBD]
        exact ⟨q.1, q.2, BS.out.2.2.1, BS.out.2.2.2⟩)
      have hge : ¬ (k : Int) < (ne : Int) := by omega
      have hge' : decide ((k : Int) < (ne : Int)) = false := decide_eq_false hge
      clear hBD
      have hT5 : BD.length ≤ 504 := by have := TO.out.2.2.1; omega
      obtain ⟨wq, hwq⟩ : ∃ x, x = wr := ⟨_, rfl⟩
      subst hwq
      go_wp2_with fail
      clear x0 x1 x2 x3 x4 x5 x6 hlt hk hge hge'
      go_loopg [6] (504 - BD.length) (fun gg s6 wr => ∃ (j : Nat) (vc' : Value), vc' = s6 ∧ j ≤ 504 - BD.length ∧ gg = 504 - BD.length - j ∧ Own gb wr vc' (hd8 ++ BD ++ List.replicate j 0) ∧ Gr (.slice (some ⟨gb, 0, none⟩) 8 8) vc' Y wr)
      case atStart => exact ⟨0, _, rfl, Nat.zero_le _, rfl, by simpa using TO.out.1, TO.out.2.1⟩
      case round =>
        obtain ⟨j, vj, rfl, hj, hg, ho, hgr⟩ := hrel
        have U : Aside (gk = 504 - BD.length - j ∧ Own gb wr vj (hd8 ++ BD ++ List.replicate j 0) ∧ Gr (.slice (some ⟨gb, 0, none⟩) 8 8) vj Y wr) := ⟨hg, ho, hgr⟩
        have UL : Hid ((hd8 ++ BD ++ List.replicate j 0).length = 8 + BD.length + j) := Lib.hid (by rw [List.length_append, List.length_append, List.length_replicate, HD.out.2])
        obtain ⟨aj, cj, hvj, hj1, hj2⟩ := ho.bytes.len
        rw [UL.out] at hvj hj1
        unfold maxLen at hj2
        subst hvj
        clear hg ho hgr
        obtain ⟨NM, hNM⟩ : ∃ NM, 8 + BD.length + j = NM := ⟨_, rfl⟩
        rw [hNM] at hj1
        rw [hNM] at U UL
        rw [hNM]
        by_cases hlt : NM < 512
        · have hlt' : (NM : Int) < 512 := by omega
          have LB : Hid (gb ≤ wr.heap.size) := Lib.hid (EB.out wr _ U.out.2.2).2
          have LL : Hid ((hd8 ++ BD ++ List.replicate j 0).length + [(0 : UInt8)].length ≤ 10000000) := Lib.hid (by rw [UL.out]; simp; omega)
          have RS : Hid (hd8 ++ BD ++ List.replicate j 0 ++ [0] = hd8 ++ BD ++ List.replicate (j + 1) 0) := Lib.hid (by rw [List.replicate_succ']; simp [List.append_assoc])
          have HNM := Lib.hid hNM
          clear hNM
          go_wp2_with (at_builtin; refine app_fresh rfl (.tmp 145) (.tmp 146) rfl (B := gb) (w0 := wr) (v := .slice aj NM cj) (l := hd8 ++ BD ++ List.replicate j 0) [0] _ 1 rfl rfl rfl U.out.2.1 LB.out rfl LL.out ?_; intro v9 w9 H9; rw [RS.out] at H9)
          go_roundg (504 - BD.length - (j + 1))
          case measure => have := U.out.1; have := HNM.out; omega
          case rel => exact ⟨j + 1, v9, rfl, by have := HNM.out; omega, rfl, H9.out.1, U.out.2.2.trans H9.out.2⟩
        · have eNM : NM = 512 := by omega
          subst eNM
          have EQ : Hid (hd8 ++ BD ++ List.replicate j 0 = en0 1 ne BD) := Lib.hid (by
            rw [zf_fill _ j (by rw [List.length_append, HD.out.2]; omega)]
            unfold en0
            rw [HD.out.1])
          obtain ⟨E0, hE0⟩ : ∃ E0, E0 = en0 1 ne BD := ⟨_, rfl⟩
          have LE : Hid (E0.length = 512) := Lib.hid (by rw [hE0]; exact en0_length _ _ _ (by have := TO.out.2.2.1; omega))
          have OE : Hid (Own gb wr (.slice aj 512 cj) E0) := Lib.hid (by rw [hE0, ← EQ.out]; exact U.out.2.1)
          have RE : Hid (r = splice E0 4 (leB 4 (crc (E0.take 4 ++ E0.drop 8)))) := Lib.hid (by rw [TO.out.2.2.2, hE0]; rfl)
          obtain ⟨gj, cj', hs5, hs6, hs7⟩ := own_slice9 OE.out LE.out
          simp only [Value.slice.injEq] at hs5
          obtain ⟨rfl, _, rfl⟩ := hs5
          obtain ⟨s, hs⟩ : ∃ s, s = crc (E0.take 4 ++ E0.drop 8) := ⟨_, rfl⟩
          rw [← hs] at RE
          have hs9 : s < 4294967296 := by rw [hs]; exact crc_lt _
          have DS := Lib.hid (dsum_any gj cj E0 wr OE.out.bytes LE.out)
          rw [← hs] at DS
          obtain ⟨a0, a1, a2, a3⟩ := le4_at s hs9
          have BJ : Hid (gb ≤ gj ∧ Gr (.slice (some ⟨gb, 0, none⟩) 8 8) (.slice (some ⟨gj, 0, none⟩) 512 cj) Y wr) := Lib.hid ⟨(OE.out.lt gj rfl).1, U.out.2.2⟩
          have AZ := Lib.hid (And.intro a0 (And.intro a1 (And.intro a2 a3)))
          clear hs hE0 EQ hNM hlt a0 a1 a2 a3 hj
          go_wp2_with (go_at_call 49; refine DS.out.mono ?_; rintro e wr ⟨rfl, rfl⟩)
          obtain ⟨wz, hwz⟩ : ∃ x, x = wr := ⟨_, rfl⟩
          subst hwz
          go_loopg [12] 4 (fun gg si wr => ∃ (i : Nat), i ≤ 4 ∧ gg = 4 - i ∧ si = .int .i64 i ∧ Own gb wr (.slice (some ⟨gj, 0, none⟩) 512 cj) (splice E0 4 ((leB 4 s).take i)) ∧ Kept (fun y => y = gj) wz wr)
          case atStart => exact ⟨0, by omega, rfl, rfl, by have q := OE.out; simpa [splice] using q, Kept.refl _ _⟩
          case round =>
            obtain ⟨i, hi, hg, rfl, ho, hkp⟩ := hrel
            have T : Aside (gk = 4 - i ∧ Own gb wr (.slice (some ⟨gj, 0, none⟩) 512 cj) (splice E0 4 ((leB 4 s).take i)) ∧ Kept (fun y => y = gj) wz wr) := ⟨hg, ho, hkp⟩
            clear hg ho hkp
            by_cases hlt : i < 4
            · have SL : Hid ((splice E0 4 ((leB 4 s).take i)).length = 512) := Lib.hid (by rw [length_splice _ _ _ (by rw [List.length_take, leB_length, LE.out]; omega)]; exact LE.out)
              obtain ⟨q0, q1⟩ := own_cell8 T.out.2.1 (4 + i) (by rw [SL.out]; omega)
              have SS : Hid ((splice E0 4 ((leB 4 s).take i)).set (4 + i) ((leB 4 s).getD i 0) = splice E0 4 ((leB 4 s).take (i + 1))) := Lib.hid (by
                have e := splice_snoc E0 ((leB 4 s).take i) ((leB 4 s).getD i 0) 4 (by rw [List.length_take, leB_length, LE.out]; omega)
                rw [List.length_take, leB_length, Nat.min_eq_left (by omega)] at e
                rw [e, take_one8 (leB 4 s) i (by rw [leB_length]; exact hlt)])
              have NX : Hid (∀ m : Int, m = c8 ((leB 4 s).getD i 0) → Own gb (wr.setCell ⟨gj, 4 + i, none⟩ (.int .u8 m)) (.slice (some ⟨gj, 0, none⟩) 512 cj) (splice E0 4 ((leB 4 s).take (i + 1))) ∧ Kept (fun y => y = gj) wz (wr.setCell ⟨gj, 4 + i, none⟩ (.int .u8 m))) := Lib.hid (fun m hm => by
                rw [hm, ← SS.out]
                exact ⟨own_set8 T.out.2.1 (4 + i) _, T.out.2.2.trans (kept_set (F := fun y => y = gj) wr ⟨gj, 4 + i, none⟩ _ rfl) (fun _ _ h => h)⟩)
              obtain ⟨y, hy⟩ : ∃ y, y = (splice E0 4 ((leB 4 s).take i)).getD (4 + i) 0 := ⟨_, rfl⟩
              rw [← hy] at q0
              clear hy SL SS
              rcases (by omega : i = 0 ∨ i = 1 ∨ i = 2 ∨ i = 3) with rfl | rfl | rfl | rfl
              · go_wp2_with fail
                go_roundg 3
                case measure => have := T.out.1; omega
                case rel => exact ⟨1, by omega, rfl, by go_num, NX.out _ AZ.out.1⟩
              · go_wp2_with fail
                go_roundg 2
                case measure => have := T.out.1; omega
                case rel => exact ⟨2, by omega, rfl, by go_num, NX.out _ AZ.out.2.1⟩
              · go_wp2_with fail
                go_roundg 1
                case measure => have := T.out.1; omega
                case rel => exact ⟨3, by omega, rfl, by go_num, NX.out _ AZ.out.2.2.1⟩
              · go_wp2_with fail
                go_roundg 0
                case measure => have := T.out.1; omega
                case rel => exact ⟨4, by omega, rfl, by go_num, NX.out _ AZ.out.2.2.2⟩
            · have ei : i = 4 := by omega
              subst ei
              have FO : Hid (Own gb wr (.slice (some ⟨gj, 0, none⟩) 512 cj) r ∧ Below X.heap.size X wr) := Lib.hid ⟨by
                have q := T.out.2.1
                rw [List.take_of_length_le (by rw [leB_length]; exact Nat.le_refl _), ← RE.out] at q
                exact q, by
                have q := (EB.out wz _ BJ.out.2).1
                exact q.trans (T.out.2.2.below q.size (fun x hx => by have h : x = gj := hx; have := BJ.out.1; have := YO.out.2.2.1; omega))⟩
              go_wp2_with fail
              go_ret2
              exact ⟨_, rfl, FO.out.1.mono (by have := YO.out.2.2.1; have := XB.out.size; omega), EN.out _ FO.out.2⟩

set_option maxHeartbeats 16000000 in
set_option maxRecDepth 100000 in
theorem renc_inner (n : Nd) (v : Nv) (w : World) (hv : Ls w v n) (hz : Sz n) (hf : fitB n = true) (il : IsInn n) :
    Calls Try.prog 33 #[.agg (n.arr v)] w fun e w' => ∃ v', e = .returned (.tuple #[v', .int .i64 0]) ∧ Own w.heap.size w' v' (encN n) ∧ Below w.heap.size w w' := by
  have V := Lib.hid hv
  have FT := Lib.hid (fun W (h : Ls W v n) => rFits_any n v W h hz)
  rw [hf] at FT
  have IL := Lib.hid il
  obtain ⟨r, hr⟩ : ∃ r, r = encN n := ⟨_, rfl⟩
  rw [← hr]
  have RR := Lib.hid hr
  have FC := Lib.hid (fit_cases hf)
  have hkk := il.k
  obtain ⟨kind, ents, chs, keys, kids, next, data⟩ := n
  obtain ⟨ve, vc, vk, vh⟩ := v
  simp only at hkk
  subst hkk
  obtain ⟨ae, ce, he, hle, hme⟩ := hv.e.len
  obtain ⟨ac, cc, hc, hlc, hmc⟩ := hv.c.len
  obtain ⟨ak, ck, hk, hlk, hmk⟩ := hv.k.len
  obtain ⟨ah, ch, hh, hlh, hmh⟩ := hv.h.len
  simp only at he hc hk hh hle hlc hlk hlh
  subst he hc hk hh
  unfold maxLen at hme hmc hmk hmh
  unfold Nd.arr at FT ⊢
  simp only at FT ⊢
  obtain ⟨ne, hne⟩ : ∃ k, k = ents.length := ⟨_, rfl⟩
  obtain ⟨nc, hnc⟩ : ∃ k, k = chs.length := ⟨_, rfl⟩
  obtain ⟨nk, hnk⟩ : ∃ k, k = keys.length := ⟨_, rfl⟩
  obtain ⟨nh, hnh⟩ : ∃ k, k = kids.length := ⟨_, rfl⟩
  rw [← hne, ← hnc, ← hnk, ← hnh] at FT
  rw [← hne, ← hnc, ← hnk, ← hnh]
  rw [← hne] at hle; rw [← hnc] at hlc; rw [← hnk] at hlk; rw [← hnh] at hlh
  have HE := Lib.hid hne; have HC := Lib.hid hnc; have HK := Lib.hid hnk; have HH := Lib.hid hnh
  obtain ⟨gx, hgx⟩ : ∃ gx, gx = w.heap.size := ⟨_, rfl⟩
  obtain ⟨X, hX⟩ : ∃ X, X = w.alloc (.cells #[.int .i64 2, .slice ae ne ce, .slice ac nc cc, .slice ak nk ck, .slice ah nh ch, .int .i64 next, .string data] 27) := ⟨_, rfl⟩
  have XB : Hid (Below w.heap.size w X) := Lib.hid (by rw [hX]; exact (Below.refl _ _).alloc (Nat.le_refl _) _)
  have XG : Hid (X.heap[gx]? = some (.cells #[.int .i64 2, .slice ae ne ce, .slice ac nc cc, .slice ak nk ck, .slice ah nh ch, .int .i64 next, .string data] 27 (0, 0))) := Lib.hid (by rw [hX, hgx]; exact heap_alloc_new _ _)
  have CX : Hid (∀ W, Below X.heap.size X W → W.heap[gx]? = some (.cells #[.int .i64 2, .slice ae ne ce, .slice ac nc cc, .slice ak nk ck, .slice ah nh ch, .int .i64 next, .string data] 27 (0, 0))) := Lib.hid (fun W h => (h.block gx (lt_of_heap XG.out)).trans XG.out)
  have EN : Hid (∀ W, Below X.heap.size X W → Below w.heap.size w W) := Lib.hid (fun W h => XB.out.trans (h.mono XB.out.size))
  have LX : Hid (∀ W, Below X.heap.size X W → Ls W ⟨.slice ae ents.length ce, .slice ac chs.length cc, .slice ak keys.length ck, .slice ah kids.length ch⟩ ⟨2, ents, chs, keys, kids, next, data⟩) := Lib.hid (fun W h => V.out.below (EN.out W h))
  rw [← HE.out, ← HC.out, ← HK.out, ← HH.out] at LX
  obtain ⟨x0, x1, x2, x3, x4, x5, x6⟩ := node_cells XG.out
  have hX' := hX.symm
  have hgx' := hgx.symm
  clear hr hv hz hf hne hnc hnk hnh hX hgx
  have hne0 : ne = 0 := by rw [HE.out]; exact il.e
  have hds : data.size = 0 := il.d
  have hnh : nh = nk + 1 := by rw [HH.out, HK.out]; exact il.h
  have hn5 : nk ≤ 512 := by
    rw [HK.out]
    rcases FC.out with ⟨h1, _⟩ | ⟨_, h2, _⟩ | h1
    · have := h1.k; simp at this
    · rw [List.length_append, leB_length, inn_len] at h2
      have h3 := sum_ge (szI (⟨2, ents, chs, keys, kids, next, data⟩ : Nd)) 1 (fun x hx => by unfold szI at hx; obtain ⟨y, _, rfl⟩ := List.mem_map.1 hx; unfold szK; omega)
      have h4 : (szI (⟨2, ents, chs, keys, kids, next, data⟩ : Nd)).length = keys.length := by unfold szI; rw [List.length_map]
      omega
    · have := h1.k; simp at this
  obtain ⟨bs, hbs⟩ : ∃ bs, bs = bsI ⟨2, ents, chs, keys, kids, next, data⟩ := ⟨_, rfl⟩
  obtain ⟨k0N, hk0N⟩ : ∃ x : Nat, x = (kids.getD 0 0).toNat := ⟨_, rfl⟩
  have BS : Hid (bs.length = nk ∧ (∀ k, k < nk → bs.getD k [] = enK (keys.getD k ⟨#[]⟩) (kids.getD (k + 1) 0).toNat) ∧ 8 + (leB 4 k0N ++ bs.flatten).length ≤ 512 ∧ r = encL 2 nk (leB 4 k0N ++ bs.flatten)) := Lib.hid ⟨by rw [hbs, bsI_length, HK.out], fun k hk => by rw [hbs]; exact bsI_at _ k (by rw [← show nk = (Nd.keys ⟨2, ents, chs, keys, kids, next, data⟩).length from HK.out]; exact hk), by
    rcases FC.out with ⟨h1, _⟩ | ⟨_, h2, _⟩ | h1
    · have := h1.k; simp at this
    · rw [hbs, hk0N]; exact h2
    · have := h1.k; simp at this, by rw [RR.out, (encN_inn _ il).1, hbs, HK.out, hk0N]⟩
  have HQ : Hid ((∀ k, k < nk → (keys.getD k ⟨#[]⟩).size ≤ 120) ∧ ∀ k, k < nh → 0 ≤ kids.getD k 0 ∧ kids.getD k 0 < 4096) := Lib.hid ⟨fun k hk => innG_at' _ _ il.g k (by rw [HK.out] at hk; exact hk), fun k hk => unl_at il.u k (by rw [HH.out] at hk; exact hk)⟩
  have DK0 : ∃ bh oh, ah = some ⟨bh, oh, none⟩ ∧ ∀ k, k < nh → ∀ W, Below X.heap.size X W → W.cell? ⟨bh, oh + k, none⟩ = some (.int .i64 (kids.getD k 0)) := by
    obtain ⟨bh, oh, hah, _⟩ := (LX.out X (Below.refl _ _)).h.at 0 (by show 0 < kids.length; rw [← HH.out]; omega)
    refine ⟨bh, oh, hah, fun k hk W h => ?_⟩
    obtain ⟨b2, o2, e2, d2⟩ := (LX.out X (Below.refl _ _)).h.at k (by show k < kids.length; rw [← HH.out]; exact hk)
    rw [hah] at e2
    simp only [Option.some.injEq, Addr.mk.injEq, and_true] at e2
    rw [← e2.1, ← e2.2] at d2
    rw [h.cell (p := ⟨bh, oh + k, none⟩) (block_lt_of_cell d2)]; exact d2
  obtain ⟨bh, oh, hah, dk⟩ := DK0
  have DK := Lib.hid dk
  clear dk
  subst hah
  have K0 : Hid (∀ W, Below X.heap.size X W → W.cell? ⟨bh, oh, none⟩ = some (.int .i64 (k0N : Int))) := Lib.hid (fun W h => by
    have q := DK.out 0 (by omega) W h
    rw [Nat.add_zero] at q
    rw [q, hk0N]
    have := (HQ.out.2 0 (by omega)).1
    congr 2
    omega)
  have k09 : k0N < 4096 := by have := HQ.out.2 0 (by omega); omega
  have z1 : (0 : Int) < (nh : Int) := by omega
  have z2 : 0 < nh := by omega
  subst hne0
  have HNH := Lib.hid hnh
  clear il hbs hk0N hnh
  have EC : Hid ((#[.int .u8 181, .int .u8 2, .int .u8 ((nk : Int) % 256), .int .u8 ((nk : Int) / 256), .int .u8 0, .int .u8 0, .int .u8 0, .int .u8 0] : Array Value) = (cells8 (hdN 2 nk ++ [0, 0, 0, 0])).toArray) := Lib.hid (hd8_cells 2 nk (by decide) (by omega))
  obtain ⟨hd8, hhd⟩ : ∃ h, h = hdN 2 nk ++ [0, 0, 0, 0] := ⟨_, rfl⟩
  rw [← hhd] at EC
  have HD : Hid (hd8 = hdN 2 nk ++ [0, 0, 0, 0] ∧ hd8.length = 8) := Lib.hid ⟨hhd, by rw [hhd, List.length_append, hd_length]; rfl⟩
  clear hhd
  go_enter Try.func33, Try.ntmps33
  go_wp2_with (go_at_call 46; refine (FT.out X (LX.out X (Below.refl _ _))).mono ?_; rintro e w1 ⟨rfl, hb⟩; have B1 := Lib.hid hb; obtain ⟨x0, x1, x2, x3, x4, x5, x6⟩ := node_cells (CX.out w1 hb); clear hb; obtain ⟨gb, hgb⟩ : ∃ gb, w1.heap.size = gb := ⟨_, rfl⟩; obtain ⟨Y, hY⟩ : ∃ Y, w1.alloc (.cells #[.int .u8 181, .int .u8 2, .int .u8 ((nk : Int) % 256), .int .u8 ((nk : Int) / 256), .int .u8 0, .int .u8 0, .int .u8 0, .int .u8 0] 5) = Y := ⟨_, rfl⟩; have YO : Hid (Own gb Y (.slice (some ⟨gb, 0, none⟩) 8 8) hd8 ∧ Below X.heap.size X Y ∧ X.heap.size ≤ gb ∧ gb < Y.heap.size) := Lib.hid ⟨own_of (by rw [← hY, ← hgb, EC.out]; exact heap_alloc_new _ _) (Nat.le_refl _) HD.out.2 (by decide), by rw [← hY]; exact B1.out.alloc B1.out.size _, by rw [← hgb]; exact B1.out.size, by rw [← hY, ← hgb]; simp⟩; obtain ⟨x0, x1, x2, x3, x4, x5, x6⟩ := node_cells (CX.out Y YO.out.2.1); have kY := K0.out Y YO.out.2.1)
  have EB : Hid (∀ W vb, Gr (.slice (some ⟨gb, 0, none⟩) 8 8) vb Y W → Below X.heap.size X W ∧ gb ≤ W.heap.size) := Lib.hid (fun W vb h => ⟨YO.out.2.1.trans (h.k.below YO.out.2.1.size (fun x hx => by have e : x = gb := (by simpa [Value.ownBlock] using hx); have := YO.out.2.2.1; omega)), by have := h.k.size; have := YO.out.2.2.2; omega⟩)
  refine (dnumber_any gb (.slice (some ⟨gb, 0, none⟩) 8 8) hd8 k0N Y YO.out.1 (by have := YO.out.2.2.2; omega) (by rw [HD.out.2]; decide) (by omega)).mono ?_
  rintro e w2 ⟨v1, rfl, o2, g2⟩
  have G2 := Lib.hid (And.intro o2 g2)
  clear o2 g2 x0 x1 x2 x3 x4 x5 x6 hX' hgx' hY hgb kY
  go_wp2_with fail
  go_loopg [6, 10] nk (fun gg s6 si wr => ∃ (k : Nat) (vb : Value), k ≤ nk ∧ gg = nk - k ∧ si = .int .i64 k ∧ vb = s6 ∧ Own gb wr vb (hd8 ++ (leB 4 k0N ++ (bs.take k).flatten)) ∧ Gr (.slice (some ⟨gb, 0, none⟩) 8 8) vb Y wr)
  case atStart => exact ⟨0, _, Nat.zero_le _, rfl, rfl, rfl, by simpa using G2.out.1, G2.out.2⟩
  case round =>
    obtain ⟨k, vb, hk, hg, rfl, rfl, ho, hgr⟩ := hrel
    have R : Aside (gk = nk - k ∧ Own gb wr vb (hd8 ++ (leB 4 k0N ++ (bs.take k).flatten)) ∧ Gr (.slice (some ⟨gb, 0, none⟩) 8 8) vb Y wr) := ⟨hg, ho, hgr⟩
    have BX := Lib.hid (EB.out wr vb hgr)
    clear hg ho hgr
    obtain ⟨x0, x1, x2, x3, x4, x5, x6⟩ := node_cells (CX.out wr BX.out.1)
    by_cases hlt : k < nk
    · have DC : Hid (∃ b' off', ak = some ⟨b', off', none⟩ ∧ ∀ W, Below X.heap.size X W → W.cell? ⟨b', off' + k, none⟩ = some (.string (keys.getD k ⟨#[]⟩))) := Lib.hid (by
        obtain ⟨b', off', hac, d0⟩ := (LX.out X (Below.refl _ _)).k.at k (by show k < keys.length; rw [← HK.out]; exact hlt)
        exact ⟨b', off', hac, fun W h => by rw [h.cell (p := ⟨b', off' + k, none⟩) (block_lt_of_cell d0)]; exact d0⟩)
      obtain ⟨b', off', hac, dX⟩ := DC.out
      subst hac
      have QK := HQ.out.1 k hlt
      have QC := HQ.out.2 (k + 1) (by have := HNH.out; omega)
      have BK := BS.out.2.1 k hlt
      have FN := Lib.hid (flat_next bs k (by rw [BS.out.1]; exact hlt))
      rw [BK] at FN
      have FL := flat_le bs (k + 1)
      rw [FN.out, List.length_append, enK_length] at FL
      have DN := DK.out (k + 1) (by have := HNH.out; omega)
      obtain ⟨xk, hxk⟩ : ∃ x, x = keys.getD k ⟨#[]⟩ := ⟨_, rfl⟩
      obtain ⟨c, hc⟩ : ∃ c, c = kids.getD (k + 1) 0 := ⟨_, rfl⟩
      rw [← hc] at DN QC FN
      rw [← hxk] at dX QK FN FL
      obtain ⟨cN, hcN⟩ : ∃ cN : Nat, c = (cN : Int) := ⟨c.toNat, by omega⟩
      subst hcN
      rw [Int.toNat_natCast] at FN
      have hc4 : cN < 4096 := by omega
      have DX := Lib.hid dX
      have DN' := Lib.hid DN
      obtain ⟨L, hL⟩ : ∃ L, L = hd8 ++ (leB 4 k0N ++ (bs.take k).flatten) := ⟨_, rfl⟩
      have RO : Hid (Own gb wr vb L ∧ Gr (.slice (some ⟨gb, 0, none⟩) 8 8) vb Y wr) := Lib.hid (by rw [hL]; exact R.out.2)
      have hL5 : Hid (L.length + (5 + xk.size) ≤ 512) := Lib.hid (by
        rw [hL, List.length_append, HD.out.2, List.length_append]
        have := BS.out.2.2.1
        rw [List.length_append] at this
        omega)
      have HLL := Lib.hid hL
      clear hL hxk hc QC BK FL DC dX DN
      have d0 := DX.out wr BX.out.1
      have hlt' : (k : Int) < (nk : Int) := by omega
      have hlt2 : (k : Int) + 1 < (nh : Int) := by have := HNH.out; omega
      have TC : Hid ((#[.int .u8 (xk.size : Int)] : Array Value) = (cells8 [UInt8.ofNat xk.size]).toArray) := Lib.hid (by
        have e : cells8 [UInt8.ofNat xk.size] = [.int .u8 (c8 (UInt8.ofNat xk.size))] := rfl
        rw [e, c8_of _ (by omega)])
      have EE : Hid (enK xk cN = [UInt8.ofNat xk.size] ++ xk.data.toList ++ leB 4 cN) := Lib.hid rfl
      go_wp2_with (first | (at_builtin; refine app_fresh rfl (.tmp 107) (.tmp 115) rfl (B := gb) (w0 := wr) (v := vb) (l := L) [UInt8.ofNat xk.size] _ 1 TC.out rfl rfl RO.out.1 BX.out.2 rfl (by have := hL5.out; simp; omega) ?_; intro v1 w2 H2; have G3 := Lib.hid (RO.out.2.trans H2.out.2); have B3 := Lib.hid (EB.out w2 v1 G3.out); obtain ⟨n0, n1, n2, n3, n4, n5, n6⟩ := node_cells (CX.out w2 B3.out.1); have d2 := DX.out w2 B3.out.1; have T1 := Lib.hid (dtext_any gb v1 _ xk w2 H2.out.1 B3.out.2 (by rw [List.length_append]; have := hL5.out; simp; omega))) | (go_at_call 47; refine T1.out.mono ?_; rintro e w3 ⟨v2, rfl, o3, g3⟩; have O3 := Lib.hid (And.intro o3 (G3.out.trans g3)); have B4 := Lib.hid (EB.out w3 v2 O3.out.2); obtain ⟨n0, n1, n2, n3, n4, n5, n6⟩ := node_cells (CX.out w3 B4.out.1); have d3 := DN'.out w3 B4.out.1; have T2 := Lib.hid (dnumber_any gb v2 _ cN w3 o3 B4.out.2 (by rw [List.length_append, List.length_append, str_size]; have := hL5.out; simp; omega) (by omega)); clear o3 g3) | (go_at_call 48; refine T2.out.mono ?_; rintro e w4 ⟨v3, rfl, o4, g4⟩; have O4 : Hid (Own gb w4 v3 (hd8 ++ (leB 4 k0N ++ (bs.take (k + 1)).flatten)) ∧ Gr (.slice (some ⟨gb, 0, none⟩) 8 8) v3 Y w4) := Lib.hid ⟨by rw [FN.out, EE.out]; rw [HLL.out] at o4; simpa [List.append_assoc] using o4, O3.out.2.trans g4⟩; clear o4 g4))
      go_roundg (nk - (k + 1))
      case measure => have := R.out.1; omega
      case rel => exact ⟨k + 1, v3, by omega, rfl, by go_num, rfl, O4.out.1, O4.out.2⟩
    · obtain ⟨BD, hBD⟩ : ∃ BD, BD = leB 4 k0N ++ bs.flatten := ⟨_, rfl⟩
      have TO : Hid (Own gb wr vb (hd8 ++ BD) ∧ Gr (.slice (some ⟨gb, 0, none⟩) 8 8) vb Y wr ∧ 8 + BD.length ≤ 512 ∧ r = encL 2 nk BD) := Lib.hid (by
        have q := R.out.2
        rw [List.take_of_length_le (by rw [BS.out.1]; omega)] at q
        rw [hBD]
        exact ⟨q.1, q.2, BS.out.2.2.1, BS.out.2.2.2⟩)
      have hge : ¬ (k : Int) < (nk : Int) := by omega
      have hge' : decide ((k : Int) < (nk : Int)) = false := decide_eq_false hge
      clear hBD
      have hT5 : BD.length ≤ 504 := by have := TO.out.2.2.1; omega
      obtain ⟨wq, hwq⟩ : ∃ x, x = wr := ⟨_, rfl⟩
      subst hwq
      go_wp2_with fail
      clear x0 x1 x2 x3 x4 x5 x6 hlt hk hge hge'
      go_loopg [6] (504 - BD.length) (fun gg s6 wr => ∃ (j : Nat) (vc' : Value), vc' = s6 ∧ j ≤ 504 - BD.length ∧ gg = 504 - BD.length - j ∧ Own gb wr vc' (hd8 ++ BD ++ List.replicate j 0) ∧ Gr (.slice (some ⟨gb, 0, none⟩) 8 8) vc' Y wr)
      case atStart => exact ⟨0, _, rfl, Nat.zero_le _, rfl, by simpa using TO.out.1, TO.out.2.1⟩
      case round =>
        obtain ⟨j, vj, rfl, hj, hg, ho, hgr⟩ := hrel
        have U : Aside (gk = 504 - BD.length - j ∧ Own gb wr vj (hd8 ++ BD ++ List.replicate j 0) ∧ Gr (.slice (some ⟨gb, 0, none⟩) 8 8) vj Y wr) := ⟨hg, ho, hgr⟩
        have UL : Hid ((hd8 ++ BD ++ List.replicate j 0).length = 8 + BD.length + j) := Lib.hid (by rw [List.length_append, List.length_append, List.length_replicate, HD.out.2])
        obtain ⟨aj, cj, hvj, hj1, hj2⟩ := ho.bytes.len
        rw [UL.out] at hvj hj1
        unfold maxLen at hj2
        subst hvj
        clear hg ho hgr
        obtain ⟨NM, hNM⟩ : ∃ NM, 8 + BD.length + j = NM := ⟨_, rfl⟩
        rw [hNM] at hj1
        rw [hNM] at U UL
        rw [hNM]
        by_cases hlt : NM < 512
        · have hlt' : (NM : Int) < 512 := by omega
          have LB : Hid (gb ≤ wr.heap.size) := Lib.hid (EB.out wr _ U.out.2.2).2
          have LL : Hid ((hd8 ++ BD ++ List.replicate j 0).length + [(0 : UInt8)].length ≤ 10000000) := Lib.hid (by rw [UL.out]; simp; omega)
          have RS : Hid (hd8 ++ BD ++ List.replicate j 0 ++ [0] = hd8 ++ BD ++ List.replicate (j + 1) 0) := Lib.hid (by rw [List.replicate_succ']; simp [List.append_assoc])
          have HNM := Lib.hid hNM
          clear hNM
          go_wp2_with (at_builtin; refine app_fresh rfl (.tmp 145) (.tmp 146) rfl (B := gb) (w0 := wr) (v := .slice aj NM cj) (l := hd8 ++ BD ++ List.replicate j 0) [0] _ 1 rfl rfl rfl U.out.2.1 LB.out rfl LL.out ?_; intro v9 w9 H9; rw [RS.out] at H9)
          go_roundg (504 - BD.length - (j + 1))
          case measure => have := U.out.1; have := HNM.out; omega
          case rel => exact ⟨j + 1, v9, rfl, by have := HNM.out; omega, rfl, H9.out.1, U.out.2.2.trans H9.out.2⟩
        · have eNM : NM = 512 := by omega
          subst eNM
          have EQ : Hid (hd8 ++ BD ++ List.replicate j 0 = en0 2 nk BD) := Lib.hid (by
            rw [zf_fill _ j (by rw [List.length_append, HD.out.2]; omega)]
            unfold en0
            rw [HD.out.1])
          obtain ⟨E0, hE0⟩ : ∃ E0, E0 = en0 2 nk BD := ⟨_, rfl⟩
          have LE : Hid (E0.length = 512) := Lib.hid (by rw [hE0]; exact en0_length _ _ _ (by have := TO.out.2.2.1; omega))
          have OE : Hid (Own gb wr (.slice aj 512 cj) E0) := Lib.hid (by rw [hE0, ← EQ.out]; exact U.out.2.1)
          have RE : Hid (r = splice E0 4 (leB 4 (crc (E0.take 4 ++ E0.drop 8)))) := Lib.hid (by rw [TO.out.2.2.2, hE0]; rfl)
          obtain ⟨gj, cj', hs5, hs6, hs7⟩ := own_slice9 OE.out LE.out
          simp only [Value.slice.injEq] at hs5
          obtain ⟨rfl, _, rfl⟩ := hs5
          obtain ⟨s, hs⟩ : ∃ s, s = crc (E0.take 4 ++ E0.drop 8) := ⟨_, rfl⟩
          rw [← hs] at RE
          have hs9 : s < 4294967296 := by rw [hs]; exact crc_lt _
          have DS := Lib.hid (dsum_any gj cj E0 wr OE.out.bytes LE.out)
          rw [← hs] at DS
          obtain ⟨a0, a1, a2, a3⟩ := le4_at s hs9
          have BJ : Hid (gb ≤ gj ∧ Gr (.slice (some ⟨gb, 0, none⟩) 8 8) (.slice (some ⟨gj, 0, none⟩) 512 cj) Y wr) := Lib.hid ⟨(OE.out.lt gj rfl).1, U.out.2.2⟩
          have AZ := Lib.hid (And.intro a0 (And.intro a1 (And.intro a2 a3)))
          clear hs hE0 EQ hNM hlt a0 a1 a2 a3 hj
          go_wp2_with (go_at_call 49; refine DS.out.mono ?_; rintro e wr ⟨rfl, rfl⟩)
          obtain ⟨wz, hwz⟩ : ∃ x, x = wr := ⟨_, rfl⟩
          subst hwz
          go_loopg [12] 4 (fun gg si wr => ∃ (i : Nat), i ≤ 4 ∧ gg = 4 - i ∧ si = .int .i64 i ∧ Own gb wr (.slice (some ⟨gj, 0, none⟩) 512 cj) (splice E0 4 ((leB 4 s).take i)) ∧ Kept (fun y => y = gj) wz wr)
          case atStart => exact ⟨0, by omega, rfl, rfl, by have q := OE.out; simpa [splice] using q, Kept.refl _ _⟩
          case round =>
            obtain ⟨i, hi, hg, rfl, ho, hkp⟩ := hrel
            have T : Aside (gk = 4 - i ∧ Own gb wr (.slice (some ⟨gj, 0, none⟩) 512 cj) (splice E0 4 ((leB 4 s).take i)) ∧ Kept (fun y => y = gj) wz wr) := ⟨hg, ho, hkp⟩
            clear hg ho hkp
            by_cases hlt : i < 4
            · have SL : Hid ((splice E0 4 ((leB 4 s).take i)).length = 512) := Lib.hid (by rw [length_splice _ _ _ (by rw [List.length_take, leB_length, LE.out]; omega)]; exact LE.out)
              obtain ⟨q0, q1⟩ := own_cell8 T.out.2.1 (4 + i) (by rw [SL.out]; omega)
              have SS : Hid ((splice E0 4 ((leB 4 s).take i)).set (4 + i) ((leB 4 s).getD i 0) = splice E0 4 ((leB 4 s).take (i + 1))) := Lib.hid (by
                have e := splice_snoc E0 ((leB 4 s).take i) ((leB 4 s).getD i 0) 4 (by rw [List.length_take, leB_length, LE.out]; omega)
                rw [List.length_take, leB_length, Nat.min_eq_left (by omega)] at e
                rw [e, take_one8 (leB 4 s) i (by rw [leB_length]; exact hlt)])
              have NX : Hid (∀ m : Int, m = c8 ((leB 4 s).getD i 0) → Own gb (wr.setCell ⟨gj, 4 + i, none⟩ (.int .u8 m)) (.slice (some ⟨gj, 0, none⟩) 512 cj) (splice E0 4 ((leB 4 s).take (i + 1))) ∧ Kept (fun y => y = gj) wz (wr.setCell ⟨gj, 4 + i, none⟩ (.int .u8 m))) := Lib.hid (fun m hm => by
                rw [hm, ← SS.out]
                exact ⟨own_set8 T.out.2.1 (4 + i) _, T.out.2.2.trans (kept_set (F := fun y => y = gj) wr ⟨gj, 4 + i, none⟩ _ rfl) (fun _ _ h => h)⟩)
              obtain ⟨y, hy⟩ : ∃ y, y = (splice E0 4 ((leB 4 s).take i)).getD (4 + i) 0 := ⟨_, rfl⟩
              rw [← hy] at q0
              clear hy SL SS
              rcases (by omega : i = 0 ∨ i = 1 ∨ i = 2 ∨ i = 3) with rfl | rfl | rfl | rfl
              · go_wp2_with fail
                go_roundg 3
                case measure => have := T.out.1; omega
                case rel => exact ⟨1, by omega, rfl, by go_num, NX.out _ AZ.out.1⟩
              · go_wp2_with fail
                go_roundg 2
                case measure => have := T.out.1; omega
                case rel => exact ⟨2, by omega, rfl, by go_num, NX.out _ AZ.out.2.1⟩
              · go_wp2_with fail
                go_roundg 1
                case measure => have := T.out.1; omega
                case rel => exact ⟨3, by omega, rfl, by go_num, NX.out _ AZ.out.2.2.1⟩
              · go_wp2_with fail
                go_roundg 0
                case measure => have := T.out.1; omega
                case rel => exact ⟨4, by omega, rfl, by go_num, NX.out _ AZ.out.2.2.2⟩
            · have ei : i = 4 := by omega
              subst ei
              have FO : Hid (Own gb wr (.slice (some ⟨gj, 0, none⟩) 512 cj) r ∧ Below X.heap.size X wr) := Lib.hid ⟨by
                have q := T.out.2.1
                rw [List.take_of_length_le (by rw [leB_length]; exact Nat.le_refl _), ← RE.out] at q
                exact q, by
                have q := (EB.out wz _ BJ.out.2).1
                exact q.trans (T.out.2.2.below q.size (fun x hx => by have h : x = gj := hx; have := BJ.out.1; have := YO.out.2.2.1; omega))⟩
              go_wp2_with fail
              go_ret2
              exact ⟨_, rfl, FO.out.1.mono (by have := YO.out.2.2.1; have := XB.out.size; omega), EN.out _ FO.out.2⟩

set_option maxHeartbeats 16000000 in
set_option maxRecDepth 100000 in
theorem renc_chain (n : Nd) (v : Nv) (w : World) (hv : Ls w v n) (hz : Sz n) (hf : fitB n = true) (il : IsCh n) :
    Calls Try.prog 33 #[.agg (n.arr v)] w fun e w' => ∃ v', e = .returned (.tuple #[v', .int .i64 0]) ∧ Own w.heap.size w' v' (encN n) ∧ Below w.heap.size w w' := by
  have V := Lib.hid hv
  have FT := Lib.hid (fun W (h : Ls W v n) => rFits_any n v W h hz)
  rw [hf] at FT
  have IL := Lib.hid il
  obtain ⟨r, hr⟩ : ∃ r, r = encN n := ⟨_, rfl⟩
  rw [← hr]
  have RR := Lib.hid hr
  have FC := Lib.hid (fit_cases hf)
  have hkk := il.k
  obtain ⟨kind, ents, chs, keys, kids, next, data⟩ := n
  obtain ⟨ve, vc, vk, vh⟩ := v
  simp only at hkk
  subst hkk
  obtain ⟨ae, ce, he, hle, hme⟩ := hv.e.len
  obtain ⟨ac, cc, hc, hlc, hmc⟩ := hv.c.len
  obtain ⟨ak, ck, hk, hlk, hmk⟩ := hv.k.len
  obtain ⟨ah, ch, hh, hlh, hmh⟩ := hv.h.len
  simp only at he hc hk hh hle hlc hlk hlh
  subst he hc hk hh
  unfold maxLen at hme hmc hmk hmh
  unfold Nd.arr at FT ⊢
  simp only at FT ⊢
  obtain ⟨ne, hne⟩ : ∃ k, k = ents.length := ⟨_, rfl⟩
  obtain ⟨nc, hnc⟩ : ∃ k, k = chs.length := ⟨_, rfl⟩
  obtain ⟨nk, hnk⟩ : ∃ k, k = keys.length := ⟨_, rfl⟩
  obtain ⟨nh, hnh⟩ : ∃ k, k = kids.length := ⟨_, rfl⟩
  rw [← hne, ← hnc, ← hnk, ← hnh] at FT
  rw [← hne, ← hnc, ← hnk, ← hnh]
  rw [← hne] at hle; rw [← hnc] at hlc; rw [← hnk] at hlk; rw [← hnh] at hlh
  have HE := Lib.hid hne; have HC := Lib.hid hnc; have HK := Lib.hid hnk; have HH := Lib.hid hnh
  obtain ⟨gx, hgx⟩ : ∃ gx, gx = w.heap.size := ⟨_, rfl⟩
  obtain ⟨X, hX⟩ : ∃ X, X = w.alloc (.cells #[.int .i64 3, .slice ae ne ce, .slice ac nc cc, .slice ak nk ck, .slice ah nh ch, .int .i64 next, .string data] 27) := ⟨_, rfl⟩
  have XB : Hid (Below w.heap.size w X) := Lib.hid (by rw [hX]; exact (Below.refl _ _).alloc (Nat.le_refl _) _)
  have XG : Hid (X.heap[gx]? = some (.cells #[.int .i64 3, .slice ae ne ce, .slice ac nc cc, .slice ak nk ck, .slice ah nh ch, .int .i64 next, .string data] 27 (0, 0))) := Lib.hid (by rw [hX, hgx]; exact heap_alloc_new _ _)
  have CX : Hid (∀ W, Below X.heap.size X W → W.heap[gx]? = some (.cells #[.int .i64 3, .slice ae ne ce, .slice ac nc cc, .slice ak nk ck, .slice ah nh ch, .int .i64 next, .string data] 27 (0, 0))) := Lib.hid (fun W h => (h.block gx (lt_of_heap XG.out)).trans XG.out)
  have EN : Hid (∀ W, Below X.heap.size X W → Below w.heap.size w W) := Lib.hid (fun W h => XB.out.trans (h.mono XB.out.size))
  have LX : Hid (∀ W, Below X.heap.size X W → Ls W ⟨.slice ae ents.length ce, .slice ac chs.length cc, .slice ak keys.length ck, .slice ah kids.length ch⟩ ⟨3, ents, chs, keys, kids, next, data⟩) := Lib.hid (fun W h => V.out.below (EN.out W h))
  rw [← HE.out, ← HC.out, ← HK.out, ← HH.out] at LX
  obtain ⟨x0, x1, x2, x3, x4, x5, x6⟩ := node_cells XG.out
  have hX' := hX.symm
  have hgx' := hgx.symm
  clear hr hv hz hf hne hnc hnk hnh hX hgx
  have hne0 : ne = 0 := by rw [HE.out]; exact il.e
  have hnk0 : nk = 0 := by rw [HK.out]; exact il.y
  have hds : data.size ≤ 500 := il.d
  obtain ⟨nN, hnN⟩ : ∃ nN : Nat, next = (nN : Int) := ⟨next.toNat, by have := (ch_next il).1; simp only at this; omega⟩
  have hn4 : nN < 4096 := by have := (ch_next il).2; simp only at this; omega
  have RE0 : Hid (r = encL 3 data.size (leB 4 nN ++ data.data.toList)) := Lib.hid (by
    rw [RR.out, (encN_ch _ il).1]
    show encL 3 data.size (leB 4 next.toNat ++ data.data.toList) = _
    rw [hnN, Int.toNat_natCast])
  subst hne0 hnk0 hnN
  clear il
  have EC : Hid ((#[.int .u8 181, .int .u8 3, .int .u8 ((data.size : Int) % 256), .int .u8 ((data.size : Int) / 256), .int .u8 0, .int .u8 0, .int .u8 0, .int .u8 0] : Array Value) = (cells8 (hdN 3 data.size ++ [0, 0, 0, 0])).toArray) := Lib.hid (hd8_cells 3 data.size (by decide) (by omega))
  obtain ⟨hd8, hhd⟩ : ∃ h, h = hdN 3 data.size ++ [0, 0, 0, 0] := ⟨_, rfl⟩
  rw [← hhd] at EC
  have HD : Hid (hd8 = hdN 3 data.size ++ [0, 0, 0, 0] ∧ hd8.length = 8) := Lib.hid ⟨hhd, by rw [hhd, List.length_append, hd_length]; rfl⟩
  clear hhd
  go_enter Try.func33, Try.ntmps33
  go_wp2_with (go_at_call 46; refine (FT.out X (LX.out X (Below.refl _ _))).mono ?_; rintro e w1 ⟨rfl, hb⟩; have B1 := Lib.hid hb; obtain ⟨x0, x1, x2, x3, x4, x5, x6⟩ := node_cells (CX.out w1 hb); clear hb; obtain ⟨gb, hgb⟩ : ∃ gb, w1.heap.size = gb := ⟨_, rfl⟩; obtain ⟨Y, hY⟩ : ∃ Y, w1.alloc (.cells #[.int .u8 181, .int .u8 3, .int .u8 ((data.size : Int) % 256), .int .u8 ((data.size : Int) / 256), .int .u8 0, .int .u8 0, .int .u8 0, .int .u8 0] 5) = Y := ⟨_, rfl⟩; have YO : Hid (Own gb Y (.slice (some ⟨gb, 0, none⟩) 8 8) hd8 ∧ Below X.heap.size X Y ∧ X.heap.size ≤ gb ∧ gb < Y.heap.size) := Lib.hid ⟨own_of (by rw [← hY, ← hgb, EC.out]; exact heap_alloc_new _ _) (Nat.le_refl _) HD.out.2 (by decide), by rw [← hY]; exact B1.out.alloc B1.out.size _, by rw [← hgb]; exact B1.out.size, by rw [← hY, ← hgb]; simp⟩; obtain ⟨x0, x1, x2, x3, x4, x5, x6⟩ := node_cells (CX.out Y YO.out.2.1))
  have EB : Hid (∀ W vb, Gr (.slice (some ⟨gb, 0, none⟩) 8 8) vb Y W → Below X.heap.size X W ∧ gb ≤ W.heap.size) := Lib.hid (fun W vb h => ⟨YO.out.2.1.trans (h.k.below YO.out.2.1.size (fun x hx => by have e : x = gb := (by simpa [Value.ownBlock] using hx); have := YO.out.2.2.1; omega)), by have := h.k.size; have := YO.out.2.2.2; omega⟩)
  refine (dnumber_any gb (.slice (some ⟨gb, 0, none⟩) 8 8) hd8 nN Y YO.out.1 (by have := YO.out.2.2.2; omega) (by rw [HD.out.2]; decide) (by omega)).mono ?_
  rintro e w2 ⟨v1, rfl, o2, g2⟩
  have G2 := Lib.hid (And.intro o2 g2)
  obtain ⟨n0, n1, n2, n3, n4, n5, n6⟩ := node_cells (CX.out w2 (EB.out w2 v1 g2).1)
  have T2 := Lib.hid (dtext_any gb v1 _ data w2 o2 (EB.out w2 v1 g2).2 (by rw [List.length_append, leB_length, HD.out.2]; omega))
  clear o2 g2 x0 x1 x2 x3 x4 x5 x6 hX' hgx' hY hgb
  obtain ⟨BD, hBD⟩ : ∃ BD, BD = leB 4 nN ++ data.data.toList := ⟨_, rfl⟩
  go_wp2_with (go_at_call 47; refine T2.out.mono ?_; rintro e wq ⟨vb, rfl, o3, g3⟩; have TO : Hid (Own gb wq vb (hd8 ++ BD) ∧ Gr (.slice (some ⟨gb, 0, none⟩) 8 8) vb Y wq ∧ 8 + BD.length ≤ 512 ∧ r = encL 3 data.size BD) := Lib.hid (by rw [hBD]; exact ⟨by rw [← List.append_assoc]; exact o3, G2.out.2.trans g3, by rw [List.length_append, leB_length, str_size]; omega, RE0.out⟩); clear o3 g3)
  have hT5 : BD.length ≤ 504 := by have := TO.out.2.2.1; omega
  clear n0 n1 n2 n3 n4 n5 n6 hBD
  go_loopg [6] (504 - BD.length) (fun gg s6 wr => ∃ (j : Nat) (vc' : Value), vc' = s6 ∧ j ≤ 504 - BD.length ∧ gg = 504 - BD.length - j ∧ Own gb wr vc' (hd8 ++ BD ++ List.replicate j 0) ∧ Gr (.slice (some ⟨gb, 0, none⟩) 8 8) vc' Y wr)
  case atStart => exact ⟨0, _, rfl, Nat.zero_le _, rfl, by simpa using TO.out.1, TO.out.2.1⟩
  case round =>
    obtain ⟨j, vj, rfl, hj, hg, ho, hgr⟩ := hrel
    have U : Aside (gk = 504 - BD.length - j ∧ Own gb wr vj (hd8 ++ BD ++ List.replicate j 0) ∧ Gr (.slice (some ⟨gb, 0, none⟩) 8 8) vj Y wr) := ⟨hg, ho, hgr⟩
    have UL : Hid ((hd8 ++ BD ++ List.replicate j 0).length = 8 + BD.length + j) := Lib.hid (by rw [List.length_append, List.length_append, List.length_replicate, HD.out.2])
    obtain ⟨aj, cj, hvj, hj1, hj2⟩ := ho.bytes.len
    rw [UL.out] at hvj hj1
    unfold maxLen at hj2
    subst hvj
    clear hg ho hgr
    obtain ⟨NM, hNM⟩ : ∃ NM, 8 + BD.length + j = NM := ⟨_, rfl⟩
    rw [hNM] at hj1
    rw [hNM] at U UL
    rw [hNM]
    by_cases hlt : NM < 512
    · have hlt' : (NM : Int) < 512 := by omega
      have LB : Hid (gb ≤ wr.heap.size) := Lib.hid (EB.out wr _ U.out.2.2).2
      have LL : Hid ((hd8 ++ BD ++ List.replicate j 0).length + [(0 : UInt8)].length ≤ 10000000) := Lib.hid (by rw [UL.out]; simp; omega)
      have RS : Hid (hd8 ++ BD ++ List.replicate j 0 ++ [0] = hd8 ++ BD ++ List.replicate (j + 1) 0) := Lib.hid (by rw [List.replicate_succ']; simp [List.append_assoc])
      have HNM := Lib.hid hNM
      clear hNM
      go_wp2_with (at_builtin; refine app_fresh rfl (.tmp 145) (.tmp 146) rfl (B := gb) (w0 := wr) (v := .slice aj NM cj) (l := hd8 ++ BD ++ List.replicate j 0) [0] _ 1 rfl rfl rfl U.out.2.1 LB.out rfl LL.out ?_; intro v9 w9 H9; rw [RS.out] at H9)
      go_roundg (504 - BD.length - (j + 1))
      case measure => have := U.out.1; have := HNM.out; omega
      case rel => exact ⟨j + 1, v9, rfl, by have := HNM.out; omega, rfl, H9.out.1, U.out.2.2.trans H9.out.2⟩
    · have eNM : NM = 512 := by omega
      subst eNM
      have EQ : Hid (hd8 ++ BD ++ List.replicate j 0 = en0 3 data.size BD) := Lib.hid (by
        rw [zf_fill _ j (by rw [List.length_append, HD.out.2]; omega)]
        unfold en0
        rw [HD.out.1])
      obtain ⟨E0, hE0⟩ : ∃ E0, E0 = en0 3 data.size BD := ⟨_, rfl⟩
      have LE : Hid (E0.length = 512) := Lib.hid (by rw [hE0]; exact en0_length _ _ _ (by have := TO.out.2.2.1; omega))
      have OE : Hid (Own gb wr (.slice aj 512 cj) E0) := Lib.hid (by rw [hE0, ← EQ.out]; exact U.out.2.1)
      have RE : Hid (r = splice E0 4 (leB 4 (crc (E0.take 4 ++ E0.drop 8)))) := Lib.hid (by rw [TO.out.2.2.2, hE0]; rfl)
      obtain ⟨gj, cj', hs5, hs6, hs7⟩ := own_slice9 OE.out LE.out
      simp only [Value.slice.injEq] at hs5
      obtain ⟨rfl, _, rfl⟩ := hs5
      obtain ⟨s, hs⟩ : ∃ s, s = crc (E0.take 4 ++ E0.drop 8) := ⟨_, rfl⟩
      rw [← hs] at RE
      have hs9 : s < 4294967296 := by rw [hs]; exact crc_lt _
      have DS := Lib.hid (dsum_any gj cj E0 wr OE.out.bytes LE.out)
      rw [← hs] at DS
      obtain ⟨a0, a1, a2, a3⟩ := le4_at s hs9
      have BJ : Hid (gb ≤ gj ∧ Gr (.slice (some ⟨gb, 0, none⟩) 8 8) (.slice (some ⟨gj, 0, none⟩) 512 cj) Y wr) := Lib.hid ⟨(OE.out.lt gj rfl).1, U.out.2.2⟩
      have AZ := Lib.hid (And.intro a0 (And.intro a1 (And.intro a2 a3)))
      clear hs hE0 EQ hNM hlt a0 a1 a2 a3 hj
      go_wp2_with (go_at_call 49; refine DS.out.mono ?_; rintro e wr ⟨rfl, rfl⟩)
      obtain ⟨wz, hwz⟩ : ∃ x, x = wr := ⟨_, rfl⟩
      subst hwz
      go_loopg [12] 4 (fun gg si wr => ∃ (i : Nat), i ≤ 4 ∧ gg = 4 - i ∧ si = .int .i64 i ∧ Own gb wr (.slice (some ⟨gj, 0, none⟩) 512 cj) (splice E0 4 ((leB 4 s).take i)) ∧ Kept (fun y => y = gj) wz wr)
      case atStart => exact ⟨0, by omega, rfl, rfl, by have q := OE.out; simpa [splice] using q, Kept.refl _ _⟩
      case round =>
        obtain ⟨i, hi, hg, rfl, ho, hkp⟩ := hrel
        have T : Aside (gk = 4 - i ∧ Own gb wr (.slice (some ⟨gj, 0, none⟩) 512 cj) (splice E0 4 ((leB 4 s).take i)) ∧ Kept (fun y => y = gj) wz wr) := ⟨hg, ho, hkp⟩
        clear hg ho hkp
        by_cases hlt : i < 4
        · have SL : Hid ((splice E0 4 ((leB 4 s).take i)).length = 512) := Lib.hid (by rw [length_splice _ _ _ (by rw [List.length_take, leB_length, LE.out]; omega)]; exact LE.out)
          obtain ⟨q0, q1⟩ := own_cell8 T.out.2.1 (4 + i) (by rw [SL.out]; omega)
          have SS : Hid ((splice E0 4 ((leB 4 s).take i)).set (4 + i) ((leB 4 s).getD i 0) = splice E0 4 ((leB 4 s).take (i + 1))) := Lib.hid (by
            have e := splice_snoc E0 ((leB 4 s).take i) ((leB 4 s).getD i 0) 4 (by rw [List.length_take, leB_length, LE.out]; omega)
            rw [List.length_take, leB_length, Nat.min_eq_left (by omega)] at e
            rw [e, take_one8 (leB 4 s) i (by rw [leB_length]; exact hlt)])
          have NX : Hid (∀ m : Int, m = c8 ((leB 4 s).getD i 0) → Own gb (wr.setCell ⟨gj, 4 + i, none⟩ (.int .u8 m)) (.slice (some ⟨gj, 0, none⟩) 512 cj) (splice E0 4 ((leB 4 s).take (i + 1))) ∧ Kept (fun y => y = gj) wz (wr.setCell ⟨gj, 4 + i, none⟩ (.int .u8 m))) := Lib.hid (fun m hm => by
            rw [hm, ← SS.out]
            exact ⟨own_set8 T.out.2.1 (4 + i) _, T.out.2.2.trans (kept_set (F := fun y => y = gj) wr ⟨gj, 4 + i, none⟩ _ rfl) (fun _ _ h => h)⟩)
          obtain ⟨y, hy⟩ : ∃ y, y = (splice E0 4 ((leB 4 s).take i)).getD (4 + i) 0 := ⟨_, rfl⟩
          rw [← hy] at q0
          clear hy SL SS
          rcases (by omega : i = 0 ∨ i = 1 ∨ i = 2 ∨ i = 3) with rfl | rfl | rfl | rfl
          · go_wp2_with fail
            go_roundg 3
            case measure => have := T.out.1; omega
            case rel => exact ⟨1, by omega, rfl, by go_num, NX.out _ AZ.out.1⟩
          · go_wp2_with fail
            go_roundg 2
            case measure => have := T.out.1; omega
            case rel => exact ⟨2, by omega, rfl, by go_num, NX.out _ AZ.out.2.1⟩
          · go_wp2_with fail
            go_roundg 1
            case measure => have := T.out.1; omega
            case rel => exact ⟨3, by omega, rfl, by go_num, NX.out _ AZ.out.2.2.1⟩
          · go_wp2_with fail
            go_roundg 0
            case measure => have := T.out.1; omega
            case rel => exact ⟨4, by omega, rfl, by go_num, NX.out _ AZ.out.2.2.2⟩
        · have ei : i = 4 := by omega
          subst ei
          have FO : Hid (Own gb wr (.slice (some ⟨gj, 0, none⟩) 512 cj) r ∧ Below X.heap.size X wr) := Lib.hid ⟨by
            have q := T.out.2.1
            rw [List.take_of_length_le (by rw [leB_length]; exact Nat.le_refl _), ← RE.out] at q
            exact q, by
            have q := (EB.out wz _ BJ.out.2).1
            exact q.trans (T.out.2.2.below q.size (fun x hx => by have h : x = gj := hx; have := BJ.out.1; have := YO.out.2.2.1; omega))⟩
          go_wp2_with fail
          go_ret2
          exact ⟨_, rfl, FO.out.1.mono (by have := YO.out.2.2.1; have := XB.out.size; omega), EN.out _ FO.out.2⟩

set_option maxHeartbeats 4000000 in
set_option maxRecDepth 100000 in
theorem renc_no (n : Nd) (v : Nv) (w : World) (hv : Ls w v n) (hz : Sz n) (hf : fitB n = false) :
    Calls Try.prog 33 #[.agg (n.arr v)] w fun e w' => e = .returned (.tuple #[.slice none 0 0, .int .i64 1]) ∧ Below w.heap.size w w' := by
  have NA : Hid (n.arr v = #[.int .i64 n.kind, v.e, v.c, v.k, v.h, .int .i64 n.next, .string n.data]) := Lib.hid rfl
  obtain ⟨kd, hkd⟩ : ∃ x, x = n.kind := ⟨_, rfl⟩
  obtain ⟨nx, hnx⟩ : ∃ x, x = n.next := ⟨_, rfl⟩
  obtain ⟨dt, hdt⟩ : ∃ x, x = n.data := ⟨_, rfl⟩
  obtain ⟨ve, hve⟩ : ∃ x, x = v.e := ⟨_, rfl⟩
  obtain ⟨vc, hvc⟩ : ∃ x, x = v.c := ⟨_, rfl⟩
  obtain ⟨vk, hvk⟩ : ∃ x, x = v.k := ⟨_, rfl⟩
  obtain ⟨vh, hvh⟩ : ∃ x, x = v.h := ⟨_, rfl⟩
  rw [← hkd, ← hnx, ← hdt, ← hve, ← hvc, ← hvk, ← hvh] at NA
  rw [NA.out]
  obtain ⟨gx, hgx⟩ : ∃ gx, gx = w.heap.size := ⟨_, rfl⟩
  obtain ⟨X, hX⟩ : ∃ X, X = w.alloc (.cells #[.int .i64 kd, ve, vc, vk, vh, .int .i64 nx, .string dt] 27) := ⟨_, rfl⟩
  have XX : Hid (Below w.heap.size w X) := Lib.hid (by rw [hX]; exact (Below.refl _ _).alloc (Nat.le_refl _) _)
  obtain ⟨p0, p1, p2, p3, p4, p5, p6⟩ := node_cells (W := X) (g := gx) (kd := kd) (nx := nx) (dt := dt) (ve := ve) (vc := vc) (vk := vk) (vh := vh) (by rw [hX, hgx]; exact heap_alloc_new _ _)
  have FI : Hid (Calls Try.prog 46 #[.agg #[.int .i64 kd, ve, vc, vk, vh, .int .i64 nx, .string dt]] X fun e w' => e = .returned (.bool false) ∧ Below X.heap.size X w') := Lib.hid (by
    rw [← NA.out, ← hf]
    exact rFits_any n v X (hv.below XX.out) hz)
  have hX' := hX.symm
  have hgx' := hgx.symm
  clear hv hz hf hkd hnx hdt hve hvc hvk hvh hX hgx
  go_enter Try.func33, Try.ntmps33
  go_wp2_with (go_at_call 46; refine FI.out.mono ?_; rintro e w1 ⟨rfl, hb⟩; have H1 := Lib.hid hb; clear hb)
  go_ret2
  exact ⟨rfl, XX.out.trans (H1.out.mono XX.out.size)⟩
theorem renc_yes (n : Nd) (v : Nv) (w : World) (hv : Ls w v n) (hz : Sz n) (hf : fitB n = true) :
    Calls Try.prog 33 #[.agg (n.arr v)] w fun e w' => ∃ v', e = .returned (.tuple #[v', .int .i64 0]) ∧ Own w.heap.size w' v' (encN n) ∧ Below w.heap.size w w' := by
  rcases fit_cases hf with ⟨il, _, _⟩ | ⟨il, _, _⟩ | il
  · exact renc_leaf n v w hv hz hf il
  · exact renc_inner n v w hv hz hf il
  · exact renc_chain n v w hv hz hf il
end Go.Proofs.Ytcdejeejhdpkaaa
