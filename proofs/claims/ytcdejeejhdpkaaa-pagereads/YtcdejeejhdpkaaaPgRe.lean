/-
  The document's Size and Fits.
-/
import Derived.Test.YtcdejeejhdpkaaaPgRc
import Derived.Test.YtcdejeejhdpkaaaPgRd
namespace Go.Proofs.Ytcdejeejhdpkaaa
open Go.RowKit Go.Maps
theorem leafB_r (n : Nd) : leafB n = (decide (n.kind = 1) && rlB n) := rfl
theorem innB_r (n : Nd) : innB n = (decide (n.kind = 2) && riB n) := rfl
theorem chB_r (n : Nd) : chB n = (decide (n.kind = 3) && rcB n) := by
  rw [Bool.eq_iff_iff, ch_iff]
  unfold rcB
  simp only [Bool.and_eq_true, decide_eq_true_iff]
  constructor
  · intro h; exact ⟨h.k, h.e, h.c, h.y, h.h, by have := h.d0; omega, h.d, h.x⟩
  · rintro ⟨h1, h2, h3, h4, h5, h6, h7, h8⟩; exact ⟨h1, by omega, h7, h2, h3, h4, h5, h8⟩
theorem size_k1 (n : Nd) (h : n.kind = 1) : sizeN n = if rlB n = true then ((8 + (szL n).sum : Nat) : Int) else -1 := by
  unfold sizeN
  rw [leafB_r, innB_r, chB_r, show decide (n.kind = 1) = true from decide_eq_true h, show decide (n.kind = 2) = false from decide_eq_false (by omega), show decide (n.kind = 3) = false from decide_eq_false (by omega)]
  simp
theorem size_k2 (n : Nd) (h : n.kind = 2) : sizeN n = if riB n = true then ((12 + (szI n).sum : Nat) : Int) else -1 := by
  unfold sizeN
  rw [leafB_r, innB_r, chB_r, show decide (n.kind = 1) = false from decide_eq_false (by omega), show decide (n.kind = 2) = true from decide_eq_true h, show decide (n.kind = 3) = false from decide_eq_false (by omega)]
  simp
theorem size_k3 (n : Nd) (h : n.kind = 3) : sizeN n = if rcB n = true then ((12 + n.data.size : Nat) : Int) else -1 := by
  unfold sizeN
  rw [leafB_r, innB_r, chB_r, show decide (n.kind = 1) = false from decide_eq_false (by omega), show decide (n.kind = 2) = false from decide_eq_false (by omega), show decide (n.kind = 3) = true from decide_eq_true h]
  simp
theorem size_k0 (n : Nd) (h1 : n.kind ≠ 1) (h2 : n.kind ≠ 2) (h3 : n.kind ≠ 3) : sizeN n = -1 := by
  unfold sizeN
  rw [leafB_r, innB_r, chB_r, show decide (n.kind = 1) = false from decide_eq_false h1, show decide (n.kind = 2) = false from decide_eq_false h2, show decide (n.kind = 3) = false from decide_eq_false h3]
  simp
set_option maxHeartbeats 8000000 in
set_option maxRecDepth 100000 in
theorem rSize_any (n : Nd) (v : Nv) (w : World) (hv : Ls w v n) (hz : Sz n) :
    Calls Try.prog 52 #[.agg (n.arr v)] w fun e w' => e = .returned (.int .i64 (sizeN n)) ∧ Below w.heap.size w w' := by
  have V := Lib.hid hv
  have Z := Lib.hid hz
  have BK := Lib.hid dblock_any
  have LF := Lib.hid (fun W (h : Ls W v n) => rleaf_any n v W h hz)
  have IN := Lib.hid (fun W (h : Ls W v n) => rinner_any n v W h hz)
  have CH := Lib.hid (fun W (h : Ls W v n) => rchain_any n v W h hz)
  obtain ⟨fl, hfl⟩ : ∃ b, b = rlB n := ⟨_, rfl⟩
  obtain ⟨fi, hfi⟩ : ∃ b, b = riB n := ⟨_, rfl⟩
  obtain ⟨fc, hfc⟩ : ∃ b, b = rcB n := ⟨_, rfl⟩
  rw [← hfl] at LF
  rw [← hfi] at IN
  rw [← hfc] at CH
  have HL := Lib.hid hfl
  have HI := Lib.hid hfi
  have HCH := Lib.hid hfc
  clear hfl hfi hfc
  obtain ⟨r, hr⟩ : ∃ r, r = sizeN n := ⟨_, rfl⟩
  rw [← hr]
  have RR := Lib.hid hr
  obtain ⟨kind, ents, chs, keys, kids, next, data⟩ := n
  obtain ⟨ve, vc, vk, vh⟩ := v
  obtain ⟨ae, ce, he, hle, hme⟩ := hv.e.len
  obtain ⟨ac, cc, hc, hlc, hmc⟩ := hv.c.len
  obtain ⟨ak, ck, hk, hlk, hmk⟩ := hv.k.len
  obtain ⟨ah, ch, hh, hlh, hmh⟩ := hv.h.len
  simp only at he hc hk hh hle hlc hlk hlh
  subst he hc hk hh
  unfold maxLen at hme hmc hmk hmh
  unfold Nd.arr
  simp only
  obtain ⟨ne, hne⟩ : ∃ k, k = ents.length := ⟨_, rfl⟩
  obtain ⟨nc, hnc⟩ : ∃ k, k = chs.length := ⟨_, rfl⟩
  obtain ⟨nk, hnk⟩ : ∃ k, k = keys.length := ⟨_, rfl⟩
  obtain ⟨nh, hnh⟩ : ∃ k, k = kids.length := ⟨_, rfl⟩
  rw [← hne, ← hnc, ← hnk, ← hnh]
  rw [← hne] at hle; rw [← hnc] at hlc; rw [← hnk] at hlk; rw [← hnh] at hlh
  have HE := Lib.hid hne; have HC := Lib.hid hnc; have HK := Lib.hid hnk; have HH := Lib.hid hnh
  obtain ⟨gx, hgx⟩ : ∃ gx, gx = w.heap.size := ⟨_, rfl⟩
  obtain ⟨X, hX⟩ : ∃ X, X = w.alloc (.cells #[.int .i64 kind, .slice ae ne ce, .slice ac nc cc, .slice ak nk ck, .slice ah nh ch, .int .i64 next, .string data] 27) := ⟨_, rfl⟩
  have XB : Hid (Below w.heap.size w X) := Lib.hid (by rw [hX]; exact (Below.refl _ _).alloc (Nat.le_refl _) _)
  have XG : Hid (X.heap[gx]? = some (.cells #[.int .i64 kind, .slice ae ne ce, .slice ac nc cc, .slice ak nk ck, .slice ah nh ch, .int .i64 next, .string data] 27 (0, 0))) := Lib.hid (by rw [hX, hgx]; exact heap_alloc_new _ _)
  have CX : Hid (∀ W, Below X.heap.size X W → W.heap[gx]? = some (.cells #[.int .i64 kind, .slice ae ne ce, .slice ac nc cc, .slice ak nk ck, .slice ah nh ch, .int .i64 next, .string data] 27 (0, 0))) := Lib.hid (fun W h => (h.block gx (lt_of_heap XG.out)).trans XG.out)
  have EN : Hid (∀ W, Below X.heap.size X W → Below w.heap.size w W) := Lib.hid (fun W h => XB.out.trans (h.mono XB.out.size))
  obtain ⟨x0, x1, x2, x3, x4, x5, x6⟩ := node_cells XG.out
  have hX' := hX.symm
  have hgx' := hgx.symm
  unfold Nd.arr at LF IN CH
  simp only at LF IN CH
  rw [← HE.out, ← HC.out, ← HK.out, ← HH.out] at LF IN CH
  have LX : Hid (∀ W, Below X.heap.size X W → Ls W ⟨.slice ae ents.length ce, .slice ac chs.length cc, .slice ak keys.length ck, .slice ah kids.length ch⟩ ⟨kind, ents, chs, keys, kids, next, data⟩) := Lib.hid (fun W h => V.out.below (EN.out W h))
  clear hr hv hz hne hnc hnk hnh hX hgx
  rw [← HE.out, ← HC.out, ← HK.out, ← HH.out] at LX
  by_cases q1 : kind = 1
  · have k1 : (kind == 1) = true := by simp [q1]
    have S1 := Lib.hid (size_k1 ⟨kind, ents, chs, keys, kids, next, data⟩ q1)
    rw [← HL.out] at S1
    clear BK IN CH
    cases fl with
    | false =>
      have FA : Hid (r = -1) := Lib.hid (by rw [RR.out, S1.out]; rfl)
      clear q1
      go_enter Try.func52, Try.ntmps52
      go_wp2_with (go_at_call 55; refine (LF.out X (LX.out X (Below.refl _ _))).mono ?_; rintro e w1 ⟨rfl, hb⟩; have B1 := Lib.hid hb; clear hb)
      go_ret
      exact ⟨by rw [FA.out]; rfl, EN.out _ B1.out⟩
    | true =>
      have il : IsLeaf ⟨kind, ents, chs, keys, kids, next, data⟩ := (leaf_iff _).1 (by rw [leafB_r, ← HL.out, show decide (Nd.kind ⟨kind, ents, chs, keys, kids, next, data⟩ = 1) = true from decide_eq_true q1]; rfl)
      clear q1
      obtain ⟨L, hL⟩ : ∃ L, L = szL ⟨kind, ents, chs, keys, kids, next, data⟩ := ⟨_, rfl⟩
      have LL : Hid (L.length = ne ∧ (∀ k, k < ne → L.getD k 0 = szE (ents.getD k (⟨#[]⟩, ⟨#[]⟩), chs.getD k 0)) ∧ (∀ k, (L.take k).sum ≤ 1671257674219520) ∧ (∀ e ∈ ents, e.1.size ≤ 120 ∧ e.2.size ≤ 64)) := Lib.hid ⟨by rw [hL, szL_length _ il.c, HE.out], fun k hk => by rw [hL]; exact szL_at _ il.c k (by rw [← show ne = (Nd.ents ⟨kind, ents, chs, keys, kids, next, data⟩).length from HE.out]; exact hk), fun k => by
        have := sum_take_le L 190 k 8796093022208 (by rw [hL]; exact szL_le _ (leafG_sizes _ _ _ il.g)) (by rw [hL, szL_length _ il.c]; exact Z.out.e)
        omega, leafG_sizes _ _ _ il.g⟩
      have FA : Hid (r = ((8 + L.sum : Nat) : Int)) := Lib.hid (by rw [RR.out, S1.out, if_pos rfl, hL])
      have HQ : Hid (nc = ne) := Lib.hid (by rw [HC.out, HE.out]; exact il.c)
      clear hL il S1
      go_enter Try.func52, Try.ntmps52
      go_wp2_with (go_at_call 55; refine (LF.out X (LX.out X (Below.refl _ _))).mono ?_; rintro e w1 ⟨rfl, hb⟩; have B1 := Lib.hid hb; clear hb)
      clear x0 x1 x2 x3 x4 x5 x6 hX' hgx'
      go_loopg [3, 4] ne (fun g s3 si wr => ∃ (k : Nat), k ≤ ne ∧ g = ne - k ∧ si = .int .i64 k ∧ s3 = .int .i64 ((8 + (L.take k).sum : Nat) : Int) ∧ Below X.heap.size X wr)
      case atStart => exact ⟨0, Nat.zero_le _, rfl, rfl, rfl, B1.out⟩
      case round =>
        obtain ⟨k, hk, hg, rfl, rfl, hb⟩ := hrel
        have R : Aside (gk = ne - k ∧ Below X.heap.size X wr) := ⟨hg, hb⟩
        clear hg hb
        obtain ⟨x0, x1, x2, x3, x4, x5, x6⟩ := node_cells (CX.out wr R.out.2)
        by_cases hlt : k < ne
        · obtain ⟨b, off, hae, c0, c1⟩ := (V.out.e.below (EN.out wr R.out.2)).at k (by rw [← HE.out]; exact hlt)
          obtain ⟨b', off', hac, d0⟩ := (V.out.c.below (EN.out wr R.out.2)).at k (by rw [← HC.out, HQ.out]; exact hlt)
          simp only at hae hac c0 c1 d0
          have GT := Lib.hid (LL.out.2.1 k hlt)
          have SB : (ents.getD k (⟨#[]⟩, ⟨#[]⟩)).1.size ≤ 120 ∧ (ents.getD k (⟨#[]⟩, ⟨#[]⟩)).2.size ≤ 64 := LL.out.2.2.2 _ (getD_mem (by rw [← HE.out]; exact hlt))
          obtain ⟨x, hx⟩ : ∃ x, x = ents.getD k (⟨#[]⟩, ⟨#[]⟩) := ⟨_, rfl⟩
          obtain ⟨c, hc⟩ : ∃ c, c = chs.getD k 0 := ⟨_, rfl⟩
          rw [← hx] at c0 c1 SB
          rw [← hc] at d0
          rw [← hx, ← hc] at GT
          obtain ⟨xk, xv⟩ := x
          simp only at c0 c1 GT SB
          obtain ⟨s1, s2⟩ := SB
          clear hx hc
          subst hae hac
          have hlt' : (k : Int) < (ne : Int) := by omega
          have hltc : (k : Int) < (nc : Int) := by have := HQ.out; omega
          obtain ⟨S, hS⟩ : ∃ S, S = (L.take k).sum := ⟨_, rfl⟩
          have hS9 : S ≤ 1671257674219520 := by rw [hS]; exact LL.out.2.2.1 k
          have SN : Hid ((L.take (k + 1)).sum = S + szE ((xk, xv), c)) := Lib.hid (by rw [sum_take L k (by rw [LL.out.1]; exact hlt), GT.out, hS])
          rw [← hS]
          clear hS
          obtain ⟨Q8, hQ8⟩ : ∃ Q8, Q8 = 8 + S := ⟨_, rfl⟩
          rw [← hQ8]
          have hQ9 : Q8 ≤ 1671257674219528 := by omega
          have W1 : IntKind.i64.wrap ((Q8 : Int) + 2) = (Q8 : Int) + 2 := wrap_in (by omega) (by omega)
          have W2 : IntKind.i64.wrap ((Q8 : Int) + 2 + (xk.size : Int)) = (Q8 : Int) + 2 + (xk.size : Int) := wrap_in (by omega) (by omega)
          have W3 : IntKind.i64.wrap ((Q8 : Int) + 2 + (xk.size : Int) + (xv.size : Int)) = (Q8 : Int) + 2 + (xk.size : Int) + (xv.size : Int) := wrap_in (by omega) (by omega)
          have HQ8 := Lib.hid hQ8
          clear hQ8
          have DX : Hid (∀ m, Below X.heap.size X (wr.drewN m)) := Lib.hid (fun m => drawn_of R.out.2 m)
          by_cases h0 : c = 0
          · have g0 : (c != 0) = false := by simp [h0]
            have SN' : Hid (((8 + (L.take (k + 1)).sum : Nat) : Int) = (Q8 : Int) + 2 + (xk.size : Int) + (xv.size : Int)) := Lib.hid (by rw [SN.out]; unfold szE; simp only; rw [if_pos h0]; have := HQ8.out; omega)
            clear h0
            go_wp2_with fail
            go_quiet (fail)
            go_wp2_with fail
            go_roundg (ne - (k + 1))
            case measure => have := R.out.1; omega
            case rel => exact ⟨k + 1, by omega, rfl, by go_num, by rw [SN'.out], DX.out _⟩
          · have g0 : (c != 0) = true := by simp [h0]
            have SN' : Hid (((8 + (L.take (k + 1)).sum : Nat) : Int) = (Q8 : Int) + 2 + (xk.size : Int) + (xv.size : Int) + 4) := Lib.hid (by rw [SN.out]; unfold szE; simp only; rw [if_neg h0]; have := HQ8.out; omega)
            clear h0
            go_wp2_with fail
            go_quiet (fail)
            go_wp2_with fail
            go_roundg (ne - (k + 1))
            case measure => have := R.out.1; omega
            case rel => exact ⟨k + 1, by omega, rfl, by go_num, by rw [SN'.out], DX.out _⟩
        · have ek : L.take k = L := List.take_of_length_le (by rw [LL.out.1]; omega)
          rw [ek]
          go_wp2_with fail
          go_ret
          exact ⟨by rw [FA.out]; rfl, EN.out _ R.out.2⟩
  have k1 : (kind == 1) = false := by simp [q1]
  by_cases q2 : kind = 2
  · have k2 : (kind == 2) = true := by simp [q2]
    have S1 := Lib.hid (size_k2 ⟨kind, ents, chs, keys, kids, next, data⟩ q2)
    rw [← HI.out] at S1
    clear q1 BK LF CH
    cases fi with
    | false =>
      have FA : Hid (r = -1) := Lib.hid (by rw [RR.out, S1.out]; rfl)
      clear q2
      go_enter Try.func52, Try.ntmps52
      go_wp2_with (go_at_call 56; refine (IN.out X (LX.out X (Below.refl _ _))).mono ?_; rintro e w1 ⟨rfl, hb⟩; have B1 := Lib.hid hb; clear hb)
      go_ret
      exact ⟨by rw [FA.out]; rfl, EN.out _ B1.out⟩
    | true =>
      have il : IsInn ⟨kind, ents, chs, keys, kids, next, data⟩ := (inn_iff _).1 (by rw [innB_r, ← HI.out, show decide (Nd.kind ⟨kind, ents, chs, keys, kids, next, data⟩ = 2) = true from decide_eq_true q2]; rfl)
      clear q2
      obtain ⟨L, hL⟩ : ∃ L, L = szI ⟨kind, ents, chs, keys, kids, next, data⟩ := ⟨_, rfl⟩
      have LL : Hid (L.length = nk ∧ (∀ k, k < nk → L.getD k 0 = szK (keys.getD k ⟨#[]⟩)) ∧ (∀ k, (L.take k).sum ≤ 1671257674219520) ∧ (∀ e ∈ keys, e.size ≤ 120)) := Lib.hid ⟨by rw [hL]; unfold szI; rw [List.length_map, HK.out], fun k hk => by
        rw [hL]; unfold szI
        rw [List.getD_eq_getElem?_getD, List.getElem?_map, List.getD_eq_getElem?_getD, List.getElem?_eq_getElem (by rw [← show nk = (Nd.keys ⟨kind, ents, chs, keys, kids, next, data⟩).length from HK.out]; exact hk)]
        rfl, fun k => by
        have := sum_take_le L 125 k 8796093022208 (by rw [hL]; exact szI_le _ (innG_sizes _ _ il.g)) (by rw [hL]; unfold szI; rw [List.length_map]; exact Z.out.k)
        omega, innG_sizes _ _ il.g⟩
      have FA : Hid (r = ((12 + L.sum : Nat) : Int)) := Lib.hid (by rw [RR.out, S1.out, if_pos rfl, hL])
      clear hL il S1
      go_enter Try.func52, Try.ntmps52
      go_wp2_with (go_at_call 56; refine (IN.out X (LX.out X (Below.refl _ _))).mono ?_; rintro e w1 ⟨rfl, hb⟩; have B1 := Lib.hid hb; clear hb)
      clear x0 x1 x2 x3 x4 x5 x6 hX' hgx'
      go_loopg [3, 5] nk (fun g s3 si wr => ∃ (k : Nat), k ≤ nk ∧ g = nk - k ∧ si = .int .i64 k ∧ s3 = .int .i64 ((12 + (L.take k).sum : Nat) : Int) ∧ Below X.heap.size X wr)
      case atStart => exact ⟨0, Nat.zero_le _, rfl, rfl, rfl, B1.out⟩
      case round =>
        obtain ⟨k, hk, hg, rfl, rfl, hb⟩ := hrel
        have R : Aside (gk = nk - k ∧ Below X.heap.size X wr) := ⟨hg, hb⟩
        clear hg hb
        obtain ⟨x0, x1, x2, x3, x4, x5, x6⟩ := node_cells (CX.out wr R.out.2)
        by_cases hlt : k < nk
        · obtain ⟨b, off, hae, c0⟩ := (V.out.k.below (EN.out wr R.out.2)).at k (by rw [← HK.out]; exact hlt)
          simp only at hae c0
          have GT := Lib.hid (LL.out.2.1 k hlt)
          have s1 : (keys.getD k ⟨#[]⟩).size ≤ 120 := LL.out.2.2.2 _ (getD_mem (by rw [← HK.out]; exact hlt))
          obtain ⟨x, hx⟩ : ∃ x, x = keys.getD k ⟨#[]⟩ := ⟨_, rfl⟩
          rw [← hx] at c0 s1 GT
          clear hx
          subst hae
          have hlt' : (k : Int) < (nk : Int) := by omega
          obtain ⟨S, hS⟩ : ∃ S, S = 12 + (L.take k).sum := ⟨_, rfl⟩
          have hS9 : S ≤ 1671257674219532 := by have := LL.out.2.2.1 k; omega
          have SN' : Hid (((12 + (L.take (k + 1)).sum : Nat) : Int) = (S : Int) + 5 + (x.size : Int)) := Lib.hid (by rw [sum_take L k (by rw [LL.out.1]; exact hlt), GT.out]; unfold szK; omega)
          rw [← hS]
          clear hS
          go_wp2_with fail
          go_roundg (nk - (k + 1))
          case measure => have := R.out.1; omega
          case rel => exact ⟨k + 1, by omega, rfl, by go_num, by rw [SN'.out], R.out.2⟩
        · have ek : L.take k = L := List.take_of_length_le (by rw [LL.out.1]; omega)
          rw [ek]
          go_wp2_with fail
          go_ret
          exact ⟨by rw [FA.out]; rfl, EN.out _ R.out.2⟩
  have k2 : (kind == 2) = false := by simp [q2]
  by_cases q3 : kind = 3
  · have k3 : (kind == 3) = true := by simp [q3]
    have S1 := Lib.hid (size_k3 ⟨kind, ents, chs, keys, kids, next, data⟩ q3)
    rw [← HCH.out] at S1
    clear q1 q2 BK LF IN
    cases fc with
    | false =>
      have FA : Hid (r = -1) := Lib.hid (by rw [RR.out, S1.out]; rfl)
      clear q3
      go_enter Try.func52, Try.ntmps52
      go_wp2_with (go_at_call 57; refine (CH.out X (LX.out X (Below.refl _ _))).mono ?_; rintro e w1 ⟨rfl, hb⟩; have B1 := Lib.hid hb; clear hb)
      go_ret
      exact ⟨by rw [FA.out]; rfl, EN.out _ B1.out⟩
    | true =>
      have hd : data.size ≤ 500 := ((ch_iff ⟨kind, ents, chs, keys, kids, next, data⟩).1 (by rw [chB_r, ← HCH.out, show decide (Nd.kind ⟨kind, ents, chs, keys, kids, next, data⟩ = 3) = true from decide_eq_true q3]; rfl)).d
      clear q3
      have FA : Hid (r = ((12 + data.size : Nat) : Int)) := Lib.hid (by rw [RR.out, S1.out, if_pos rfl])
      go_enter Try.func52, Try.ntmps52
      go_wp2_with (go_at_call 57; refine (CH.out X (LX.out X (Below.refl _ _))).mono ?_; rintro e w1 ⟨rfl, hb⟩; have B1 := Lib.hid hb; obtain ⟨x0, x1, x2, x3, x4, x5, x6⟩ := node_cells (CX.out w1 hb); clear hb)
      go_ret
      exact ⟨by rw [FA.out]; first | rfl | (exact ret_int (by omega)) | (exact ret_int (by push_cast; omega)), EN.out _ B1.out⟩
  have k3 : (kind == 3) = false := by simp [q3]
  have FA : Hid (r = -1) := Lib.hid (by rw [RR.out]; exact size_k0 ⟨kind, ents, chs, keys, kids, next, data⟩ q1 q2 q3)
  clear q1 q2 q3
  go_enter Try.func52, Try.ntmps52
  go_wp2_with fail
  go_ret
  exact ⟨by rw [FA.out]; rfl, XB.out⟩
end Go.Proofs.Ytcdejeejhdpkaaa
