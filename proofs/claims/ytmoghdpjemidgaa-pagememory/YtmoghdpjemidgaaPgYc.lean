/-
  withBody of a chain's page, of an inner page.
-/
import Derived.Test.YtmoghdpjemidgaaPgE
namespace Go.Proofs.Ytmoghdpjemidgaa
open Go.RowKit Go.Maps
set_option maxHeartbeats 4000000 in
set_option maxRecDepth 100000 in
theorem withBody_chain (n : Nd) (v : Nv) (w0 w : World) (g m x : Nat) (l : List UInt8) (hf : Fil w0 w g v n) (hk1 : n.kind = 3) (hx : n.next = (x : Int)) (hx4 : x < 4096) (hz : Zr w g l) (hm : m = l.length) (hl : l.length + (leB 4 x ++ n.data.data.toList).length ≤ 512) :
    Calls Try.prog 24 #[.slice (some ⟨g, 0, none⟩) m 512, .agg (n.arr v)] w fun e w' => e = .returned (.slice (some ⟨g, 0, none⟩) (m + (leB 4 x ++ n.data.data.toList).length) 512) ∧ Zr w' g (l ++ (leB 4 x ++ n.data.data.toList)) ∧ Kept (fun y => y = g) w w' := by
  have MM := Lib.hid hm
  obtain ⟨kind, ents, chs, keys, kids, next, data⟩ := n
  obtain ⟨ve, vc, vk, vh⟩ := v
  simp only at hk1 hx hl ⊢
  subst hk1 hx
  rw [List.length_append, leB_length, str_size] at hl ⊢
  have LL := Lib.hid hl
  unfold Nd.arr
  simp only
  obtain ⟨gx, hgx⟩ : ∃ gx, gx = w.heap.size := ⟨_, rfl⟩
  have ng : Hid (gx ≠ g) := Lib.hid (by have := lt_of_heap hz; omega)
  obtain ⟨X, hX⟩ : ∃ X, X = w.alloc (.cells #[.int .i64 3, ve, vc, vk, vh, .int .i64 (x : Int), .string data] 27) := ⟨_, rfl⟩
  have XG : Hid (X.heap[gx]? = some (.cells #[.int .i64 3, ve, vc, vk, vh, .int .i64 (x : Int), .string data] 27 (0, 0))) := Lib.hid (by rw [hX, hgx]; exact heap_alloc_new _ _)
  obtain ⟨cX0, cX1, cX2, cX3, cX4, cX5, cX6⟩ := node_cells XG.out
  have KX : Hid (Kept (fun y => y = g) w X ∧ Zr X g l) := Lib.hid ⟨by rw [hX]; exact Below.kept ((Below.refl _ _).alloc (Nat.le_refl _) _) _, by rw [hX]; exact hz.alloc _⟩
  have CX : Hid (∀ W, Kept (fun y => y = g) X W → W.cell? ⟨gx, 6, none⟩ = some (.string data)) := Lib.hid (fun W h => (node_cells (by rw [h.block _ (lt_of_heap XG.out) ng.out]; exact XG.out)).2.2.2.2.2.2)
  have WB := Lib.hid (withBlock_any g m x l X KX.out.2 hm (by omega) (by omega))
  have N4 : Hid (m + 4 = (l ++ leB 4 x).length) := Lib.hid (by rw [List.length_append, leB_length, MM.out])
  have L4 : Hid ((l ++ leB 4 x).length + data.size ≤ 512) := Lib.hid (by rw [List.length_append, leB_length]; have := LL.out; omega)
  have hX' := hX.symm
  have hgx' := hgx.symm
  clear hf hz hm hl hX hgx
  go_enter Try.func24, Try.ntmps24
  go_wp2_with (first | (go_at_call 33; refine WB.out.mono ?_; rintro e w1 ⟨rfl, z1, k1⟩; have Z1 := Lib.hid z1; have K1 := Lib.hid k1; have c6 := CX.out w1 k1; clear z1 k1) | (refine app_inS rfl (.tmp 70) (.tmp 72) rfl (g := g) (n := m + 4) (l := l ++ leB 4 x) (t := data) rfl Z1.out N4.out L4.out rfl ?_; intro w2 H2))
  go_ret
  refine ⟨?_, ?_, (KX.out.1.trans K1.out (fun _ _ h => h)).trans H2.out.2 (fun _ _ h => h)⟩
  · rw [show m + (4 + data.size) = m + 4 + data.size by omega]; rfl
  · rw [← List.append_assoc]; exact H2.out.1
/-- The bytes of an inner page's key and the child behind it. -/
def enK (k : ByteArray) (c : Nat) : List UInt8 := [UInt8.ofNat k.size] ++ k.data.toList ++ leB 4 c
theorem enK_length (k : ByteArray) (c : Nat) : (enK k c).length = 1 + k.size + 4 := by
  unfold enK
  rw [List.length_append, List.length_append, str_size, leB_length]; rfl
def bsI (n : Nd) : List (List UInt8) := (List.range n.keys.length).map fun k => enK (n.keys.getD k ⟨#[]⟩) (n.kids.getD (k + 1) 0).toNat
theorem bsI_length (n : Nd) : (bsI n).length = n.keys.length := by unfold bsI; rw [List.length_map, List.length_range]
theorem bsI_at (n : Nd) (k : Nat) (hk : k < n.keys.length) : (bsI n).getD k [] = enK (n.keys.getD k ⟨#[]⟩) (n.kids.getD (k + 1) 0).toNat := by
  unfold bsI
  rw [List.getD_eq_getElem?_getD, List.getElem?_map, List.getElem?_eq_getElem (by rw [List.length_range]; exact hk)]
  simp
/-- What an inner page's lists are like. -/
def InnOk (n : Nd) : Prop := n.kids.length = n.keys.length + 1 ∧ (∀ k, k < n.keys.length → (n.keys.getD k ⟨#[]⟩).size ≤ 120) ∧ (∀ k, k < n.kids.length → 0 ≤ n.kids.getD k 0 ∧ n.kids.getD k 0 < 4096)
set_option maxHeartbeats 8000000 in
set_option maxRecDepth 100000 in
theorem withBody_inner (n : Nd) (v : Nv) (w0 w : World) (g m : Nat) (l : List UInt8) (hf : Fil w0 w g v n) (hk1 : n.kind = 2) (ho : InnOk n) (hz : Zr w g l) (hm : m = l.length) (hl : l.length + (leB 4 (n.kids.getD 0 0).toNat ++ (bsI n).flatten).length ≤ 512) :
    Calls Try.prog 24 #[.slice (some ⟨g, 0, none⟩) m 512, .agg (n.arr v)] w fun e w' => e = .returned (.slice (some ⟨g, 0, none⟩) (m + (leB 4 (n.kids.getD 0 0).toNat ++ (bsI n).flatten).length) 512) ∧ Zr w' g (l ++ (leB 4 (n.kids.getD 0 0).toNat ++ (bsI n).flatten)) ∧ Kept (fun y => y = g) w w' := by
  obtain ⟨bs, hbs⟩ : ∃ bs, bs = bsI n := ⟨_, rfl⟩
  have BA : Hid (bs.length = n.keys.length ∧ ∀ k, k < n.keys.length → bs.getD k [] = enK (n.keys.getD k ⟨#[]⟩) (n.kids.getD (k + 1) 0).toNat) := Lib.hid (by rw [hbs]; exact ⟨bsI_length n, fun k hk => bsI_at n k hk⟩)
  obtain ⟨x0, hx0⟩ : ∃ x0, x0 = (n.kids.getD 0 0).toNat := ⟨_, rfl⟩
  have X0 : Hid (n.kids.getD 0 0 = (x0 : Int) ∧ x0 < 4096) := Lib.hid (by have := ho.2.2 0 (by have := ho.1; omega); omega)
  rw [← hbs, ← hx0] at hl ⊢
  rw [List.length_append, leB_length] at hl ⊢
  have F := Lib.hid hf
  have O := Lib.hid ho
  have LL := Lib.hid hl
  have MM := Lib.hid hm
  obtain ⟨kind, ents, chs, keys, kids, next, data⟩ := n
  obtain ⟨ve, vc, vk, vh⟩ := v
  simp only at hk1
  subst hk1
  obtain ⟨ak, ck, he, hle, hme⟩ := hf.ls.k.len
  obtain ⟨ah, ch, hc, hlc, hmc⟩ := hf.ls.h.len
  simp only at he hc hle hlc BA X0
  subst he hc
  unfold maxLen at hme hmc
  unfold Nd.arr
  simp only
  obtain ⟨nk, hnk⟩ : ∃ k, k = keys.length := ⟨_, rfl⟩
  obtain ⟨nh, hnh⟩ : ∃ k, k = kids.length := ⟨_, rfl⟩
  rw [← hnk, ← hnh]
  rw [← hnk] at hle BA; rw [← hnh] at hlc
  have HK := Lib.hid hnk; have HH := Lib.hid hnh
  have hnq : nh = nk + 1 := by rw [hnh, hnk]; exact ho.1
  obtain ⟨gx, hgx⟩ : ∃ gx, gx = w.heap.size := ⟨_, rfl⟩
  have ng : Hid (gx ≠ g) := Lib.hid (by have := lt_of_heap hz; omega)
  obtain ⟨X, hX⟩ : ∃ X, X = w.alloc (.cells #[.int .i64 2, ve, vc, .slice ak nk ck, .slice ah nh ch, .int .i64 next, .string data] 27) := ⟨_, rfl⟩
  have XG : Hid (X.heap[gx]? = some (.cells #[.int .i64 2, ve, vc, .slice ak nk ck, .slice ah nh ch, .int .i64 next, .string data] 27 (0, 0))) := Lib.hid (by rw [hX, hgx]; exact heap_alloc_new _ _)
  have CX : Hid (∀ W, Kept (fun y => y = g) X W → W.heap[gx]? = some (.cells #[.int .i64 2, ve, vc, .slice ak nk ck, .slice ah nh ch, .int .i64 next, .string data] 27 (0, 0))) := Lib.hid (fun W h => by rw [h.block _ (lt_of_heap XG.out) ng.out]; exact XG.out)
  obtain ⟨cX0, cX1, cX2, cX3, cX4, cX5, cX6⟩ := node_cells XG.out
  have KX : Hid (Kept (fun y => y = g) w X ∧ Zr X g l) := Lib.hid ⟨by rw [hX]; exact Below.kept ((Below.refl _ _).alloc (Nat.le_refl _) _) _, by rw [hX]; exact hz.alloc _⟩
  have WB := Lib.hid (withBlock_any g m x0 l X KX.out.2 hm (by omega) (by have := X0.out; omega))
  obtain ⟨bh, oh, hah, d0⟩ := (F.out.kept KX.out.1).at.h.at 0 (by rw [← HH.out]; omega)
  simp only at hah d0
  rw [X0.out.1, Nat.add_zero] at d0
  subst hah
  have hX' := hX.symm
  have hgx' := hgx.symm
  have hlt0 : (0 : Int) < (nh : Int) := by omega
  have hp0 : 0 < nh := by omega
  have NB : Hid (bh ≠ g) := Lib.hid (by
    obtain ⟨b2, off2, e2, d2⟩ := F.out.ls.h.at 0 (by rw [← HH.out]; omega)
    simp only [Option.some.injEq, Addr.mk.injEq, and_true] at e2
    have := block_lt_of_cell d2
    have := F.out.lo
    simp only at *
    omega)
  have HQ := Lib.hid hnq
  clear hf ho hz hm hl hnk hnh hX hgx hbs hx0 hnq
  go_enter Try.func24, Try.ntmps24
  go_wp2_with (go_at_call 33; refine WB.out.mono ?_; rintro e w1 ⟨rfl, z1, k1⟩; have Z1 := Lib.hid z1; have K1 := Lib.hid k1; obtain ⟨cX0, cX1, cX2, cX3, cX4, cX5, cX6⟩ := node_cells (CX.out w1 k1); clear z1 k1)
  clear cX0 cX1 cX2 cX3 cX4 cX5 cX6 hX' hgx' d0
  go_loopg [0, 41] nk (fun gg s0 si wr => ∃ (k : Nat) (m' : Nat), k ≤ nk ∧ gg = nk - k ∧ si = .int .i64 k ∧ s0 = .slice (some ⟨g, 0, none⟩) m' 512 ∧ m' = (l ++ leB 4 x0 ++ (bs.take k).flatten).length ∧ Zr wr g (l ++ leB 4 x0 ++ (bs.take k).flatten) ∧ Kept (fun y => y = g) X wr)
  case atStart => exact ⟨0, m + 4, Nat.zero_le _, rfl, rfl, rfl, by simp [MM.out, leB_length], by simpa using Z1.out, K1.out⟩
  case round =>
    obtain ⟨k, m', hk, hg, rfl, rfl, hm', hz', hkp⟩ := hrel
    have R : Aside (gk = nk - k ∧ m' = (l ++ leB 4 x0 ++ (bs.take k).flatten).length ∧ Zr wr g (l ++ leB 4 x0 ++ (bs.take k).flatten) ∧ Kept (fun y => y = g) X wr) := ⟨hg, hm', hz', hkp⟩
    clear hg hm' hz' hkp
    by_cases hlt : k < nk
    · have FR := Lib.hid ((F.out.kept KX.out.1).kept R.out.2.2.2)
      obtain ⟨b, off, hak, c0⟩ := FR.out.at.k.at k (by rw [← HK.out]; exact hlt)
      simp only at hak c0
      subst hak
      have GT := Lib.hid (BA.out.2 k hlt)
      have s1 : _ := O.out.2.1 k (by rw [← HK.out]; exact hlt)
      have s2 : _ := O.out.2.2 (k + 1) (by rw [← HH.out]; have := HQ.out; omega)
      simp only at s1 s2
      obtain ⟨xk, hx⟩ : ∃ x, x = keys.getD k ⟨#[]⟩ := ⟨_, rfl⟩
      obtain ⟨ci, hci⟩ : ∃ c, c = kids.getD (k + 1) 0 := ⟨_, rfl⟩
      rw [← hx] at c0 s1
      rw [← hci] at s2
      rw [← hx, ← hci] at GT
      obtain ⟨c, rfl⟩ : ∃ c : Nat, ci = (c : Int) := ⟨ci.toNat, by omega⟩
      have hc4 : c < 4096 := by omega
      rw [Int.toNat_natCast] at GT
      have HCI := Lib.hid hci
      clear hx hci s2
      have hlt' : (k : Int) < (nk : Int) := by omega
      have hlt2 : (k : Int) + 1 < (nh : Int) := by have := HQ.out; omega
      have FN := Lib.hid (flat_next bs k (by rw [BA.out.1]; exact hlt))
      rw [GT.out] at FN
      have FL := Lib.hid (flat_le bs (k + 1))
      obtain ⟨L, hL⟩ : ∃ L, L = l ++ leB 4 x0 ++ (bs.take k).flatten := ⟨_, rfl⟩
      have RL : Hid (m' = L.length ∧ Zr wr g L ∧ L.length + 1 + xk.size + 4 ≤ 512) := Lib.hid (by
        rw [hL]
        refine ⟨R.out.2.1, R.out.2.2.1, ?_⟩
        have h1 := LL.out
        have h2 := FL.out
        rw [FN.out, List.length_append, enK_length] at h2
        rw [List.length_append, List.length_append, leB_length]
        omega)
      have NEXT : Hid (l ++ leB 4 x0 ++ (bs.take (k + 1)).flatten = L ++ [UInt8.ofNat xk.size] ++ xk.data.toList ++ leB 4 c) := Lib.hid (by
        rw [FN.out, hL]; unfold enK; simp only [List.append_assoc])
      clear hL
      have k8 : Hid ((xk.size : Int) = c8 (UInt8.ofNat xk.size)) := Lib.hid (c8_of _ (by omega)).symm
      have N2 : Hid (m' + 1 = (L ++ [UInt8.ofNat xk.size]).length) := Lib.hid (by rw [List.length_append, ← RL.out.1]; rfl)
      have L1 : Hid (L.length + 1 ≤ 512) := Lib.hid (by have := RL.out.2.2; omega)
      have L2 : Hid ((L ++ [UInt8.ofNat xk.size]).length + xk.size ≤ 512) := Lib.hid (by rw [← N2.out, RL.out.1]; have := RL.out.2.2; omega)
      have N3 : Hid (m' + 1 + xk.size = (L ++ [UInt8.ofNat xk.size] ++ xk.data.toList).length) := Lib.hid (by rw [List.length_append, ← N2.out, str_size])
      have L3 : Hid ((L ++ [UInt8.ofNat xk.size] ++ xk.data.toList).length + 4 ≤ 512) := Lib.hid (by rw [← N3.out, RL.out.1]; have := RL.out.2.2; omega)
      have KC : Hid (∀ W, Kept (fun y => y = g) wr W → W.cell? ⟨gx, 4, none⟩ = some (.slice (some ⟨bh, oh, none⟩) nh ch) ∧ W.cell? ⟨bh, oh + (k + 1), none⟩ = some (.int .i64 (c : Int))) := Lib.hid (fun W h => by
        have hk' := R.out.2.2.2.trans h (fun _ _ h => h)
        refine ⟨(node_cells (CX.out W hk')).2.2.2.2.1, ?_⟩
        obtain ⟨b2, off2, e2, d2⟩ := ((F.out.kept KX.out.1).kept hk').at.h.at (k + 1) (by rw [← HH.out]; have := HQ.out; omega)
        simp only [Option.some.injEq, Addr.mk.injEq, and_true] at e2
        rw [← e2.1, ← e2.2, ← HCI.out] at d2
        exact d2)
      go_wp2_with (first | (refine app_one rfl (.tmp 46) (.tmp 50) rfl (g := g) (n := m') (l := L) rfl RL.out.2.1 RL.out.1 L1.out (xk.size : Int) (UInt8.ofNat xk.size) k8.out rfl ?_; intro w2 H2) | (refine app_inS rfl (.tmp 52) (.tmp 53) rfl (g := g) (n := m' + 1) (l := L ++ [UInt8.ofNat xk.size]) (t := xk) rfl H2.out.1 N2.out L2.out rfl ?_; intro w3 H3; have K3 := Lib.hid (H2.out.2.trans H3.out.2 (fun _ _ h => h)); obtain ⟨kc1, kc2⟩ := KC.out w3 K3.out) | (go_at_call 33; refine (withBlock_any g (m' + 1 + xk.size) c (L ++ [UInt8.ofNat xk.size] ++ xk.data.toList) w3 H3.out.1 N3.out L3.out (by omega)).mono ?_; rintro e w4 ⟨rfl, z4, k4⟩; have Z4 := Lib.hid z4; have K4 := Lib.hid (K3.out.trans k4 (fun _ _ h => h)); clear z4 k4))
      go_roundg (nk - (k + 1))
      case measure => have := R.out.1; omega
      case rel => exact ⟨k + 1, _, by omega, rfl, by go_num, rfl, by rw [NEXT.out, List.length_append, ← N3.out, leB_length], by rw [NEXT.out]; exact Z4.out, R.out.2.2.2.trans K4.out (fun _ _ h => h)⟩
    · have ek : bs.take k = bs := List.take_of_length_le (by rw [BA.out.1]; omega)
      have e1 : m' = m + (4 + bs.flatten.length) := by rw [R.out.2.1, ek, List.length_append, List.length_append, leB_length, ← MM.out]; omega
      have Z2 := Lib.hid R.out.2.2.1
      rw [ek] at Z2
      subst e1
      go_wp2_with fail
      go_ret
      exact ⟨rfl, by rw [← List.append_assoc]; exact Z2.out, KX.out.1.trans R.out.2.2.2 (fun _ _ h => h)⟩
end Go.Proofs.Ytmoghdpjemidgaa
