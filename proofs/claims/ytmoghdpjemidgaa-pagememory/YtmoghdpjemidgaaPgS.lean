/-
  leafSize, innerSize, count.
-/
import Derived.Test.YtmoghdpjemidgaaPgN
namespace Go.Proofs.Ytmoghdpjemidgaa
open Go.RowKit Go.Maps
def szE (x : Ent × Int) : Nat := 2 + x.1.1.size + x.1.2.size + (if x.2 = 0 then 0 else 4)
def szK (k : ByteArray) : Nat := 5 + k.size
theorem sum_take (l : List Nat) (k : Nat) (h : k < l.length) : (l.take (k + 1)).sum = (l.take k).sum + l.getD k 0 := by
  rw [take_oneI l k 0 h, List.sum_append]
  simp
theorem sum_le (l : List Nat) (m : Nat) (h : ∀ x ∈ l, x ≤ m) : l.sum ≤ m * l.length := by
  induction l with
  | nil => simp
  | cons x r ih =>
    have h1 := h x (by simp)
    have h2 := ih (fun y hy => h y (by simp [hy]))
    rw [List.sum_cons, List.length_cons, Nat.mul_add]
    omega
theorem sum_take_le (l : List Nat) (m k N : Nat) (h : ∀ x ∈ l, x ≤ m) (hl : l.length ≤ N) : (l.take k).sum ≤ m * N := by
  have h1 := sum_le (l.take k) m (fun x hx => h x (List.mem_of_mem_take hx))
  have h2 : (l.take k).length ≤ N := by rw [List.length_take]; omega
  exact Nat.le_trans h1 (Nat.mul_le_mul_left _ h2)
theorem size_node : (Try.prog.info? 27).map (·.size) = some 7 := by kernel_rfl
theorem load_node {w : World} {g : Nat} {a : Array Value} (h : w.heap[g]? = some (.cells a 27 (0, 0))) (hs : a.size = 7) : (loadVar 27 ⟨g, 0, none⟩).run Try.prog w = .ok (.agg a) w :=
  run_loadVar_row w g _ _ _ _ _ h Try.underlying27 rfl (by rw [hs]; exact size_node)
/-- The sizes of a leaf's entries. -/
def szL (n : Nd) : List Nat := (n.ents.zip n.chs).map szE
theorem szL_length (n : Nd) (h : n.chs.length = n.ents.length) : (szL n).length = n.ents.length := by unfold szL; rw [List.length_map, List.length_zip]; omega
theorem szL_at (n : Nd) (h : n.chs.length = n.ents.length) (k : Nat) (hk : k < n.ents.length) : (szL n).getD k 0 = szE (n.ents.getD k (⟨#[]⟩, ⟨#[]⟩), n.chs.getD k 0) := by
  unfold szL
  rw [List.getD_eq_getElem?_getD, List.getElem?_eq_getElem (by rw [List.length_map, List.length_zip]; omega), List.getElem_map, List.getElem_zip, List.getD_eq_getElem?_getD, List.getD_eq_getElem?_getD, List.getElem?_eq_getElem hk, List.getElem?_eq_getElem (by omega)]
  rfl
theorem szL_le (n : Nd) (h : ∀ e ∈ n.ents, e.1.size ≤ 120 ∧ e.2.size ≤ 64) : ∀ x ∈ szL n, x ≤ 190 := by
  intro x hx
  unfold szL at hx
  obtain ⟨⟨e, c⟩, hm, rfl⟩ := List.mem_map.1 hx
  have := h e (List.of_mem_zip hm).1
  unfold szE
  simp only
  split <;> omega
set_option maxHeartbeats 4000000 in
set_option maxRecDepth 100000 in
theorem leafSize_any (n : Nd) (v : Nv) (w : World) (hv : Ls w v n) (hz : Sz n) (hc : n.chs.length = n.ents.length) (hs : ∀ e ∈ n.ents, e.1.size ≤ 120 ∧ e.2.size ≤ 64) :
    Calls Try.prog 18 #[.agg (n.arr v)] w fun e w' => e = .returned (.int .i64 ((8 + (szL n).sum : Nat) : Int)) ∧ Below w.heap.size w w' := by
  have V := Lib.hid hv
  obtain ⟨L, hL⟩ : ∃ L, L = szL n := ⟨_, rfl⟩
  rw [← hL]
  have LL : Hid (L.length = n.ents.length ∧ (∀ k, k < n.ents.length → L.getD k 0 = szE (n.ents.getD k (⟨#[]⟩, ⟨#[]⟩), n.chs.getD k 0)) ∧ (∀ k, (L.take k).sum ≤ 1671257674219520) ∧ (∀ e ∈ n.ents, e.1.size ≤ 120 ∧ e.2.size ≤ 64)) := Lib.hid ⟨by rw [hL]; exact szL_length n hc, fun k hk => by rw [hL]; exact szL_at n hc k hk, fun k => by
    have := sum_take_le L 190 k 8796093022208 (by rw [hL]; exact szL_le n hs) (by rw [hL, szL_length n hc]; exact hz.e)
    omega, hs⟩
  have BB : Hid (Below w.heap.size w (w.alloc (.cells (n.arr v) 27))) := Lib.hid ((Below.refl _ _).alloc (Nat.le_refl _) _)
  obtain ⟨kind, ents, chs, keys, kids, next, data⟩ := n
  obtain ⟨ve, vc, vk, vh⟩ := v
  obtain ⟨ae, ce, he, hle, hme⟩ := hv.e.len
  obtain ⟨ac, cc, hcc, hlc, hmc⟩ := hv.c.len
  simp only at he hcc hle hlc hc LL
  subst he hcc
  unfold maxLen at hme hmc
  unfold Nd.arr at BB ⊢
  simp only at BB ⊢
  obtain ⟨ne, hne⟩ : ∃ k, k = ents.length := ⟨_, rfl⟩
  obtain ⟨nc, hnc⟩ : ∃ k, k = chs.length := ⟨_, rfl⟩
  rw [← hne, ← hnc] at BB hc ⊢
  rw [← hne] at hle LL; rw [← hnc] at hlc
  have HE := Lib.hid hne; have HC := Lib.hid hnc; have HQ := Lib.hid hc
  clear hL hv hz hs hne hnc hc
  obtain ⟨gx, hgx⟩ : ∃ gx, gx = w.heap.size := ⟨_, rfl⟩
  obtain ⟨X, hX⟩ : ∃ X, X = w.alloc (.cells #[.int .i64 kind, .slice ae ne ce, .slice ac nc cc, vk, vh, .int .i64 next, .string data] 27) := ⟨_, rfl⟩
  have XG : Hid (X.heap[gx]? = some (.cells #[.int .i64 kind, .slice ae ne ce, .slice ac nc cc, vk, vh, .int .i64 next, .string data] 27 (0, 0))) := Lib.hid (by rw [hX, hgx]; exact heap_alloc_new _ _)
  have cX1 : X.cell? ⟨gx, 1, none⟩ = some (.slice ae ne ce) := by rw [cell_of_row X gx 1 _ _ _ XG.out]; rfl
  have XX : Hid (Below w.heap.size w X ∧ w.heap.size ≤ gx ∧ gx < X.heap.size) := Lib.hid ⟨by rw [hX]; exact BB.out, by omega, by rw [hX, hgx]; simp⟩
  have hX' := hX.symm
  have hgx' := hgx.symm
  clear BB hX hgx
  go_enter Try.func18, Try.ntmps18
  go_wp2_with fail
  clear cX1 hX' hgx'
  go_loopg [3, 9] ne (fun g s3 si wr => ∃ (k : Nat), k ≤ ne ∧ g = ne - k ∧ si = .int .i64 k ∧ s3 = .int .i64 ((8 + (L.take k).sum : Nat) : Int) ∧ Below X.heap.size X wr)
  case atStart => exact ⟨0, Nat.zero_le _, rfl, rfl, rfl, Below.refl _ _⟩
  case round =>
    obtain ⟨k, hk, hg, rfl, rfl, hb⟩ := hrel
    have R : Aside (gk = ne - k ∧ Below X.heap.size X wr) := ⟨hg, hb⟩
    clear hg hb
    by_cases hlt : k < ne
    · have W0 := Lib.hid (XX.out.1.trans (R.out.2.mono XX.out.1.size))
      obtain ⟨b, off, hae, c0, c1⟩ := (V.out.e.below W0.out).at k (by rw [← HE.out]; exact hlt)
      obtain ⟨b', off', hac, d0⟩ := (V.out.c.below W0.out).at k (by rw [← HC.out, HQ.out]; exact hlt)
      simp only at hae hac c0 c1 d0
      have GT := Lib.hid (LL.out.2.1 k hlt)
      have SB : (ents.getD k (⟨#[]⟩, ⟨#[]⟩)).1.size ≤ 120 ∧ (ents.getD k (⟨#[]⟩, ⟨#[]⟩)).2.size ≤ 64 := LL.out.2.2.2 _ (getD_mem (by rw [← HE.out]; exact hlt))
      obtain ⟨x, hx⟩ : ∃ x, x = ents.getD k (⟨#[]⟩, ⟨#[]⟩) := ⟨_, rfl⟩
      obtain ⟨c, hc⟩ : ∃ c, c = chs.getD k 0 := ⟨_, rfl⟩
      rw [← hx] at c0 c1 SB
      rw [← hc] at d0
      rw [← hx, ← hc] at GT
      obtain ⟨xk, xv⟩ := x
      simp only at c0 c1 GT SB
      obtain ⟨s1, s2⟩ := SB
      clear hx hc
      subst hae hac
      have hlt' : (k : Int) < (ne : Int) := by omega
      have hltc : (k : Int) < (nc : Int) := by have := HQ.out; omega
      obtain ⟨S, hS⟩ : ∃ S, S = (L.take k).sum := ⟨_, rfl⟩
      have hS9 : S ≤ 1671257674219520 := by rw [hS]; exact LL.out.2.2.1 k
      have SN : Hid ((L.take (k + 1)).sum = S + szE ((xk, xv), c)) := Lib.hid (by rw [sum_take L k (by rw [LL.out.1]; exact hlt), GT.out, hS])
      rw [← hS]
      clear hS
      have A2 : ∀ ob, (wr.alloc ob).cell? ⟨gx, 2, none⟩ = some (.slice (some ⟨b', off', none⟩) nc cc) := fun ob => by
        rw [cell_of_row (wr.alloc ob) gx 2 _ _ _ (by rw [Below.heap_alloc _ _ _ (by have := R.out.2.size; have := XX.out.2.2; omega), R.out.2.block _ XX.out.2.2]; exact XG.out)]; rfl
      have AD : ∀ ob, (wr.alloc ob).cell? ⟨b', off' + k, none⟩ = some (.int .i64 c) := fun ob => by
        rw [(((Below.refl wr.heap.size wr).alloc (Nat.le_refl _) ob)).cell (block_lt_of_cell d0)]; exact d0
      have BL : Hid (∀ ob, Below X.heap.size X (wr.alloc ob)) := Lib.hid (fun ob => R.out.2.alloc R.out.2.size ob)
      by_cases h0 : c = 0
      · have g0 : (c != 0) = false := by simp [h0]
        have SN' : Hid (((8 + (L.take (k + 1)).sum : Nat) : Int) = ((8 + S : Nat) : Int) + (2 + (xk.size : Int) + (xv.size : Int))) := Lib.hid (by rw [SN.out]; unfold szE; simp only; rw [if_pos h0]; omega)
        clear h0
        go_wp2_with fail
        go_roundg (ne - (k + 1))
        case measure => have := R.out.1; omega
        case rel => exact ⟨k + 1, by omega, rfl, by go_num, by rw [SN'.out]; first | rfl | (congr 1; omega) | go_num, BL.out _⟩
      · have g0 : (c != 0) = true := by simp [h0]
        have SN' : Hid (((8 + (L.take (k + 1)).sum : Nat) : Int) = ((8 + S : Nat) : Int) + (2 + (xk.size : Int) + (xv.size : Int)) + 4) := Lib.hid (by rw [SN.out]; unfold szE; simp only; rw [if_neg h0]; omega)
        clear h0
        go_wp2_with fail
        go_roundg (ne - (k + 1))
        case measure => have := R.out.1; omega
        case rel => exact ⟨k + 1, by omega, rfl, by go_num, by rw [SN'.out]; first | rfl | (congr 1; omega) | go_num, BL.out _⟩
    · have ek : L.take k = L := List.take_of_length_le (by rw [LL.out.1]; omega)
      rw [ek]
      go_wp2_with fail
      go_ret
      exact ⟨rfl, XX.out.1.trans (R.out.2.mono XX.out.1.size)⟩
/-- The sizes of an inner page's keys. -/
def szI (n : Nd) : List Nat := n.keys.map szK
theorem szI_le (n : Nd) (h : ∀ e ∈ n.keys, e.size ≤ 120) : ∀ x ∈ szI n, x ≤ 125 := by
  intro x hx
  unfold szI at hx
  obtain ⟨e, hm, rfl⟩ := List.mem_map.1 hx
  have := h e hm
  unfold szK
  omega
set_option maxHeartbeats 4000000 in
set_option maxRecDepth 100000 in
theorem innerSize_any (n : Nd) (v : Nv) (w : World) (hv : Ls w v n) (hz : Sz n) (hs : ∀ e ∈ n.keys, e.size ≤ 120) :
    Calls Try.prog 20 #[.agg (n.arr v)] w fun e w' => e = .returned (.int .i64 ((12 + (szI n).sum : Nat) : Int)) ∧ Below w.heap.size w w' := by
  have V := Lib.hid hv
  obtain ⟨L, hL⟩ : ∃ L, L = szI n := ⟨_, rfl⟩
  rw [← hL]
  have LL : Hid (L.length = n.keys.length ∧ (∀ k, k < n.keys.length → L.getD k 0 = szK (n.keys.getD k ⟨#[]⟩)) ∧ (∀ k, (L.take k).sum ≤ 1671257674219520) ∧ (∀ e ∈ n.keys, e.size ≤ 120)) := Lib.hid ⟨by rw [hL]; unfold szI; rw [List.length_map], fun k hk => by
    rw [hL]; unfold szI
    rw [List.getD_eq_getElem?_getD, List.getElem?_map, List.getD_eq_getElem?_getD, List.getElem?_eq_getElem hk]
    rfl, fun k => by
    have := sum_take_le L 125 k 8796093022208 (by rw [hL]; exact szI_le n hs) (by rw [hL]; unfold szI; rw [List.length_map]; exact hz.k)
    omega, hs⟩
  have BB : Hid (Below w.heap.size w (w.alloc (.cells (n.arr v) 27))) := Lib.hid ((Below.refl _ _).alloc (Nat.le_refl _) _)
  obtain ⟨kind, ents, chs, keys, kids, next, data⟩ := n
  obtain ⟨ve, vc, vk, vh⟩ := v
  obtain ⟨ak, ck, he, hle, hme⟩ := hv.k.len
  simp only at he hle LL
  subst he
  unfold maxLen at hme
  unfold Nd.arr at BB ⊢
  simp only at BB ⊢
  obtain ⟨nk, hnk⟩ : ∃ k, k = keys.length := ⟨_, rfl⟩
  rw [← hnk] at BB ⊢
  rw [← hnk] at hle LL
  have HK := Lib.hid hnk
  obtain ⟨X, hX⟩ : ∃ X, X = w.alloc (.cells #[.int .i64 kind, ve, vc, .slice ak nk ck, vh, .int .i64 next, .string data] 27) := ⟨_, rfl⟩
  have XX : Hid (Below w.heap.size w X) := Lib.hid (by rw [hX]; exact BB.out)
  have cX3 : X.cell? ⟨w.heap.size, 3, none⟩ = some (.slice ak nk ck) := by rw [hX, World.cell?_alloc_new]; rfl
  have hX' := hX.symm
  clear hL hv hz hs hnk BB hX
  go_enter Try.func20, Try.ntmps20
  go_wp2_with fail
  clear hX'
  go_loopg [3, 9] nk (fun g s3 si wr => ∃ (k : Nat), k ≤ nk ∧ g = nk - k ∧ si = .int .i64 k ∧ s3 = .int .i64 ((12 + (L.take k).sum : Nat) : Int) ∧ wr = X)
  case atStart => exact ⟨0, Nat.zero_le _, rfl, rfl, rfl, rfl⟩
  case round =>
    obtain ⟨k, hk, hg, rfl, rfl, rfl⟩ := hrel
    have R : Aside (gk = nk - k) := hg
    clear hg
    by_cases hlt : k < nk
    · obtain ⟨b, off, hae, c0⟩ := (V.out.k.below XX.out).at k (by rw [← HK.out]; exact hlt)
      simp only at hae c0
      have GT := Lib.hid (LL.out.2.1 k hlt)
      have s1 : (keys.getD k ⟨#[]⟩).size ≤ 120 := LL.out.2.2.2 _ (getD_mem (by rw [← HK.out]; exact hlt))
      obtain ⟨x, hx⟩ : ∃ x, x = keys.getD k ⟨#[]⟩ := ⟨_, rfl⟩
      rw [← hx] at c0 s1 GT
      clear hx
      subst hae
      have hlt' : (k : Int) < (nk : Int) := by omega
      obtain ⟨S, hS⟩ : ∃ S, S = (L.take k).sum := ⟨_, rfl⟩
      have hS9 : S ≤ 1671257674219520 := by rw [hS]; exact LL.out.2.2.1 k
      have SN' : Hid (((12 + (L.take (k + 1)).sum : Nat) : Int) = ((12 + S : Nat) : Int) + (1 + (x.size : Int) + 4)) := Lib.hid (by rw [sum_take L k (by rw [LL.out.1]; exact hlt), GT.out, hS]; unfold szK; omega)
      rw [← hS]
      clear hS
      go_wp2_with fail
      go_roundg (nk - (k + 1))
      case measure => have := R.out; omega
      case rel => exact ⟨k + 1, by omega, rfl, by go_num, by rw [SN'.out]; first | rfl | (congr 1; omega) | go_num, rfl⟩
    · have ek : L.take k = L := List.take_of_length_le (by rw [LL.out.1]; omega)
      rw [ek]
      go_wp2_with fail
      go_ret
      exact ⟨rfl, XX.out⟩
set_option maxHeartbeats 1000000 in
theorem count_any (n : Nd) (v : Nv) (w : World) (hv : Ls w v n) (hz : Sz n) (hd : n.data.size ≤ 140737488355328) :
    Calls Try.prog 23 #[.agg (n.arr v)] w fun e w' => e = .returned (.int .i64 ((n.ents.length + n.keys.length + n.data.size : Nat) : Int)) ∧ Below w.heap.size w w' := by
  have BB : Hid (Below w.heap.size w (w.alloc (.cells (n.arr v) 27))) := Lib.hid ((Below.refl _ _).alloc (Nat.le_refl _) _)
  have h1 := hz.e
  have h2 := hz.k
  obtain ⟨kind, ents, chs, keys, kids, next, data⟩ := n
  obtain ⟨ve, vc, vk, vh⟩ := v
  obtain ⟨ae, ce, he, hle, hme⟩ := hv.e.len
  obtain ⟨ak, ck, hk, hlk, hmk⟩ := hv.k.len
  simp only at he hk hle hlk h1 h2 hd ⊢
  subst he hk
  unfold maxLen at hme hmk
  unfold Nd.arr at BB ⊢
  simp only at BB ⊢
  obtain ⟨ne, hne⟩ : ∃ k, k = ents.length := ⟨_, rfl⟩
  obtain ⟨nk, hnk⟩ : ∃ k, k = keys.length := ⟨_, rfl⟩
  rw [← hne, ← hnk] at BB ⊢
  rw [← hne] at hle h1
  rw [← hnk] at hlk h2
  clear hne hnk hv hz
  go_enter Try.func23, Try.ntmps23
  go_wp2_with fail
  go_ret
  refine ⟨?_, BB.out⟩
  first | rfl | (exact ret_int (by omega)) | (exact ret_int (by push_cast; omega))
end Go.Proofs.Ytmoghdpjemidgaa
