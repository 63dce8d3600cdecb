/-
  isInner, isChain.
-/
import Derived.Test.YtmoghdpjemidgaaPgN
namespace Go.Proofs.Ytmoghdpjemidgaa
open Go.RowKit Go.Maps
def innG : ByteArray → List ByteArray → Bool
  | _, [] => true
  | l, k :: ks => folB l k && innG k ks
def innB (n : Nd) : Bool := decide (n.kind = 2) && (decide (n.keys.length ≠ 0) && (decide (n.kids.length = n.keys.length + 1) && (decide (n.ents.length = 0) && (decide (n.chs.length = 0) && (decide (n.next = 0) && (decide (n.data.size = 0) && (innG ⟨#[]⟩ n.keys && unlB n.kids)))))))
def chB (n : Nd) : Bool := decide (n.kind = 3) && (decide (n.data.size ≠ 0) && (decide (n.data.size ≤ 500) && (decide (n.ents.length = 0) && (decide (n.chs.length = 0) && (decide (n.keys.length = 0) && (decide (n.kids.length = 0) && (decide (n.next = 0) || blkB n.next)))))))
theorem innG_at (l : ByteArray) (ks : List ByteArray) (k : Nat) (h1 : k < ks.length) : innG l (ks.drop k) = (folB l (ks.getD k ⟨#[]⟩) && innG (ks.getD k ⟨#[]⟩) (ks.drop (k + 1))) := by
  have e1 : ks.drop k = ks.getD k ⟨#[]⟩ :: ks.drop (k + 1) := by rw [List.getD_eq_getElem?_getD, List.getElem?_eq_getElem h1]; simp
  rw [e1, innG]
set_option maxHeartbeats 8000000 in
set_option maxRecDepth 100000 in
theorem isInner_any (n : Nd) (v : Nv) (w : World) (hv : Ls w v n) (hz : Sz n) :
    Calls Try.prog 19 #[.agg (n.arr v)] w fun e w' => e = .returned (.bool (innB n)) ∧ Below w.heap.size w w' := by
  have V := Lib.hid hv
  have Z := Lib.hid hz
  obtain ⟨r, hr⟩ : ∃ r, r = innB n := ⟨_, rfl⟩
  rw [← hr]
  have RR := Lib.hid hr
  have BB : Hid (Below w.heap.size w (w.alloc (.cells (n.arr v) 27))) := Lib.hid ((Below.refl _ _).alloc (Nat.le_refl _) _)
  obtain ⟨kind, ents, chs, keys, kids, next, data⟩ := n
  obtain ⟨ve, vc, vk, vh⟩ := v
  unfold innB at RR
  simp only at RR
  obtain ⟨ae, ce, he, hle, hme⟩ := hv.e.len
  obtain ⟨ac, cc, hc, hlc, hmc⟩ := hv.c.len
  obtain ⟨ak, ck, hk, hlk, hmk⟩ := hv.k.len
  obtain ⟨ah, ch, hh, hlh, hmh⟩ := hv.h.len
  simp only at he hc hk hh hle hlc hlk hlh
  subst he hc hk hh
  unfold maxLen at hme hmc hmk hmh
  unfold Nd.arr at BB ⊢
  simp only at BB ⊢
  obtain ⟨ne, hne⟩ : ∃ k, k = ents.length := ⟨_, rfl⟩
  obtain ⟨nc, hnc⟩ : ∃ k, k = chs.length := ⟨_, rfl⟩
  obtain ⟨nk, hnk⟩ : ∃ k, k = keys.length := ⟨_, rfl⟩
  obtain ⟨nh, hnh⟩ : ∃ k, k = kids.length := ⟨_, rfl⟩
  rw [← hne, ← hnc, ← hnk, ← hnh] at RR
  rw [← hne, ← hnc, ← hnk, ← hnh] at BB ⊢
  rw [← hne] at hle; rw [← hnc] at hlc; rw [← hnk] at hlk; rw [← hnh] at hlh
  have HE := Lib.hid hne; have HC := Lib.hid hnc; have HK := Lib.hid hnk; have HH := Lib.hid hnh
  clear hr hv hz hne hnc hnk hnh
  have hk9 : nk ≤ 8796093022208 := by rw [HK.out]; exact Z.out.k
  by_cases qk : kind = 2
  case neg =>
    have gk0 : (kind != 2) = true := by simp [qk]
    obtain rfl : r = false := by rw [RR.out, show decide (kind = 2) = false from decide_eq_false qk]; simp
    clear RR qk
    go_enter Try.func19, Try.ntmps19
    go_wp2_with fail
    go_ret
    exact ⟨rfl, BB.out⟩
  have gk0 : (kind != 2) = false := by simp [qk]
  by_cases qy : nk ≠ 0
  case neg =>
    have gy0 : ((nk : Int) == 0) = true := by rw [beq_iff_eq]; omega
    obtain rfl : r = false := by rw [RR.out, show decide (kind = 2) = true from decide_eq_true qk, show decide (nk ≠ 0) = false from decide_eq_false qy]; simp
    clear RR qk qy
    go_enter Try.func19, Try.ntmps19
    go_wp2_with fail
    go_ret
    exact ⟨rfl, BB.out⟩
  have gy0 : ((nk : Int) == 0) = false := by rw [beq_eq_false_iff_ne]; omega
  by_cases qh : nh = nk + 1
  case neg =>
    have gh0 : ((nh : Int) != (nk : Int) + 1) = true := by rw [bne_iff_ne]; omega
    obtain rfl : r = false := by rw [RR.out, show decide (kind = 2) = true from decide_eq_true qk, show decide (nk ≠ 0) = true from decide_eq_true qy, show decide (nh = nk + 1) = false from decide_eq_false qh]; simp
    clear RR qk qy qh
    go_enter Try.func19, Try.ntmps19
    go_wp2_with fail
    go_ret
    exact ⟨rfl, BB.out⟩
  have gh0 : ((nh : Int) != (nk : Int) + 1) = false := by rw [bne_eq_false_iff_eq]; omega
  by_cases qe : ne = 0
  case neg =>
    have ge0 : decide ((ne : Int) > 0) = true := decide_eq_true (by omega)
    have ge1 : decide (0 < ne) = true := decide_eq_true (by omega)
    obtain rfl : r = false := by rw [RR.out, show decide (kind = 2) = true from decide_eq_true qk, show decide (nk ≠ 0) = true from decide_eq_true qy, show decide (nh = nk + 1) = true from decide_eq_true qh, show decide (ne = 0) = false from decide_eq_false qe]; simp
    clear RR qk qy qh qe
    go_enter Try.func19, Try.ntmps19
    go_wp2_with fail
    go_ret
    exact ⟨rfl, BB.out⟩
  have ge0 : decide ((ne : Int) > 0) = false := decide_eq_false (by omega)
  have ge1 : decide (0 < ne) = false := decide_eq_false (by omega)
  by_cases qc : nc = 0
  case neg =>
    have gc0 : decide ((nc : Int) > 0) = true := decide_eq_true (by omega)
    have gc1 : decide (0 < nc) = true := decide_eq_true (by omega)
    obtain rfl : r = false := by rw [RR.out, show decide (kind = 2) = true from decide_eq_true qk, show decide (nk ≠ 0) = true from decide_eq_true qy, show decide (nh = nk + 1) = true from decide_eq_true qh, show decide (ne = 0) = true from decide_eq_true qe, show decide (nc = 0) = false from decide_eq_false qc]; simp
    clear RR qk qy qh qe qc
    go_enter Try.func19, Try.ntmps19
    go_wp2_with fail
    go_ret
    exact ⟨rfl, BB.out⟩
  have gc0 : decide ((nc : Int) > 0) = false := decide_eq_false (by omega)
  have gc1 : decide (0 < nc) = false := decide_eq_false (by omega)
  by_cases qn : next = 0
  case neg =>
    have gn0 : (next != 0) = true := by simp [qn]
    obtain rfl : r = false := by rw [RR.out, show decide (kind = 2) = true from decide_eq_true qk, show decide (nk ≠ 0) = true from decide_eq_true qy, show decide (nh = nk + 1) = true from decide_eq_true qh, show decide (ne = 0) = true from decide_eq_true qe, show decide (nc = 0) = true from decide_eq_true qc, show decide (next = 0) = false from decide_eq_false qn]; simp
    clear RR qk qy qh qe qc qn
    go_enter Try.func19, Try.ntmps19
    go_wp2_with fail
    go_ret
    exact ⟨rfl, BB.out⟩
  have gn0 : (next != 0) = false := by simp [qn]
  by_cases qd : data.size = 0
  case neg =>
    have gd0 : data.toList.isEmpty = false := by rw [isEmpty_of]; exact decide_eq_false qd
    obtain rfl : r = false := by rw [RR.out, show decide (kind = 2) = true from decide_eq_true qk, show decide (nk ≠ 0) = true from decide_eq_true qy, show decide (nh = nk + 1) = true from decide_eq_true qh, show decide (ne = 0) = true from decide_eq_true qe, show decide (nc = 0) = true from decide_eq_true qc, show decide (next = 0) = true from decide_eq_true qn, show decide (data.size = 0) = false from decide_eq_false qd]; simp
    clear RR qk qy qh qe qc qn qd
    go_enter Try.func19, Try.ntmps19
    go_wp2_with fail
    go_ret
    exact ⟨rfl, BB.out⟩
  have gd0 : data.toList.isEmpty = true := by rw [isEmpty_of]; exact decide_eq_true qd
  have RL : Hid (r = (innG ⟨#[]⟩ keys && unlB kids)) := Lib.hid (by rw [RR.out, show decide (kind = 2) = true from decide_eq_true qk, show decide (nk ≠ 0) = true from decide_eq_true qy, show decide (nh = nk + 1) = true from decide_eq_true qh, show decide (ne = 0) = true from decide_eq_true qe, show decide (nc = 0) = true from decide_eq_true qc, show decide (next = 0) = true from decide_eq_true qn, show decide (data.size = 0) = true from decide_eq_true qd]; simp)
  clear RR
  clear qk qe qc qy qh qn qd
  obtain ⟨gx, hgx⟩ : ∃ gx, gx = w.heap.size := ⟨_, rfl⟩
  obtain ⟨X, hX⟩ : ∃ X, X = w.alloc (.cells #[.int .i64 kind, .slice ae ne ce, .slice ac nc cc, .slice ak nk ck, .slice ah nh ch, .int .i64 next, .string data] 27) := ⟨_, rfl⟩
  have XG : Hid (X.heap[gx]? = some (.cells #[.int .i64 kind, .slice ae ne ce, .slice ac nc cc, .slice ak nk ck, .slice ah nh ch, .int .i64 next, .string data] 27 (0, 0))) := Lib.hid (by rw [hX, hgx]; exact heap_alloc_new _ _)
  have cX : ∀ k, X.cell? ⟨gx, k, none⟩ = (#[.int .i64 kind, .slice ae ne ce, .slice ac nc cc, .slice ak nk ck, .slice ah nh ch, .int .i64 next, .string data] : Array Value)[k]? := fun k => cell_of_row X gx k _ _ _ XG.out
  have cX0 := cX 0; have cX1 := cX 1; have cX2 := cX 2; have cX3 := cX 3; have cX4 := cX 4; have cX5 := cX 5; have cX6 := cX 6
  simp only [List.getElem?_toArray, List.getElem?_cons_zero, List.getElem?_cons_succ] at cX0 cX1 cX2 cX3 cX4 cX5 cX6
  have XX : Hid (Below w.heap.size w X ∧ w.heap.size ≤ gx ∧ gx < X.heap.size) := Lib.hid ⟨by rw [hX]; exact BB.out, by omega, by rw [hX, hgx]; simp⟩
  have hX' := hX.symm
  have hgx' := hgx.symm
  have C4 := Lib.hid cX4
  clear BB hX hgx cX
  go_enter Try.func19, Try.ntmps19
  go_wp2_with fail
  clear cX0 cX1 cX2 cX3 cX4 cX5 cX6 hX' hgx'
  go_loopg [3, 48] nk (fun g s3 si wr => ∃ (k : Nat) (l : ByteArray), k ≤ nk ∧ g = nk - k ∧ si = .int .i64 k ∧ s3 = .string l ∧ r = (innG l (keys.drop k) && unlB kids) ∧ wr = X)
  case atStart => exact ⟨0, _, Nat.zero_le _, rfl, rfl, rfl, RL.out, rfl⟩
  case round =>
    obtain ⟨k, l, hk, hg, rfl, rfl, hl, rfl⟩ := hrel
    have R : Aside (gk = nk - k ∧ r = (innG l (keys.drop k) && unlB kids)) := ⟨hg, hl⟩
    clear hg hl
    by_cases hlt : k < nk
    · obtain ⟨b, off, hae, c0⟩ := (V.out.k.below XX.out.1).at k (by rw [← HK.out]; exact hlt)
      simp only at hae c0
      have GT := Lib.hid (innG_at l keys k (by rw [← HK.out]; exact hlt))
      obtain ⟨x, hx⟩ : ∃ x, x = keys.getD k ⟨#[]⟩ := ⟨_, rfl⟩
      rw [← hx] at c0 GT
      clear hx
      subst hae
      have hlt' : (k : Int) < (nk : Int) := by omega
      cases hf : folB l x with
      | false =>
        have hA : Hid (r = false) := Lib.hid (by rw [R.out.2, GT.out, hf]; rfl)
        have F1 := Lib.hid (fun w => (hf ▸ follows_any l x w : Calls Try.prog 28 #[.string l, .string x] w fun e w' => e = .returned (.bool false) ∧ w' = w))
        go_wp2_with (go_at_call 28; refine (F1.out _).mono ?_; rintro e w' ⟨rfl, rfl⟩)
        go_ret
        exact ⟨by rw [hA.out]; rfl, XX.out.1⟩
      | true =>
        have hA : Hid (r = (innG x (keys.drop (k + 1)) && unlB kids)) := Lib.hid (by rw [R.out.2, GT.out, hf]; rfl)
        have F1 := Lib.hid (fun w => (hf ▸ follows_any l x w : Calls Try.prog 28 #[.string l, .string x] w fun e w' => e = .returned (.bool true) ∧ w' = w))
        go_wp2_with (go_at_call 28; refine (F1.out _).mono ?_; rintro e w' ⟨rfl, rfl⟩)
        go_roundg (nk - (k + 1))
        case measure => have := R.out.1; omega
        case rel => exact ⟨k + 1, x, by omega, rfl, by go_num, rfl, hA.out, rfl⟩
    · have hA : Hid (r = unlB kids) := Lib.hid (by rw [R.out.2, List.drop_eq_nil_of_le (by rw [← HK.out]; omega)]; rfl)
      have UU : Hid (Calls Try.prog 30 #[.slice ah nh ch] wr fun e w' => e = .returned (.bool (unlB kids)) ∧ Below wr.heap.size wr w') := Lib.hid (unlike_any _ kids wr (by have q := V.out.h.below XX.out.1; simp only at q; rw [HH.out]; exact q) Z.out.h6)
      have c4 := C4.out
      rw [← hA.out] at UU
      go_wp2_with (go_at_call 30; refine UU.out.mono ?_; rintro e w' ⟨rfl, hb⟩; have HB := Lib.hid hb; clear hb)
      go_ret
      exact ⟨rfl, XX.out.1.trans (HB.out.mono XX.out.1.size)⟩
set_option maxHeartbeats 8000000 in
set_option maxRecDepth 100000 in
theorem isChain_any (n : Nd) (v : Nv) (w : World) (hv : Ls w v n) (hz : Sz n) :
    Calls Try.prog 21 #[.agg (n.arr v)] w fun e w' => e = .returned (.bool (chB n)) ∧ Below w.heap.size w w' := by
  have V := Lib.hid hv
  have Z := Lib.hid hz
  have IB := Lib.hid isBlock_any
  obtain ⟨r, hr⟩ : ∃ r, r = chB n := ⟨_, rfl⟩
  rw [← hr]
  have RR := Lib.hid hr
  have BB : Hid (Below w.heap.size w (w.alloc (.cells (n.arr v) 27))) := Lib.hid ((Below.refl _ _).alloc (Nat.le_refl _) _)
  obtain ⟨kind, ents, chs, keys, kids, next, data⟩ := n
  obtain ⟨ve, vc, vk, vh⟩ := v
  unfold chB at RR
  simp only at RR
  obtain ⟨ae, ce, he, hle, hme⟩ := hv.e.len
  obtain ⟨ac, cc, hc, hlc, hmc⟩ := hv.c.len
  obtain ⟨ak, ck, hk, hlk, hmk⟩ := hv.k.len
  obtain ⟨ah, ch, hh, hlh, hmh⟩ := hv.h.len
  simp only at he hc hk hh hle hlc hlk hlh
  subst he hc hk hh
  unfold maxLen at hme hmc hmk hmh
  unfold Nd.arr at BB ⊢
  simp only at BB ⊢
  obtain ⟨ne, hne⟩ : ∃ k, k = ents.length := ⟨_, rfl⟩
  obtain ⟨nc, hnc⟩ : ∃ k, k = chs.length := ⟨_, rfl⟩
  obtain ⟨nk, hnk⟩ : ∃ k, k = keys.length := ⟨_, rfl⟩
  obtain ⟨nh, hnh⟩ : ∃ k, k = kids.length := ⟨_, rfl⟩
  rw [← hne, ← hnc, ← hnk, ← hnh] at RR
  rw [← hne, ← hnc, ← hnk, ← hnh] at BB ⊢
  rw [← hne] at hle; rw [← hnc] at hlc; rw [← hnk] at hlk; rw [← hnh] at hlh
  have HE := Lib.hid hne; have HC := Lib.hid hnc; have HK := Lib.hid hnk; have HH := Lib.hid hnh
  clear hr hv hz hne hnc hnk hnh
  by_cases qk : kind = 3
  case neg =>
    have gk0 : (kind != 3) = true := by simp [qk]
    obtain rfl : r = false := by rw [RR.out, show decide (kind = 3) = false from decide_eq_false qk]; simp
    clear RR qk
    go_enter Try.func21, Try.ntmps21
    go_wp2_with fail
    go_ret
    exact ⟨rfl, BB.out⟩
  have gk0 : (kind != 3) = false := by simp [qk]
  by_cases qd : data.size ≠ 0
  case neg =>
    have gd0 : data.toList.isEmpty = true := by rw [isEmpty_of]; exact decide_eq_true (by omega)
    obtain rfl : r = false := by rw [RR.out, show decide (kind = 3) = true from decide_eq_true qk, show decide (data.size ≠ 0) = false from decide_eq_false qd]; simp
    clear RR qk qd
    go_enter Try.func21, Try.ntmps21
    go_wp2_with fail
    go_ret
    exact ⟨rfl, BB.out⟩
  have gd0 : data.toList.isEmpty = false := by rw [isEmpty_of]; exact decide_eq_false qd
  by_cases qs : data.size ≤ 500
  case neg =>
    have gs0 : decide ((data.size : Int) > 500) = true := decide_eq_true (by omega)
    have gs1 : decide (500 < data.size) = true := decide_eq_true (by omega)
    obtain rfl : r = false := by rw [RR.out, show decide (kind = 3) = true from decide_eq_true qk, show decide (data.size ≠ 0) = true from decide_eq_true qd, show decide (data.size ≤ 500) = false from decide_eq_false qs]; simp
    clear RR qk qd qs
    go_enter Try.func21, Try.ntmps21
    go_wp2_with fail
    go_ret
    exact ⟨rfl, BB.out⟩
  have gs0 : decide ((data.size : Int) > 500) = false := decide_eq_false (by omega)
  have gs1 : decide (500 < data.size) = false := decide_eq_false (by omega)
  by_cases qe : ne = 0
  case neg =>
    have ge0 : decide ((ne : Int) > 0) = true := decide_eq_true (by omega)
    have ge1 : decide (0 < ne) = true := decide_eq_true (by omega)
    obtain rfl : r = false := by rw [RR.out, show decide (kind = 3) = true from decide_eq_true qk, show decide (data.size ≠ 0) = true from decide_eq_true qd, show decide (data.size ≤ 500) = true from decide_eq_true qs, show decide (ne = 0) = false from decide_eq_false qe]; simp
    clear RR qk qd qs qe
    go_enter Try.func21, Try.ntmps21
    go_wp2_with fail
    go_ret
    exact ⟨rfl, BB.out⟩
  have ge0 : decide ((ne : Int) > 0) = false := decide_eq_false (by omega)
  have ge1 : decide (0 < ne) = false := decide_eq_false (by omega)
  by_cases qc : nc = 0
  case neg =>
    have gc0 : decide ((nc : Int) > 0) = true := decide_eq_true (by omega)
    have gc1 : decide (0 < nc) = true := decide_eq_true (by omega)
    obtain rfl : r = false := by rw [RR.out, show decide (kind = 3) = true from decide_eq_true qk, show decide (data.size ≠ 0) = true from decide_eq_true qd, show decide (data.size ≤ 500) = true from decide_eq_true qs, show decide (ne = 0) = true from decide_eq_true qe, show decide (nc = 0) = false from decide_eq_false qc]; simp
    clear RR qk qd qs qe qc
    go_enter Try.func21, Try.ntmps21
    go_wp2_with fail
    go_ret
    exact ⟨rfl, BB.out⟩
  have gc0 : decide ((nc : Int) > 0) = false := decide_eq_false (by omega)
  have gc1 : decide (0 < nc) = false := decide_eq_false (by omega)
  by_cases qy : nk = 0
  case neg =>
    have gy0 : decide ((nk : Int) > 0) = true := decide_eq_true (by omega)
    have gy1 : decide (0 < nk) = true := decide_eq_true (by omega)
    obtain rfl : r = false := by rw [RR.out, show decide (kind = 3) = true from decide_eq_true qk, show decide (data.size ≠ 0) = true from decide_eq_true qd, show decide (data.size ≤ 500) = true from decide_eq_true qs, show decide (ne = 0) = true from decide_eq_true qe, show decide (nc = 0) = true from decide_eq_true qc, show decide (nk = 0) = false from decide_eq_false qy]; simp
    clear RR qk qd qs qe qc qy
    go_enter Try.func21, Try.ntmps21
    go_wp2_with fail
    go_ret
    exact ⟨rfl, BB.out⟩
  have gy0 : decide ((nk : Int) > 0) = false := decide_eq_false (by omega)
  have gy1 : decide (0 < nk) = false := decide_eq_false (by omega)
  by_cases qh : nh = 0
  case neg =>
    have gh0 : decide ((nh : Int) > 0) = true := decide_eq_true (by omega)
    have gh1 : decide (0 < nh) = true := decide_eq_true (by omega)
    obtain rfl : r = false := by rw [RR.out, show decide (kind = 3) = true from decide_eq_true qk, show decide (data.size ≠ 0) = true from decide_eq_true qd, show decide (data.size ≤ 500) = true from decide_eq_true qs, show decide (ne = 0) = true from decide_eq_true qe, show decide (nc = 0) = true from decide_eq_true qc, show decide (nk = 0) = true from decide_eq_true qy, show decide (nh = 0) = false from decide_eq_false qh]; simp
    clear RR qk qd qs qe qc qy qh
    go_enter Try.func21, Try.ntmps21
    go_wp2_with fail
    go_ret
    exact ⟨rfl, BB.out⟩
  have gh0 : decide ((nh : Int) > 0) = false := decide_eq_false (by omega)
  have gh1 : decide (0 < nh) = false := decide_eq_false (by omega)
  have RL : Hid (r = (decide (next = 0) || blkB next)) := Lib.hid (by rw [RR.out, show decide (kind = 3) = true from decide_eq_true qk, show decide (data.size ≠ 0) = true from decide_eq_true qd, show decide (data.size ≤ 500) = true from decide_eq_true qs, show decide (ne = 0) = true from decide_eq_true qe, show decide (nc = 0) = true from decide_eq_true qc, show decide (nk = 0) = true from decide_eq_true qy, show decide (nh = 0) = true from decide_eq_true qh]; simp)
  clear RR
  clear qk qd qs qe qc qy qh
  by_cases h0 : next = 0
  · subst h0
    obtain rfl : r = true := by rw [RL.out]; rfl
    clear RL
    go_enter Try.func21, Try.ntmps21
    go_wp2_with fail
    go_ret
    exact ⟨rfl, BB.out⟩
  · have g0 : (next == 0) = false := by simp [h0]
    obtain rfl : r = blkB next := by rw [RL.out, decide_eq_false h0, Bool.false_or]
    clear RL h0
    go_enter Try.func21, Try.ntmps21
    go_wp2_with (go_at_call 31; refine (IB.out _ _).mono ?_; rintro e w' ⟨rfl, rfl⟩)
    go_ret
    exact ⟨rfl, BB.out⟩
end Go.Proofs.Ytmoghdpjemidgaa
