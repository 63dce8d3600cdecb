/-
  The document's Links and Chain.
-/
import Derived.Test.YtgiaekbdchfbkaaPgK
namespace Go.Proofs.Ytgiaekbdchfbkaa
open Go.RowKit Go.Maps
set_option maxHeartbeats 400000 in
theorem rblock_any (n : Int) (w : World) : Calls Try.prog 43 #[.int .i64 n] w fun e w' => e = .returned (.bool (blkB n)) ∧ w' = w := by
  unfold blkB
  by_cases h1 : n ≥ 1
  · have d1 : decide (n ≥ 1) = true := decide_eq_true h1
    go_enter Try.func43, Try.ntmps43
    go_wp2_with fail
    go_ret
    refine ⟨?_, rfl⟩
    rw [show decide (1 ≤ n) = true from d1, Bool.true_and]
    rfl
  · have d1 : decide (n ≥ 1) = false := decide_eq_false h1
    go_enter Try.func43, Try.ntmps43
    go_wp2_with fail
    go_ret
    refine ⟨?_, rfl⟩
    first | rfl | (rw [show decide (1 ≤ n) = false from d1, Bool.false_and]; rfl)
set_option maxHeartbeats 400000 in
theorem rLinks_any (t : ByteArray) (w : World) (hs : t.size ≤ 140737488355328) : Calls Try.prog 22 #[.string t] w fun e w' => e = .returned (.int .i64 (lnk t : Int)) ∧ w' = w := by
  unfold lnk
  by_cases h : t.size ≤ 64
  · have d : decide ((t.size : Int) ≤ 64) = true := decide_eq_true (by omega)
    rw [if_pos h]
    go_enter Try.func22, Try.ntmps22
    go_wp2_with fail
    go_ret
    exact ⟨rfl, rfl⟩
  · have d : decide ((t.size : Int) ≤ 64) = false := decide_eq_false (by omega)
    rw [if_neg h]
    go_enter Try.func22, Try.ntmps22
    go_wp2_with fail
    go_ret
    exact ⟨ret_int (by omega), rfl⟩
set_option maxHeartbeats 8000000 in
set_option maxRecDepth 100000 in
theorem rChain_any (t : ByteArray) (v : Value) (bl : List Int) (w : World) (hv : Ints w v bl) (hs : t.size ≤ 140737488355328) :
    Calls Try.prog 21 #[.string t, v] w fun e w' => ∃ vl, e = .returned (.tuple #[vl, .int .i64 (chR t bl).2]) ∧ OwnC w.heap.size w' vl (chR t bl).1 ∧ Below w.heap.size w w' := by
  have V := Lib.hid hv
  have LK := Lib.hid (fun W => rLinks_any t W hs)
  have BL := Lib.hid rblock_any
  obtain ⟨r, hr⟩ : ∃ r, r = chR t bl := ⟨_, rfl⟩
  rw [← hr]
  have RR := Lib.hid hr
  unfold chR at RR
  obtain ⟨a, cap, rfl, hlc, hcm⟩ := hv.len
  unfold maxLen at hcm
  obtain ⟨n, hn⟩ : ∃ n, n = bl.length := ⟨_, rfl⟩
  obtain ⟨K, hK⟩ : ∃ K, K = lnk t := ⟨_, rfl⟩
  rw [← hK] at LK
  rw [← hn, ← hK] at RR
  rw [← hn] at hlc ⊢
  have HN := Lib.hid hn
  have HK := Lib.hid hK
  clear hv hr hn hK
  by_cases h1 : 8192 < t.size
  · have d1 : decide ((t.size : Int) > 8192) = true := decide_eq_true (by omega)
    have d1' : decide (8192 < t.size) = true := decide_eq_true h1
    rw [if_pos h1] at RR
    clear h1
    go_enter Try.func21, Try.ntmps21
    go_wp2_with fail
    go_ret2
    exact ⟨_, by rw [RR.out]; rfl, by rw [RR.out]; exact World.ownsRow_nil _ _ _ _, Below.refl _ _⟩
  have d1 : decide ((t.size : Int) > 8192) = false := decide_eq_false (by omega)
  have d1' : decide (8192 < t.size) = false := decide_eq_false h1
  rw [if_neg h1] at RR
  by_cases h2 : n = K
  case neg =>
    have d2 : ((n : Int) != (K : Int)) = true := by rw [bne_iff_ne]; omega
    rw [if_neg (fun h => h2 h.1)] at RR
    clear h1 h2
    go_enter Try.func21, Try.ntmps21
    go_wp2_with (go_at_call 22; refine (LK.out _).mono ?_; rintro e w' ⟨rfl, rfl⟩)
    go_ret2
    exact ⟨_, by rw [RR.out]; rfl, by rw [RR.out]; exact World.ownsRow_nil _ _ _ _, Below.refl _ _⟩
  subst h2
  have d2 : ((n : Int) != (n : Int)) = false := by simp
  have n17 : n ≤ 17 := by rw [HK.out]; unfold lnk; split <;> omega
  have n50 : Hid (∀ k, k < n → 500 * k < t.size) := Lib.hid (fun k hk => by
    have := HK.out
    unfold lnk at this
    split at this <;> omega)
  have hts : t.size ≤ 8192 := by omega
  clear h1
  go_enter Try.func21, Try.ntmps21
  go_wp2_with (go_at_call 22; refine (LK.out _).mono ?_; rintro e w ⟨rfl, rfl⟩)
  clear LK
  go_loopg [6] n (fun gg si wr => ∃ (k : Nat), k ≤ n ∧ gg = n - k ∧ si = .int .i64 k ∧ ((bl.take k).all blkB = true ∧ (bl.take k).Nodup) ∧ Below w.heap.size w wr)
  case atStart => exact ⟨0, Nat.zero_le _, rfl, rfl, ⟨rfl, by simp⟩, Below.refl _ _⟩
  case round =>
    obtain ⟨k, hk, hg, rfl, ha, hb⟩ := hrel
    have R0 : Aside (gk = n - k ∧ ((bl.take k).all blkB = true ∧ (bl.take k).Nodup) ∧ Below w.heap.size w wr) := ⟨hg, ha, hb⟩
    clear hg ha hb
    by_cases hlt : k < n
    · obtain ⟨b, off, ha, p0⟩ := (V.out.below R0.out.2.2).at k (by rw [← HN.out]; exact hlt)
      subst ha
      obtain ⟨x, hx⟩ : ∃ x, x = bl.getD k 0 := ⟨_, rfl⟩
      rw [← hx] at p0
      have HX := Lib.hid hx
      have hlt' : (k : Int) < (n : Int) := by omega
      have SP := Lib.hid (splitI bl k (by rw [← HN.out]; exact hlt))
      rw [← hx] at SP
      clear hx
      cases hbk : blkB x with
      | false =>
        have UF : Hid (r = ([], 1)) := Lib.hid (by
          rw [RR.out, if_neg]
          intro h
          have h2 := h.2
          unfold unlB at h2
          rw [Bool.and_eq_true, List.all_eq_true] at h2
          have h3 := h2.1 x (by rw [SP.out]; simp)
          rw [hbk] at h3
          exact Bool.false_ne_true h3)
        go_wp2_with (go_at_call 43; refine (BL.out _ _).mono ?_; rw [hbk]; rintro e wr ⟨rfl, rfl⟩)
        go_ret2
        exact ⟨_, by rw [UF.out]; rfl, by rw [UF.out]; exact World.ownsRow_nil _ _ _ _, R0.out.2.2⟩
      | true =>
        go_wp2_with (go_at_call 43; refine (BL.out _ _).mono ?_; rw [hbk]; rintro e wr ⟨rfl, rfl⟩)
        go_loopg [7] k (fun gg si wq => ∃ (j : Nat), j ≤ k ∧ gg = k - j ∧ si = .int .i64 j ∧ x ∉ bl.take j ∧ Below w.heap.size w wq)
        case atStart => exact ⟨0, Nat.zero_le _, rfl, rfl, by simp, R0.out.2.2⟩
        case round =>
          obtain ⟨j, hj, hg, rfl, hnot, hb⟩ := hrel
          have Q : Aside (gk = k - j ∧ x ∉ bl.take j ∧ Below w.heap.size w wr) := ⟨hg, hnot, hb⟩
          clear hg hnot hb
          by_cases hjl : j < k
          · obtain ⟨b2, o2, hb2, p1⟩ := (V.out.below Q.out.2.2).at j (by rw [← HN.out]; omega)
            obtain ⟨b3, o3, hb3, p2⟩ := (V.out.below Q.out.2.2).at k (by rw [← HN.out]; exact hlt)
            simp only [Option.some.injEq, Addr.mk.injEq, and_true] at hb2 hb3
            obtain ⟨rfl, rfl⟩ := hb2
            rw [← hb3.1, ← hb3.2, ← HX.out] at p2
            clear hb3
            obtain ⟨y, hy⟩ : ∃ y, y = bl.getD j 0 := ⟨_, rfl⟩
            rw [← hy] at p1
            have HY := Lib.hid hy
            clear hy
            have hjl' : (j : Int) < (k : Int) := by omega
            have hjn : (j : Int) < (n : Int) := by omega
            have TJ := Lib.hid (take_oneI bl j 0 (by rw [← HN.out]; omega))
            rw [← HY.out] at TJ
            by_cases hyx : y = x
            · subst hyx
              have UF : Hid (r = ([], 1)) := Lib.hid (by
                rw [RR.out, if_neg]
                intro h
                have h2 := h.2
                unfold unlB at h2
                rw [Bool.and_eq_true] at h2
                have h3 := of_decide_eq_true h2.2
                rw [SP.out] at h3
                refine not_nodupI ?_ h3
                have h4 : y ∈ bl.take (j + 1) := by rw [TJ.out]; simp
                exact List.mem_of_mem_take (i := j + 1) (by rw [List.take_take, Nat.min_eq_left (by omega)]; exact h4))
              have gyx : (y == y) = true := by simp
              go_wp2_with fail
              go_quiet (fail)
              go_wp2_with fail
              go_ret2
              exact ⟨_, by rw [UF.out]; rfl, by rw [UF.out]; exact World.ownsRow_nil _ _ _ _, Q.out.2.2.trans ((below_drawn _ _).mono Q.out.2.2.size)⟩
            · have gyx : (y == x) = false := by simp [hyx]
              have HQ := Lib.hid hyx
              clear hyx
              go_wp2_with fail
              go_quiet (fail)
              go_wp2_with fail
              go_roundg (k - (j + 1))
              case measure => have := Q.out.1; omega
              case rel => exact ⟨j + 1, by omega, rfl, by go_num, by rw [TJ.out, List.mem_append, List.mem_singleton]; rintro (h | h); exact Q.out.2.1 h; exact HQ.out h.symm, Q.out.2.2.trans ((below_drawn _ _).mono Q.out.2.2.size)⟩
          · have ej : j = k := by omega
            subst ej
            go_wp2_with fail
            go_roundg (n - (j + 1))
            case measure => have := R0.out.1; omega
            case rel => exact ⟨j + 1, by omega, rfl, by go_num, by
              rw [take_oneI bl j 0 (by rw [← HN.out]; exact hlt), ← HX.out, List.all_append, R0.out.2.1.1]
              exact ⟨by simp [hbk], nodup_snocI R0.out.2.1.2 Q.out.2.1⟩, Q.out.2.2⟩
    · have ek : bl.take k = bl := List.take_of_length_le (by rw [← HN.out]; omega)
      have hU : unlB bl = true := by
        have h2 := R0.out.2.1
        rw [ek] at h2
        unfold unlB
        rw [h2.1, decide_eq_true h2.2]; rfl
      have RR2 : Hid (r = (pgs t bl, 0)) := Lib.hid (by rw [RR.out]; simp [hU])
      clear hU ek RR
      have RR := RR2
      clear RR2
      go_wp2_with fail
      clear hlt hk
      go_loopg [8, 9] n (fun gg s6 si wr => ∃ (k : Nat) (a6 : Option Addr) (c6 : Nat), k ≤ n ∧ gg = n - k ∧ si = .int .i64 k ∧ s6 = .slice a6 k c6 ∧ OwnC w.heap.size wr (.slice a6 k c6) ((pgs t bl).take k) ∧ Below w.heap.size w wr)
      case atStart => exact ⟨0, _, _, Nat.zero_le _, rfl, rfl, rfl, World.ownsRow_nil _ _ _ _, R0.out.2.2⟩
      case round =>
        obtain ⟨k, a6, c6, hk, hg, rfl, rfl, ho, hb⟩ := hrel
        have PL : Hid (((pgs t bl).take k).length = k) := Lib.hid (by rw [List.length_take, pgs_length, ← HN.out]; omega)
        have R : Aside (gk = n - k ∧ OwnC w.heap.size wr (.slice a6 k c6) ((pgs t bl).take k) ∧ Below w.heap.size w wr) := ⟨hg, ho, hb⟩
        clear hg ho hb
        by_cases hlt : k < n
        case neg =>
          have ek : (pgs t bl).take k = pgs t bl := List.take_of_length_le (by rw [pgs_length, ← HN.out]; omega)
          have O2 := Lib.hid R.out.2.1
          rw [ek] at O2
          go_wp2_with fail
          go_ret2
          exact ⟨_, by rw [RR.out]; rfl, by rw [RR.out]; exact O2.out, R.out.2.2⟩
        have hlt' : (k : Int) < (n : Int) := by omega
        have h50 : 500 * k < t.size := n50.out k hlt
        have PN := Lib.hid (pgs_next t bl k (by rw [← HN.out]; exact hlt))
        obtain ⟨M, hM⟩ : ∃ M, M = min (500 * k + 500) t.size := ⟨_, rfl⟩
        obtain ⟨d, hd⟩ : ∃ d, d = t.extract (500 * k) M := ⟨_, rfl⟩
        rw [← hM, ← hd] at PN
        have MI : Hid ((if 500 * ((k : Int) + 1) < (t.size : Int) then 500 * ((k : Int) + 1) else (t.size : Int)) = (M : Int)) := Lib.hid (by split <;> omega)
        have hM1 : 500 * k ≤ M := by omega
        have hM2 : M ≤ t.size := by omega
        have hM3 : 500 * (k : Int) ≤ (M : Int) := by omega
        have hM4 : (M : Int) ≤ (t.size : Int) := by omega
        obtain ⟨g8, hg8⟩ : ∃ g8, g8 = wr.heap.size := ⟨_, rfl⟩
        obtain ⟨Z, hZ⟩ : ∃ Z, Z = wr.alloc (.cells #[.int .i64 0, .slice none 0 0, .slice none 0 0, .slice none 0 0, .slice none 0 0, .int .i64 0, .string ⟨#[]⟩] 27) := ⟨_, rfl⟩
        obtain ⟨Z1, hZ1⟩ : ∃ Z1, Z1 = Z.setRow g8 #[.int .i64 3, .slice none 0 0, .slice none 0 0, .slice none 0 0, .slice none 0 0, .int .i64 0, .string d] := ⟨_, rfl⟩
        have GZ : Hid (Z.heap[g8]? = some (.cells #[.int .i64 0, .slice none 0 0, .slice none 0 0, .slice none 0 0, .slice none 0 0, .int .i64 0, .string ⟨#[]⟩] 27 (0, 0))) := Lib.hid (by rw [hZ, hg8]; exact heap_alloc_new _ _)
        have G1 : Z1.heap[g8]? = some (.cells #[.int .i64 3, .slice none 0 0, .slice none 0 0, .slice none 0 0, .slice none 0 0, .int .i64 0, .string d] 27 (0, 0)) := by rw [hZ1]; exact setRow_heap _ _ _ _ _ _ GZ.out
        have BZ : Below w.heap.size w Z := by rw [hZ]; exact R.out.2.2.alloc R.out.2.2.size _
        have KZ : Kept (fun y => y = g8) Z Z1 := by rw [hZ1]; exact kept_setRow _ _ _
        have B1 : Below w.heap.size w Z1 := BZ.trans (KZ.below BZ.size (fun x hx => by have := R.out.2.2.size; omega))
        have O1 : OwnC w.heap.size Z1 (.slice a6 k c6) ((pgs t bl).take k) := (R.out.2.1.kept (show Kept (fun _ => False) wr Z by rw [hZ]; exact Below.kept ((Below.refl _ _).alloc (Nat.le_refl _) _) _) (fun _ _ h => h)).kept KZ (fun g hg e => by have := (R.out.2.1.lt g hg).2; omega)
        have ON : Hid ((#[.int .i64 3, .slice none 0 0, .slice none 0 0, .slice none 0 0, .slice none 0 0, .int .i64 0, .string d] : Array Value).all (·.oneCell') = true) := Lib.hid (by simp [Value.oneCell'])
        have BI : Hid (Below w.heap.size w Z1) := Lib.hid B1
        have P9 : Hid (((pgs t bl).take k).length ≤ 1000000) := Lib.hid (by rw [PL.out]; omega)
        have HD := Lib.hid (And.intro hd hM)
        have hd' := hd.symm
        clear BZ KZ hM hd
        by_cases hmo : k + 1 < n
        · have hmo' : (k : Int) + 1 < (n : Int) := by omega
          obtain ⟨b, off, ha, c0⟩ := (V.out.below BI.out).at (k + 1) (by rw [← HN.out]; exact hmo)
          obtain ⟨nx, hnx⟩ : ∃ nx, nx = bl.getD (k + 1) 0 := ⟨_, rfl⟩
          rw [← hnx] at c0 PN
          subst ha
          clear hnx
          obtain ⟨Z3, hZ3⟩ : ∃ Z3, Z3 = Z1.setCell ⟨g8, 5, none⟩ (.int .i64 nx) := ⟨_, rfl⟩
          have G3 : Z3.heap[g8]? = some (.cells #[.int .i64 3, .slice none 0 0, .slice none 0 0, .slice none 0 0, .slice none 0 0, .int .i64 nx, .string d] 27 (0, 0)) := by rw [hZ3, heap_setCell_same _ _ _ _ _ _ G1]; rfl
          have K3 : Kept (fun y => y = g8) Z1 Z3 := by rw [hZ3]; exact kept_set (F := fun y => y = g8) _ _ _ rfl
          have S3 : Hid (OwnC w.heap.size Z3 (.slice a6 k c6) ((pgs t bl).take k) ∧ Below w.heap.size w Z3 ∧ w.heap.size ≤ Z3.heap.size) := Lib.hid (by
            have hb := B1.trans (K3.below B1.size (fun x hx => by have := R.out.2.2.size; omega))
            exact ⟨O1.kept K3 (fun g hg e => by have := (R.out.2.1.lt g hg).2; omega), hb, hb.size⟩)
          have f5 : Z1.frozen? ⟨g8, 5, none⟩ = false := frozen_of_row _ _ _ _ _ G1
          obtain ⟨q0, q1, q2, q3, q4, q5, q6⟩ := node_cells G1
          obtain ⟨p0, p1, p2, p3, p4, p5, p6⟩ := node_cells G3
          have hZ1' := hZ1.symm; have hZ3' := hZ3.symm; have hZ' := hZ.symm; have hg8' := hg8.symm
          clear hZ hZ1 hZ3 hg8 G1 G3 K3 B1 O1
          go_wp2_with (first | (refine wpList_store_row rfl 27 (.tmp 10) (.tmp 61) rfl g8 #[.int .i64 3, .slice none 0 0, .slice none 0 0, .slice none 0 0, .slice none 0 0, .int .i64 0, .string d] rfl rfl 27 #[.int .i64 0, .slice none 0 0, .slice none 0 0, .slice none 0 0, .slice none 0 0, .int .i64 0, .string ⟨#[]⟩] GZ.out size_node rfl ON.out ?_; rw [hZ1']) | (refine wp_minI (.tmp 55) (.tmp 58) #[3, 3] rfl rfl (t.size : Int) (500 * ((k : Int) + 1)) (M : Int) rfl rfl MI.out ?_) | (refine app_node rfl (.tmp 73) (.tmp 75) rfl (B := w.heap.size) (w0 := Z3) (v := .slice a6 k c6) (ps := (pgs t bl).take k) rfl S3.out.1 S3.out.2.2 nx d rfl P9.out ?_; intro v7 w7 H7))
          obtain ⟨a7, c7, h7, -, -⟩ := H7.out.1.len
          rw [List.length_append, PL.out] at h7
          have h7' : v7 = .slice a7 (k + 1) c7 := h7
          subst h7'
          clear h7
          have B7 := Lib.hid (S3.out.2.1.trans ((grown_kept H7.out.2).below S3.out.2.1.size (fun x hx => (S3.out.1.lt x hx.symm).1)))
          go_wp2_with fail
          go_roundg (n - (k + 1))
          case measure => have := R.out.1; omega
          case rel => exact ⟨k + 1, a7, c7, by omega, rfl, by go_num, rfl, by rw [PN.out]; exact H7.out.1, B7.out⟩
        · have hmo' : ¬ ((k : Int) + 1 < (n : Int)) := by omega
          have hmd : decide ((k : Int) + 1 < (n : Int)) = false := decide_eq_false hmo'
          have hnx : bl.getD (k + 1) 0 = 0 := by rw [List.getD_eq_getElem?_getD, List.getElem?_eq_none (by rw [← HN.out]; omega)]; rfl
          rw [hnx] at PN
          clear hnx hmo
          have S3 : Hid (OwnC w.heap.size Z1 (.slice a6 k c6) ((pgs t bl).take k) ∧ Below w.heap.size w Z1 ∧ w.heap.size ≤ Z1.heap.size) := Lib.hid ⟨O1, B1, B1.size⟩
          obtain ⟨q0, q1, q2, q3, q4, q5, q6⟩ := node_cells G1
          have hZ1' := hZ1.symm; have hZ' := hZ.symm; have hg8' := hg8.symm
          clear hZ hZ1 hg8 G1 B1 O1
          go_wp2_with (first | (refine wpList_store_row rfl 27 (.tmp 10) (.tmp 61) rfl g8 #[.int .i64 3, .slice none 0 0, .slice none 0 0, .slice none 0 0, .slice none 0 0, .int .i64 0, .string d] rfl rfl 27 #[.int .i64 0, .slice none 0 0, .slice none 0 0, .slice none 0 0, .slice none 0 0, .int .i64 0, .string ⟨#[]⟩] GZ.out size_node rfl ON.out ?_; rw [hZ1']) | (refine wp_minI (.tmp 55) (.tmp 58) #[3, 3] rfl rfl (t.size : Int) (500 * ((k : Int) + 1)) (M : Int) rfl rfl MI.out ?_) | (refine app_node rfl (.tmp 73) (.tmp 75) rfl (B := w.heap.size) (w0 := Z1) (v := .slice a6 k c6) (ps := (pgs t bl).take k) rfl S3.out.1 S3.out.2.2 0 d rfl P9.out ?_; intro v7 w7 H7))
          obtain ⟨a7, c7, h7, -, -⟩ := H7.out.1.len
          rw [List.length_append, PL.out] at h7
          have h7' : v7 = .slice a7 (k + 1) c7 := h7
          subst h7'
          clear h7
          have B7 := Lib.hid (S3.out.2.1.trans ((grown_kept H7.out.2).below S3.out.2.1.size (fun x hx => (S3.out.1.lt x hx.symm).1)))
          go_wp2_with fail
          go_roundg (n - (k + 1))
          case measure => have := R.out.1; omega
          case rel => exact ⟨k + 1, a7, c7, by omega, rfl, by go_num, rfl, by rw [PN.out]; exact H7.out.1, B7.out⟩
end Go.Proofs.Ytgiaekbdchfbkaa
