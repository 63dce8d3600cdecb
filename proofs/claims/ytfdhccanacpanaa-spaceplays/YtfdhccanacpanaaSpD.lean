/-
  Index, Contains, those, Taken, Held.
-/
import Derived.Test.YtfdhccanacpanaaSpA
namespace Go.Proofs.Ytfdhccanacpanaa
open Go.RowKit
variable {B : Nat} {w : World} {d sb f : Nat} {l : List UInt8}
set_option maxHeartbeats 1000000 in
theorem index_any (v : Value) (ss : List UInt8) (x : UInt8) (n8 : Int) (e8 : n8 = c8 x) (hv : Bytes w v ss) (hl : ss.length ≤ 4096) :
    Calls Try.prog 38 #[v, .int .u8 n8] w fun e w' => (∃ i : Int, e = .returned (.int .i64 i) ∧ (0 ≤ i ↔ x ∈ ss)) ∧ w' = w := by
  obtain ⟨a, cap, rfl, hlc, hcm, _, hc⟩ := hv
  unfold maxLen at hcm
  obtain ⟨N, hN⟩ : ∃ N, N = ss.length := ⟨_, rfl⟩
  rw [← hN] at hlc ⊢
  have HC : Hid (∀ k, k < N → ∃ b off, a = some ⟨b, off, none⟩ ∧ w.cell? ⟨b, off + k, none⟩ = some (.int .u8 (c8 (ss.getD k 0)))) := Lib.hid (by rw [hN]; exact hc)
  have h2 : N ≤ 4096 := by omega
  have NN := Lib.hid hN
  have E8 := Lib.hid e8
  clear hN hc hl e8
  go_enter Try.func38, Try.ntmps38
  go_wp2_with fail
  go_loopg [8] N (fun g si wr => ∃ (k : Nat), k ≤ N ∧ g = N - k ∧ si = .int .i64 k ∧ wr = w ∧ ∀ j, j < k → ss.getD j 0 ≠ x)
  case atStart => exact ⟨0, Nat.zero_le _, rfl, rfl, rfl, fun j hj => by omega⟩
  case round =>
    obtain ⟨k, hk, hg, rfl, rfl, hp⟩ := hrel
    have P := Lib.hid hp
    have G := Lib.hid hg
    clear hp hg
    by_cases hlt : k < N
    · have hlt' : (k : Int) < (N : Int) := by omega
      obtain ⟨b, off, ha, c1⟩ := HC.out k hlt
      subst ha
      obtain ⟨m8, h8⟩ : ∃ m8, m8 = c8 (ss.getD k 0) := ⟨_, rfl⟩
      rw [← h8] at c1
      by_cases hz : ss.getD k 0 = x
      · have g1 : (n8 == m8) = true := by rw [h8, hz, E8.out]; exact beq_self_eq_true _
        clear h8
        go_wp2_with fail
        go_ret
        refine ⟨⟨(k : Int), rfl, ?_⟩, rfl⟩
        refine ⟨fun _ => ?_, fun _ => by omega⟩
        rw [← hz, List.getD_eq_getElem?_getD, List.getElem?_eq_getElem (show k < ss.length by rw [← NN.out]; exact hlt), Option.getD_some]
        exact List.getElem_mem _
      · have g1 : (n8 == m8) = false := by rw [h8, E8.out, c8_beq]; exact decide_eq_false (fun e => hz e.symm)
        clear h8
        go_wp2_with fail
        go_roundg (N - (k + 1))
        case measure => have := G.out; omega
        case rel =>
          refine ⟨k + 1, by omega, rfl, by go_num, rfl, fun j hj => ?_⟩
          rcases Nat.lt_or_ge j k with q | q
          · exact P.out j q
          · obtain rfl : j = k := by omega
            exact hz
    · have hge : ¬ (k : Int) < (N : Int) := by omega
      have EK : Hid (k = ss.length) := Lib.hid (by rw [← NN.out]; omega)
      go_wp2_with fail
      go_ret
      refine ⟨⟨-1, rfl, ?_⟩, rfl⟩
      refine ⟨fun h => absurd h (by decide), fun hc => ?_⟩
      exfalso
      obtain ⟨i, hi, e⟩ := List.mem_iff_getElem.1 hc
      refine P.out i (by rw [EK.out]; exact hi) ?_
      rw [List.getD_eq_getElem?_getD, List.getElem?_eq_getElem hi, Option.getD_some]; exact e
set_option maxHeartbeats 1000000 in
theorem contains_any (v : Value) (ss : List UInt8) (x : UInt8) (n8 : Int) (e8 : n8 = c8 x) (hv : Bytes w v ss) (hl : ss.length ≤ 4096) :
    Calls Try.prog 35 #[v, .int .u8 n8] w fun e w' => e = .returned (.bool (ss.contains x)) ∧ w' = w := by
  obtain ⟨u, cp, hu, _⟩ := hv.len
  subst hu
  have HV := Lib.hid hv
  have E8 := Lib.hid e8
  obtain ⟨M, hM⟩ : ∃ M, M = ss.length := ⟨_, rfl⟩
  rw [← hM] at HV ⊢
  clear hv e8 hM
  go_enter Try.func35, Try.ntmps35
  go_wp2_with fail
  refine (index_any _ ss x n8 E8.out HV.out hl).mono ?_
  rintro _ w' ⟨⟨i, rfl, hi⟩, rfl⟩
  have I := Lib.hid hi
  clear hi
  go_wp2_with fail
  go_ret
  refine ⟨congrArg (fun b => Ending.returned (.bool b)) ?_, rfl⟩
  by_cases q : x ∈ ss
  · rw [List.contains_iff_mem.2 q]; exact decide_eq_true (I.out.2 q)
  · have e : ss.contains x = false := Bool.eq_false_iff.2 fun h => q (List.contains_iff_mem.1 h)
    rw [e]; exact decide_eq_false fun h => q (I.out.1 h)
set_option maxHeartbeats 1000000 in
theorem those_any (h : Sp B w d sb f l) (v : Value) (ss : List UInt8) (hv : Bytes w v ss) (hl : ss.length ≤ 4096) :
    Calls Try.prog 24 #[.pointer (some ⟨d, 0, none⟩), v] w fun e w' => ∃ u, e = .returned u ∧ OwnI w.heap.size w' u (those ss f l) ∧ Below w.heap.size w w' := by
  have p1 := h.c1
  have H := Lib.hid h
  obtain ⟨N, hN⟩ : ∃ N, N = l.length := ⟨_, rfl⟩
  rw [← hN] at p1
  have h1 := h.fst
  have h2 : N ≤ 4096 := by rw [hN]; exact h.len
  have NN := Lib.hid hN
  obtain ⟨u, cp, hu, _⟩ := hv.len
  subst hu
  have HV := Lib.hid hv
  obtain ⟨M, hM⟩ : ∃ M, M = ss.length := ⟨_, rfl⟩
  rw [← hM] at HV ⊢
  clear h hN hv hM
  go_enter Try.func24, Try.ntmps24
  go_wp2_with fail
  clear p1
  go_loopg [5, 12] N (fun g sv si wr => ∃ (k : Nat), k ≤ N ∧ g = N - k ∧ si = .int .i64 k ∧ OwnI w.heap.size wr sv (those ss f (l.take k)) ∧ Below w.heap.size w wr)
  case atStart => exact ⟨0, Nat.zero_le _, rfl, rfl, OwnI.nil _ _, Below.refl _ _⟩
  case round =>
    obtain ⟨k, hk, hg, rfl, ho, hb⟩ := hrel
    have O := Lib.hid ho
    have Bl := Lib.hid hb
    have G := Lib.hid hg
    have S := Lib.hid (H.out.below hb)
    have p0 := S.out.c0
    have p1 := S.out.c1
    have hV := Lib.hid (HV.out.below hb)
    rw [← NN.out] at p1
    obtain ⟨a5, c5, e5, _⟩ := ho.len
    subst e5
    clear ho hg hb
    by_cases hlt : k < N
    · have hlt' : (k : Int) < (N : Int) := by omega
      obtain ⟨x, hx⟩ : ∃ x, l[k]? = some x := ⟨_, List.getElem?_eq_getElem (by rw [← NN.out]; exact hlt)⟩
      have c1 := S.out.at k x hx
      have X := Lib.hid hx
      obtain ⟨n8, h8⟩ : ∃ n8, n8 = c8 x := ⟨_, rfl⟩
      rw [← h8] at c1
      have E8 := Lib.hid h8
      clear hx h8
      go_wp2_with fail
      refine (contains_any _ ss x n8 E8.out hV.out hl).mono ?_
      rintro _ w' ⟨rfl, rfl⟩
      have T : Hid (those ss f (l.take (k + 1)) = those ss f (l.take k) ++ if ss.contains x then [((f + k : Nat) : Int)] else []) := Lib.hid (by
        rw [List.take_add_one, X.out, Option.toList_some, those_snoc, List.length_take, Nat.min_eq_left (by rw [← NN.out]; omega)])
      cases hz : ss.contains x
      · rw [hz] at T
        go_wp2_with fail
        go_roundg (N - (k + 1))
        case measure => have := G.out; omega
        case rel => exact ⟨k + 1, by omega, rfl, by go_num, by rw [T.out]; simpa using O.out, Bl.out⟩
      · rw [hz] at T
        have L : Hid ((those ss f (l.take k)).length ≤ 4096) := Lib.hid (by have := those_length ss f (l.take k); rw [List.length_take] at this; omega)
        have es : ((f + k : Nat) : Int) = (f : Int) + (k : Int) := by omega
        rw [es] at T
        clear es
        go_wp2_with (refine app_new rfl (.tmp 24) (.tmp 31) rfl (m := [(f : Int) + (k : Int)]) rfl rfl O.out Bl.out.size rfl rfl (by have := L.out; simp; omega) ?_)
        intro v' W' o1 o2 o3
        have A : Hid (OwnI w.heap.size W' v' (those ss f (l.take (k + 1))) ∧ Below w.heap.size w W') := Lib.hid ⟨by rw [T.out]; exact o1, Bl.out.trans ((Below.refl _ _).grown o2 Bl.out.size fun k hk => (O.out.lt k hk).1)⟩
        clear o1 o2 o3
        go_wp2_with fail
        go_roundg (N - (k + 1))
        case measure => have := G.out; omega
        case rel => exact ⟨k + 1, by omega, rfl, by go_num, A.out⟩
    · have hge : ¬ (k : Int) < (N : Int) := by omega
      have EK : Hid (k = l.length) := Lib.hid (by rw [← NN.out]; omega)
      go_wp2_with fail
      go_ret
      have := O.out
      rw [EK.out, List.take_length] at this
      exact ⟨_, rfl, by rw [EK.out, List.take_length]; exact this, Bl.out⟩
theorem new_bytes (w : World) (t : TypeId) (ss : List UInt8) (hl : ss.length ≤ 4096) : Bytes (w.alloc (.cells (cells8 ss).toArray t)) (.slice (some ⟨w.heap.size, 0, none⟩) ss.length ss.length) ss := by
  refine ⟨_, _, rfl, Nat.le_refl _, by unfold maxLen; omega, fun h => by simp at h, fun k hk => ⟨w.heap.size, 0, rfl, ?_⟩⟩
  rw [Nat.zero_add, World.cell?_alloc_new]
  simp [cells8, hk]
set_option maxHeartbeats 1000000 in
theorem taken_any (h : Sp B w d sb f l) : Calls Try.prog 10 #[.pointer (some ⟨d, 0, none⟩)] w fun e w' => ∃ u, e = .returned u ∧ OwnI w.heap.size w' u (those [1, 2] f l) ∧ Below w.heap.size w w' := by
  have H := Lib.hid h
  clear h
  go_enter Try.func10, Try.ntmps10
  go_wp2_with fail
  have b1 : Below w.heap.size w (w.alloc (.cells #[.int .u8 1, .int .u8 2] 54)) := (Below.refl _ _).alloc (Nat.le_refl _) _
  refine (those_any (H.out.below b1) _ [1, 2] (new_bytes w _ [1, 2] (by decide)) (by decide)).mono ?_
  rintro _ w' ⟨u, rfl, h1, h2⟩
  have R : Hid (OwnI w.heap.size w' u (those [1, 2] f l) ∧ Below w.heap.size w w') := Lib.hid ⟨h1.mono (by simp), b1.trans (h2.mono (by simp))⟩
  clear h1 h2 b1
  go_wp2_with fail
  go_ret
  exact ⟨_, rfl, R.out⟩
set_option maxHeartbeats 1000000 in
theorem held_any (h : Sp B w d sb f l) : Calls Try.prog 14 #[.pointer (some ⟨d, 0, none⟩)] w fun e w' => ∃ u, e = .returned u ∧ OwnI w.heap.size w' u (those [3] f l) ∧ Below w.heap.size w w' := by
  have H := Lib.hid h
  clear h
  go_enter Try.func14, Try.ntmps14
  go_wp2_with fail
  have b1 : Below w.heap.size w (w.alloc (.cells #[.int .u8 3] 54)) := (Below.refl _ _).alloc (Nat.le_refl _) _
  refine (those_any (H.out.below b1) _ [3] (new_bytes w _ [3] (by decide)) (by decide)).mono ?_
  rintro _ w' ⟨u, rfl, h1, h2⟩
  have R : Hid (OwnI w.heap.size w' u (those [3] f l) ∧ Below w.heap.size w w') := Lib.hid ⟨h1.mono (by simp), b1.trans (h2.mono (by simp))⟩
  clear h1 h2 b1
  go_wp2_with fail
  go_ret
  exact ⟨_, rfl, R.out⟩
end Go.Proofs.Ytfdhccanacpanaa
