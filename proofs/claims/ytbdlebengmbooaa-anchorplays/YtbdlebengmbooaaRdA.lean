/-
  Raw, Read.
-/
import Derived.Test.YtbdlebengmbooaaCpy
namespace Go.Proofs.Ytbdlebengmbooaa
open Go.RowKit Go.Maps
theorem size_content : (Try.prog.info? 80).map (·.size) = some 512 := by kernel_rfl
theorem raw_range {B : Nat} {w : World} {d mb mp : Nat} {cv : Value} {s : DS} (h : Dv B w d mb mp cv s) (i : Nat) (hi : i < s.n) : w.rangeAt mb (i * 512) (cells8 (raw s.med i)) := by
  have hl := h.fit.len
  have hr := raw_length s.med i (by omega)
  intro j v hv
  have hj : j < 512 := by
    have := (List.getElem?_eq_some_iff.1 hv).1
    rw [cells8_length, hr] at this
    exact this
  rw [cell_of_row w mb _ _ _ _ h.med, List.getElem?_toArray, ← hv]
  unfold cells8
  rw [List.getElem?_map, List.getElem?_map, raw_at _ _ _ hj, Nat.mul_comm 512 i]
theorem hasB_nat {s : DS} {i : Int} (h : hasB s i = true) : ∃ k : Nat, i = (k : Int) ∧ k < s.n := by
  unfold hasB at h
  rw [Bool.and_eq_true, decide_eq_true_iff, decide_eq_true_iff] at h
  exact ⟨i.toNat, by omega, by omega⟩
theorem cellsW_at : ∀ (l : List Wt) (n i j : Nat) (x : Wt), OkC n l → l[i]? = some x → j < 513 → (cellsW l)[i * 513 + j]? = (Value.int .i64 (x.1 : Int) :: cells8 x.2)[j]?
  | [], _, i, _, _, _, h, _ => by simp at h
  | y :: l, n, 0, j, x, ho, h, hj => by
    simp only [List.getElem?_cons_zero, Option.some.injEq] at h
    subst h
    have hy := (ho y (by simp)).2
    unfold cellsW
    rw [List.flatMap_cons, Nat.zero_mul, Nat.zero_add, List.getElem?_append_left (by simp [cells8_length, hy]; omega)]
  | y :: l, n, i + 1, j, x, ho, h, hj => by
    rw [List.getElem?_cons_succ] at h
    have hy := (ho y (by simp)).2
    have := cellsW_at l n i j x (fun z hz => ho z (by simp [hz])) h hj
    unfold cellsW at this ⊢
    have hs : (Value.int IntKind.i64 (y.1 : Int) :: cells8 y.2).length = 513 := by simp [cells8_length, hy]
    rw [List.flatMap_cons, List.getElem?_append_right (by rw [hs, Nat.add_mul]; omega), hs, ← this]
    have e : (i + 1) * 513 + j - 513 = i * 513 + j := by omega
    rw [e]
theorem cache_at {B : Nat} {w : World} {d mb mp : Nat} {cv : Value} {s : DS} (h : Dv B w d mb mp cv s) (i : Nat) (x : Wt) (hx : s.cache[i]? = some x) :
    ∃ g cap, cv = .slice (some ⟨g, 0, none⟩) s.cache.length cap ∧ s.cache.length ≤ cap ∧ cap ≤ maxLen ∧ g < w.heap.size ∧ w.cell? ⟨g, i * 513, none⟩ = some (.int .i64 (x.1 : Int)) ∧ w.rangeAt g (i * 513 + 1) (cells8 x.2) ∧ w.rangeAt g (i * 513) (.int .i64 (x.1 : Int) :: cells8 x.2) := by
  have hi : i < s.cache.length := (List.getElem?_eq_some_iff.1 hx).1
  have hxl := (h.fit.ok x (List.mem_of_getElem? hx)).2
  obtain ⟨_, ⟨hv, hn⟩ | ⟨g, cap, cur, hv, hb, hg, hn, hm, hs, ht⟩⟩ := h.cache
  · omega
  · have main : ∀ j, j < 513 → w.cell? ⟨g, i * 513 + j, none⟩ = (Value.int .i64 (x.1 : Int) :: cells8 x.2)[j]? := by
      intro j hj
      rw [cell_of_row w g _ cur _ _ hg, ← Array.getElem?_toList, ← cellsW_at s.cache s.n i j x h.fit.ok hx hj, ← ht, List.getElem?_take_of_lt]
      have : (i + 1) * 513 ≤ s.cache.length * 513 := Nat.mul_le_mul_right _ hi
      omega
    refine ⟨g, cap, hv, hn, hm, lt_of_heap hg, ?_, ?_, ?_⟩
    · have := main 0 (by omega)
      simpa using this
    · intro j v hj
      have hj' : j < 512 := by
        have := (List.getElem?_eq_some_iff.1 hj).1
        rw [cells8_length, hxl] at this
        exact this
      have := main (j + 1) (by omega)
      rw [List.getElem?_cons_succ, hj] at this
      have e : i * 513 + 1 + j = i * 513 + (j + 1) := by omega
      rw [e]
      exact this
    · intro j v hj
      have hj' : j < 513 := by
        have := (List.getElem?_eq_some_iff.1 hj).1
        simp only [List.length_cons, cells8_length, hxl] at this
        exact this
      rw [main j hj', hj]
theorem zeroE (w : World) : (zeroValue 3).run Try.prog w = .ok (.int .i64 0) w := by go_simp
theorem wf_nat (n : Nat) (h : n < 9223372036854775808) : (Lit.int .i64 (n : Int)).wf = true := WalkArith.wf_i64 (by omega)
theorem lit_eq {x : DataW Unit} {a b : Int} (h1 : x = .lit (.int .i64 a)) (h2 : x = .lit (.int .i64 b)) : b = a := by
  rw [h1] at h2
  injection h2 with h3
  injection h3 with _ h4
  exact h4.symm
set_option maxHeartbeats 1000000 in
theorem read_any {B : Nat} {w : World} {d mb mp : Nat} {cv : Value} {s : DS} (h : Dv B w d mb mp cv s) (i : Int) : Calls Try.prog 42 #[.pointer (some ⟨d, 0, none⟩), .int .i64 i] w fun e w' => ∃ v, e = .returned (.tuple #[v, .int .i64 (rdD s i).2.2]) ∧ Own w.heap.size w' v (rdD s i).2.1 ∧ Dv B w' d mb mp cv (rdD s i).1 ∧ Kept (fun k => k = d) w w' := by
  have H := Lib.hid h
  have p0 : w.cell? ⟨d, 0, none⟩ = some (.slice (some ⟨mb, 0, none⟩) s.n s.n) := h.cell 0
  have p1 : w.cell? ⟨d, 1, none⟩ = some cv := h.cell 1
  have p2 : w.cell? ⟨d, 2, none⟩ = some (.map (some mp)) := h.cell 2
  have p5 : w.cell? ⟨d, 5, none⟩ = some (.bool s.down) := h.cell 5
  have p6 : w.cell? ⟨d, 6, none⟩ = some (.int .i64 s.cr) := h.cell 6
  have f6 : w.frozen? ⟨d, 6, none⟩ = false := h.free 6
  clear h
  have hh := Lib.hid (has_any H.out i)
  cases hb : hasB s i with
  | false =>
    have E : Hid (rdD s i = (s, [], 60)) := Lib.hid (by simp [rdD, hb])
    go_enter Try.func42, Try.ntmps42
    go_wp2_with fail
    refine hh.out.mono ?_
    rintro e w1 ⟨rfl, rfl⟩
    go_wp2_with fail
    go_ret2
    rw [E.out]
    exact ⟨_, rfl, World.ownsRow_nil _ _ _ _, H.out, Kept.refl _ _⟩
  | true =>
    cases hd : s.down with
    | true =>
      have E : Hid (rdD s i = (s, [], 6)) := Lib.hid (by simp [rdD, hb, hd])
      rw [hd] at p5
      go_enter Try.func42, Try.ntmps42
      go_wp2_with fail
      refine hh.out.mono ?_
      rintro e w1 ⟨rfl, rfl⟩
      go_wp2_with fail
      go_ret2
      rw [E.out]
      exact ⟨_, rfl, World.ownsRow_nil _ _ _ _, H.out, Kept.refl _ _⟩
    | false =>
      obtain ⟨k, rfl, hk⟩ := hasB_nat hb
      have E : Hid (rdD s k = ({ s with cr := up s.cr }, rdB s k, 0)) := Lib.hid (by simp [rdD, hb, hd])
      rw [hd] at p5
      obtain ⟨X, hX⟩ : ∃ X, X = w.setCell ⟨d, 6, none⟩ (.int .i64 (up s.cr)) := ⟨_, rfl⟩
      have H1 : Hid (Dv B X d mb mp cv { s with cr := up s.cr }) := Lib.hid (by rw [hX]; exact H.out.set 6 _ _ rfl rfl rfl rfl rfl)
      have K1 : Hid (Kept (fun k => k = d) w X) := Lib.hid (by rw [hX]; exact kept_set w _ _ rfl)
      have S1 : X.heap.size = w.heap.size := by rw [hX]; simp [World.setCell]
      have hX' := hX.symm
      unfold up at hX'
      have q0 : X.cell? ⟨d, 0, none⟩ = some (.slice (some ⟨mb, 0, none⟩) s.n s.n) := H1.out.cell 0
      have q1 : X.cell? ⟨d, 1, none⟩ = some cv := H1.out.cell 1
      have q2 : X.cell? ⟨d, 2, none⟩ = some (.map (some mp)) := H1.out.cell 2
      obtain ⟨M, hM, hlat⟩ := H1.out.latest
      have MO := Lib.hid hM
      have LA := Lib.hid hlat
      have hn : s.n ≤ 4096 := H.out.fit.hi
      have KY := Lib.hid (keyOf_int_mk (P := Try.prog) Try.underlying3 (wf_nat k (by omega)))
      have hk' : (k : Int) < (s.n : Int) := by omega
      clear hX hM hlat
      cases hl : lastIx k s.cache 0 with
      | none =>
        have hhas : Maps.has M (.int .i64 (k : Int)) = false := by rw [(LA.out.2 k).1]; show (lastIx k s.cache 0).isSome = false; rw [hl]; rfl
        have ER : Hid (rdB s k = raw s.med k) := Lib.hid (by simp [rdB, hl])
        have R := Lib.hid (raw_range H1.out k hk)
        have hr := Lib.hid (raw_length s.med k (by have := H.out.fit.len; omega))
        have L := Lib.hid (bytesOf_any (raw s.med k) hr.out X)
        go_enter Try.func42, Try.ntmps42
        go_wp2_with fail
        refine hh.out.mono ?_
        rintro e w1 ⟨rfl, rfl⟩
        go_wp2_with first | (at_lookup; refine wpList_lookup_own_ok_int _ rfl _ _ 59 rfl 3 3 .i64 keyI Try.underlying59 Try.underlying3 (zeroE _) mp s.ws M rfl MO.out _ _ rfl KY.out ?_; intro c hat hwc; clear hat hwc; rw [hhas]) | (refine wpList_load_mid rfl 80 _ rfl mb (k * 512) rfl (cells8 (raw s.med k)) _ R.out Try.underlying80 rfl (by rw [cells8_length, hr.out]; exact size_content) ?_)
        go_wp2_with fail
        refine L.out.mono ?_
        rintro e w2 ⟨rfl, ho, hb2⟩
        have O := Lib.hid (And.intro ho hb2)
        clear ho hb2
        go_wp2_with fail
        go_ret2
        rw [E.out, ER.out]
        rw [← S1]
        exact ⟨_, rfl, O.out.1, H1.out.below O.out.2, K1.out.trans (Below.kept O.out.2 (fun k => k = d)) (fun _ _ h => h)⟩
      | some j =>
        obtain ⟨_, hj, x, hx, _⟩ := lastIx_lt k s.cache 0 j hl
        rw [Nat.sub_zero] at hx
        rw [Nat.zero_add] at hj
        have hhas : Maps.has M (.int .i64 (k : Int)) = true := by rw [(LA.out.2 k).1]; show (lastIx k s.cache 0).isSome = true; rw [hl]; rfl
        have hat0 := Lib.hid ((LA.out.2 k).2 j hl)
        have ER : Hid (rdB s k = x.2) := Lib.hid (by simp only [rdB, hl, List.getD, hx, Option.getD_some])
        have hr : Hid (x.2.length = 512) := Lib.hid (H.out.fit.ok x (List.mem_of_getElem? hx)).2
        obtain ⟨g, cap, rfl, hlc, hcm, _, _, hR, _⟩ := cache_at H1.out j x hx
        have R := Lib.hid hR
        have L := Lib.hid (bytesOf_any x.2 hr.out X)
        have hj' : (j : Int) < (s.cache.length : Int) := by omega
        have hw1 := H.out.fit.ws
        simp only at q1
        unfold maxLen at hcm
        obtain ⟨N, hN⟩ : ∃ N, N = s.cache.length := ⟨_, rfl⟩
        rw [← hN] at hj hj' hw1 hlc q1 p1
        have NN := Lib.hid hN
        clear hR hx hl hN
        go_enter Try.func42, Try.ntmps42
        go_wp2_with fail
        refine hh.out.mono ?_
        rintro e w1 ⟨rfl, rfl⟩
        go_wp2_with first | (at_lookup; refine wpList_lookup_own_ok_int _ rfl _ _ 59 rfl 3 3 .i64 keyI Try.underlying59 Try.underlying3 (zeroE _) mp s.ws M rfl MO.out _ _ rfl KY.out ?_; intro c hat hwc; obtain rfl := lit_eq hat0.out hat; clear hat hwc; rw [hhas]) | (refine wpList_load_mid rfl 80 _ rfl g (j * 513 + 1) rfl (cells8 x.2) _ R.out Try.underlying80 rfl (by rw [cells8_length, hr.out]; exact size_content) ?_)
        go_wp2_with fail
        refine L.out.mono ?_
        rintro e w2 ⟨rfl, ho, hb2⟩
        have O := Lib.hid (And.intro ho hb2)
        clear ho hb2
        go_wp2_with fail
        go_ret2
        rw [E.out, ER.out]
        rw [← S1]
        exact ⟨_, rfl, O.out.1, H1.out.below O.out.2, K1.out.trans (Below.kept O.out.2 (fun k => k = d)) (fun _ _ h => h)⟩
end Go.Proofs.Ytbdlebengmbooaa
