/-
  within, whole.
-/
import Derived.Test.YtfkoiehnkelpoaaDoorWtA
namespace Go.Proofs.YtfkoiehnkelpoaaDoor
open Go.RowKit
namespace Wt
theorem filter_take (f : Ev → Bool) (l : List Ev) (k : Nat) (h : k < l.length) : (l.take (k + 1)).filter f = (l.take k).filter f ++ (if f (l.getD k Ev.z) = true then [l.getD k Ev.z] else []) := by
  rw [take_onez l k Ev.z h, List.filter_append]
  congr 1
  by_cases q : f (l.getD k Ev.z) = true
  · rw [if_pos q, List.filter_cons_of_pos q]; rfl
  · rw [if_neg q, List.filter_cons_of_neg q]; rfl
theorem filter_le (f : Ev → Bool) (l : List Ev) (k : Nat) : ((l.take k).filter f).length ≤ k := by
  refine Nat.le_trans (List.length_filter_le _ _) ?_
  rw [List.length_take]; omega
set_option maxHeartbeats 8000000 in
set_option maxRecDepth 100000 in
theorem within_any (l : List Ev) (path : ByteArray) (v : Value) (w : World) (hm : L.HasM w) (H : Row kE w v l) (hl : l.length ≤ 1000) :
    Calls Tryd.prog 31 #[v, .string path] w fun e w' => ∃ v', e = .returned v' ∧ OwnR kE w.heap.size w' v' (l.filter fun e => L.underB e.p path) ∧ Below w.heap.size w w' := by
  have V := Lib.hid H
  have M := Lib.hid hm
  obtain ⟨a, cap, rfl, hlc, hcm⟩ := H.len
  unfold maxLen at hcm
  clear H hm
  obtain ⟨n, hn⟩ : ∃ n, n = l.length := ⟨_, rfl⟩
  rw [← hn] at hlc V hl ⊢
  have HN := Lib.hid hn
  clear hn
  go_enter Tryd.func31, Tryd.ntmps31
  go_wp2_with fail
  go_loopg [5, 10] n (fun g so si wr => ∃ (k : Nat) (a' : Option Addr) (m c : Nat), k ≤ n ∧ g = n - k ∧ si = .int .i64 k ∧ so = .slice a' m c ∧ Hid (OwnR kE w.heap.size wr (.slice a' m c) ((l.take k).filter fun e => L.underB e.p path) ∧ Below w.heap.size w wr))
  case atStart => exact ⟨0, none, 0, 0, Nat.zero_le _, rfl, rfl, rfl, Lib.hid ⟨OwnR.nil _ _ _, Below.refl _ _⟩⟩
  case round =>
    obtain ⟨k, a', m, c, hk, hg, rfl, rfl, R⟩ := hrel
    have G := Lib.hid hg
    clear hg
    by_cases hlt : k < n
    · have hlt' : (k : Int) < (n : Int) := by omega
      have hkl : k < l.length := by rw [← HN.out]; exact hlt
      obtain ⟨b, off, rfl, c0, c1, c2, c3, c4⟩ := row_at (V.out.below R.out.2) k hkl
      have FT := Lib.hid (filter_take (fun e => L.underB e.p path) l k hkl)
      have LZ : Hid ((((l.take k).filter fun e => L.underB e.p path).length + 1) * kE.b ≤ 140737488355328) := Lib.hid (by
        have := filter_le (fun e => L.underB e.p path) l k
        show (_ + 1) * 56 ≤ _
        omega)
      obtain ⟨y, hy⟩ : ∃ y, y = l.getD k Ev.z := ⟨_, rfl⟩
      rw [← hy] at c0 c1 c2 c3 c4 FT
      clear hy hkl
      obtain ⟨yv, yk, yg, yp, yn⟩ := y
      simp only at c0 c1 c2 c3 c4 FT
      obtain ⟨X, hX⟩ : ∃ X, X = wr.alloc (.cells #[.int .i64 yv, .int .i64 yk, .bool yg, .string yp, .string yn] 33) := ⟨_, rfl⟩
      have AX : Hid (Below w.heap.size w X ∧ L.HasM X ∧ OwnR kE w.heap.size X (.slice a' m c) ((l.take k).filter fun e => L.underB e.p path)) := Lib.hid (by
        have hb : Below wr.heap.size wr X := by rw [hX]; exact (Below.refl _ wr).alloc (Nat.le_refl _) _
        have hb2 := R.out.2.trans (hb.mono R.out.2.size)
        exact ⟨hb2, M.out.below hb2, R.out.1.below hb⟩)
      have CX : Hid (∀ W : World, Below X.heap.size X W → ∀ i y, #[Value.int .i64 yv, .int .i64 yk, .bool yg, .string yp, .string yn][i]? = some y → W.cell? ⟨wr.heap.size, i, none⟩ = some y) := Lib.hid fun W hb i y h => by
        have h1 : X.cell? ⟨wr.heap.size, i, none⟩ = some y := by rw [hX, World.cell?_alloc_new]; exact h
        rw [hb.cell (block_lt_of_cell h1)]; exact h1
      have x3 : X.cell? ⟨wr.heap.size, 3, none⟩ = some (.string yp) := CX.out X (Below.refl _ _) 3 _ rfl
      have UA := Lib.hid (L.under_any yp path X AX.out.2.1)
      have hX' := hX.symm
      clear hX R
      go_wp2_with fail
      refine UA.out.mono ?_
      rintro e w1 ⟨rfl, hb⟩
      have B1 : Hid (Below w.heap.size w w1 ∧ OwnR kE w.heap.size w1 (.slice a' m c) ((l.take k).filter fun e => L.underB e.p path)) := Lib.hid ⟨AX.out.1.trans (hb.mono AX.out.1.size), AX.out.2.2.below hb⟩
      have y0 : w1.cell? ⟨wr.heap.size, 0, none⟩ = some (.int .i64 yv) := CX.out w1 hb 0 _ rfl
      have y1 : w1.cell? ⟨wr.heap.size, 1, none⟩ = some (.int .i64 yk) := CX.out w1 hb 1 _ rfl
      have y2 : w1.cell? ⟨wr.heap.size, 2, none⟩ = some (.bool yg) := CX.out w1 hb 2 _ rfl
      have y3 : w1.cell? ⟨wr.heap.size, 3, none⟩ = some (.string yp) := CX.out w1 hb 3 _ rfl
      have y4 : w1.cell? ⟨wr.heap.size, 4, none⟩ = some (.string yn) := CX.out w1 hb 4 _ rfl
      clear hb CX AX UA x3 c0 c1 c2 c3 c4 hX'
      by_cases hu : L.underB yp path = true
      · rw [hu]
        have F2 := Lib.hid (FT.out.trans (by rw [if_pos hu]))
        go_wp2_with (at_builtin; refine app_rowB okE (gg := w1.heap.size) rfl _ _ rfl rfl B1.out.2 B1.out.1.size ⟨yv, yk, yg, yp, yn⟩ rfl rfl rfl LZ.out ?_; intro v' w' h1 h2)
        obtain ⟨a2, d2, rfl⟩ := h1.slice
        have A : Hid (OwnR kE w.heap.size w' (.slice a2 _ d2) ((l.take (k + 1)).filter fun e => L.underB e.p path) ∧ Below w.heap.size w w') := Lib.hid ⟨by rw [F2.out]; exact h1, B1.out.1.grown h2 B1.out.1.size (fun j hj => (B1.out.2.lt j hj).1)⟩
        clear h1 h2
        go_wp2_with fail
        go_roundg (n - (k + 1))
        case measure => have := G.out; omega
        case rel => exact ⟨k + 1, a2, _, d2, by omega, rfl, by go_num, rfl, A⟩
      · have hu' : L.underB yp path = false := by simpa using hu
        have F2 := Lib.hid (FT.out.trans (by rw [if_neg hu, List.append_nil]))
        rw [hu']
        go_wp2_with fail
        go_roundg (n - (k + 1))
        case measure => have := G.out; omega
        case rel => exact ⟨k + 1, a', m, c, by omega, rfl, by go_num, rfl, Lib.hid ⟨by rw [F2.out]; exact B1.out.2, B1.out.1⟩⟩
    · have E : Hid (l.take k = l) := Lib.hid (List.take_of_length_le (by rw [← HN.out]; omega))
      go_wp2_with fail
      go_ret
      exact ⟨_, rfl, by have := R.out.1; rw [E.out] at this; exact this, R.out.2⟩
set_option maxHeartbeats 4000000 in
set_option maxRecDepth 100000 in
theorem whole_any (l : List Ev) (most : Int) (v : Value) (w : World) (H : Row kE w v l) (hm : 1 ≤ most) (hl : ∀ e ∈ l, 0 ≤ e.v ∧ e.v ≤ 1152921504606846976) :
    Calls Tryd.prog 32 #[v, .int .i64 most] w fun e w' => e = .returned (.int .i64 (whN l most)) ∧ w' = w := by
  have V := Lib.hid H
  obtain ⟨a, cap, rfl, hlc, hcm⟩ := H.len
  unfold maxLen at hcm
  clear H
  obtain ⟨n, hn⟩ : ∃ n, n = l.length := ⟨_, rfl⟩
  rw [← hn] at hlc V ⊢
  have HN := Lib.hid hn
  have HW : Hid (whN l most = if (n : Int) ≤ most then l.length else upN l (max ((l.getD most.toNat Ev.z).v - 1) (l.getD 0 Ev.z).v)) := Lib.hid (by rw [hn]; rfl)
  clear hn
  go_enter Tryd.func32, Tryd.ntmps32
  by_cases h : (n : Int) ≤ most
  · have E : Hid (whN l most = n) := Lib.hid (by rw [HW.out, if_pos h, HN.out])
    go_wp2_with fail
    go_ret
    exact ⟨by rw [E.out]; rfl, rfl⟩
  · obtain ⟨m, hmn⟩ : ∃ m : Nat, (m : Int) = most := ⟨most.toNat, by omega⟩
    subst hmn
    have hm1 : m < n := by omega
    have hml : m < l.length := by rw [← HN.out]; exact hm1
    obtain ⟨b, off, rfl, c0, -⟩ := row_at V.out m hml
    obtain ⟨b2, off2, e2, d0, -⟩ := row_at V.out 0 (by omega)
    simp only [Option.some.injEq, Addr.mk.injEq, and_true] at e2
    obtain ⟨rfl, rfl⟩ := e2
    have b0 := hl _ (getD_in (d := Ev.z) hml)
    have b1 := hl _ (getD_in (d := Ev.z) (show 0 < l.length by omega))
    have E : Hid (whN l m = upN l (max ((l.getD m Ev.z).v - 1) (l.getD 0 Ev.z).v)) := Lib.hid (by rw [HW.out, if_neg h, Int.toNat_natCast])
    have UA : Hid (∀ x, Calls Tryd.prog 30 #[.slice (some ⟨b, off, none⟩) n cap, .int .i64 x] w fun e w' => e = .returned (.int .i64 (upN l x)) ∧ w' = w) := Lib.hid fun x => upTo_any l x _ w V.out
    obtain ⟨y, hy⟩ : ∃ y, y = (l.getD m Ev.z).v := ⟨_, rfl⟩
    obtain ⟨z, hz⟩ : ∃ z, z = (l.getD 0 Ev.z).v := ⟨_, rfl⟩
    rw [← hy] at c0 E b0
    rw [← hz] at d0 E b1
    simp only [Nat.zero_mul, Nat.add_zero] at d0
    clear hy hz hl hml
    have hmi : ((m : Nat) : Int) < (n : Int) := by omega
    have h0i : (0 : Int) < (n : Int) := by omega
    go_wp2_with fail
    refine (UA.out _).mono ?_
    rintro e w1 ⟨rfl, rfl⟩
    go_wp2_with fail
    go_ret
    refine ⟨?_, rfl⟩
    rw [E.out]
    first | rfl | (congr 3; omega) | skip
end Wt
end Go.Proofs.YtfkoiehnkelpoaaDoor
