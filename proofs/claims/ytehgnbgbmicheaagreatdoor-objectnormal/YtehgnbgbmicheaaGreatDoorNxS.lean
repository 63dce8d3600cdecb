/-
  sameAmounts and sameObject of unlike lists and objects.
-/
import Derived.Test.YtehgnbgbmicheaaGreatDoorObHb
namespace Go.Proofs.YtehgnbgbmicheaaGreatDoor
open Go.RowKit Go.Sort
namespace Nx
theorem take_ext {α : Type} {l l' : List α} {n : Nat} (h : l.take n = l'.take n) (h1 : l.length = n) (h2 : l'.length = n) : l = l' := by
  rw [List.take_of_length_le (by omega), List.take_of_length_le (by omega)] at h; exact h
theorem take_more {α : Type} {l l' : List α} {k : Nat} {z : α} (h : l.take k = l'.take k) (h1 : k < l.length) (h2 : k < l'.length) (e : l.getD k z = l'.getD k z) : l.take (k + 1) = l'.take (k + 1) := by
  rw [take_onez l k z h1, take_onez l' k z h2, h, e]
theorem txt_ne {x y : ByteArray} (h : x ≠ y) : (x.toList == y.toList) = false := by
  rw [beq_eq_false_iff_ne, ByteArray.toList_eq, ByteArray.toList_eq]
  intro e
  apply h
  obtain ⟨⟨l⟩⟩ := x
  obtain ⟨⟨l'⟩⟩ := y
  simpa using e
theorem txt_bne {x y : ByteArray} (h : x ≠ y) : (x.toList != y.toList) = true := by rw [bne, txt_ne h]; rfl
theorem int_ne {x y : Int} (h : x ≠ y) : (x == y) = false := by rw [beq_eq_false_iff_ne]; exact h
theorem int_bne {x y : Int} (h : x ≠ y) : (x != y) = true := by rw [bne_iff_ne]; exact h
set_option maxHeartbeats 4000000 in
set_option maxRecDepth 100000 in
theorem sameAmounts_no (u u' : Value) (l l' : List Am) (w : World) (hu : Row kAm w u l) (hu' : Row kAm w u' l') (hne : l ≠ l') :
    Calls Tryz.prog 20 #[u, u'] w fun e w' => e = .returned (.bool false) ∧ Below w.heap.size w w' := by
  have U := Lib.hid hu
  have U' := Lib.hid hu'
  obtain ⟨a, cap, rfl, hlc, hcm⟩ := hu.len
  obtain ⟨a', cap', rfl, hlc', hcm'⟩ := hu'.len
  unfold maxLen at hcm hcm'
  obtain ⟨n, hn⟩ : ∃ n, n = l.length := ⟨_, rfl⟩
  obtain ⟨n', hn'⟩ : ∃ n, n = l'.length := ⟨_, rfl⟩
  rw [← hn] at hlc U ⊢
  rw [← hn'] at hlc' U' ⊢
  have HN := Lib.hid (And.intro hn hn')
  have NE := Lib.hid hne
  clear hu hu' hn hn' hne
  by_cases hnn : n = n'
  · subst hnn
    go_enter Tryz.func20, Tryz.ntmps20
    go_wp2_with fail
    go_loopg [5] n (fun g si wr => ∃ (k : Nat), k ≤ n ∧ g = n - k ∧ si = .int .i64 k ∧ Hid (Below w.heap.size w wr ∧ l.take k = l'.take k))
    case atStart => exact ⟨0, Nat.zero_le _, rfl, rfl, Lib.hid ⟨Below.refl _ _, rfl⟩⟩
    case round =>
      obtain ⟨k, hk, hg, rfl, S⟩ := hrel
      have GK := Lib.hid hg
      clear hg
      by_cases hlt : k < n
      · have hlt' : (k : Int) < (n : Int) := by omega
        obtain ⟨b, off, rfl, pc⟩ := (U.out.below S.out.1).at k (by rw [← HN.out.1]; exact hlt)
        obtain ⟨b', off', rfl, pc'⟩ := (U'.out.below S.out.1).at k (by rw [← HN.out.2]; exact hlt)
        obtain ⟨⟨xn, xv⟩, hx⟩ : ∃ x, x = l.getD k kAm.z := ⟨_, rfl⟩
        obtain ⟨⟨yn, yv⟩, hy⟩ : ∃ x, x = l'.getD k kAm.z := ⟨_, rfl⟩
        rw [← hx] at pc
        rw [← hy] at pc'
        have r0 := reg (show wr.cell? ⟨b, off + k * 2, none⟩ = some (.string xn) from pc 0 _ rfl)
        have r1 := reg (show wr.cell? ⟨b, off + k * 2 + 1, none⟩ = some (.int .i64 xv) from pc 1 _ rfl)
        have s0 := reg (show wr.cell? ⟨b', off' + k * 2, none⟩ = some (.string yn) from pc' 0 _ rfl)
        have s1 := reg (show wr.cell? ⟨b', off' + k * 2 + 1, none⟩ = some (.int .i64 yv) from pc' 1 _ rfl)
        have HX := Lib.hid (And.intro hx hy)
        have xB : Hid (∀ (dq : Nat) (os : Array Obj), Below wr.heap.size wr (grow (redrawn wr dq) os)) := Lib.hid fun dq os => below_regrown wr dq os
        clear hx hy pc pc'
        by_cases e1 : xn = yn
        · subst e1
          have g0 : (xn.toList == xn.toList) = true := by simp
          by_cases e2 : xv = yv
          · subst e2
            go_wp2_with fail
            refine wp_region_quiet_below (by kernel_rfl) (by kernel_rfl) ?_
            repeat (go_big_quiet_step (fail))
            refine wpQuiet_nil ?_
            intro _ hw'
            obtain ⟨⟨dq, osq⟩, hw''⟩ := hw'
            subst hw''
            have xx := Lib.hid (S.out.1.trans ((xB.out dq osq).mono S.out.1.size))
            have TK : Hid (l.take (k + 1) = l'.take (k + 1)) := Lib.hid (take_more S.out.2 (by rw [← HN.out.1]; exact hlt) (by rw [← HN.out.2]; exact hlt) (by rw [← HX.out.1, ← HX.out.2]))
            clear r0 r1 s0 s1 xB
            obtain ⟨W, hW⟩ : ∃ W, W = grow (redrawn wr dq) osq := ⟨_, rfl⟩
            rw [← hW] at xx ⊢
            clear hW
            go_wp2_with fail
            go_roundg (n - (k + 1))
            case measure => have := GK.out; omega
            case rel => exact ⟨k + 1, by omega, rfl, by go_num, Lib.hid ⟨xx.out, TK.out⟩⟩
          · have g1 := int_ne e2
            have g2 := int_bne e2
            clear e2
            go_wp2_with fail
            refine wp_region_quiet_below (by kernel_rfl) (by kernel_rfl) ?_
            repeat (go_big_quiet_step (fail))
            refine wpQuiet_nil ?_
            intro _ hw'
            obtain ⟨⟨dq, osq⟩, hw''⟩ := hw'
            subst hw''
            have xx := Lib.hid (S.out.1.trans ((xB.out dq osq).mono S.out.1.size))
            clear r0 r1 s0 s1 xB
            go_wp2_with fail
            go_ret
            exact ⟨rfl, xx.out⟩
        · have g1 := txt_ne e1
          clear e1
          go_wp2_with fail
          refine wp_region_quiet_below (by kernel_rfl) (by kernel_rfl) ?_
          repeat (go_big_quiet_step (fail))
          refine wpQuiet_nil ?_
          intro _ hw'
          obtain ⟨⟨dq, osq⟩, hw''⟩ := hw'
          subst hw''
          have xx := Lib.hid (S.out.1.trans ((xB.out dq osq).mono S.out.1.size))
          clear r0 r1 s0 s1 xB
          go_wp2_with fail
          go_ret
          exact ⟨rfl, xx.out⟩
      · exact absurd (take_ext (by have q := S.out.2; rw [show k = n by omega] at q; exact q) HN.out.1.symm HN.out.2.symm) NE.out
  · have g1 : ((n : Int) != (n' : Int)) = true := by rw [bne_iff_ne]; omega
    have g2 : ((n : Int) == (n' : Int)) = false := by rw [beq_eq_false_iff_ne]; omega
    clear hnn
    go_enter Tryz.func20, Tryz.ntmps20
    go_wp2_with fail
    go_ret
    exact ⟨rfl, Below.refl _ _⟩
theorem bool_of (p : Prop) : ∃ c : Bool, c = true ↔ p := by
  by_cases h : p
  · exact ⟨true, fun _ => h, fun _ => rfl⟩
  · exact ⟨false, fun q => (by cases q), fun q => absurd q h⟩
theorem sameAmounts_c (u u' : Value) (l l' : List Am) (c : Bool) (hc : c = true ↔ l = l') (w : World) (hu : Row kAm w u l) (hu' : Row kAm w u' l') :
    Calls Tryz.prog 20 #[u, u'] w fun e w' => e = .returned (.bool c) ∧ Below w.heap.size w w' := by
  cases c with
  | true =>
    have e := hc.1 rfl
    subst e
    exact sameAmounts_yes u u' l w hu hu'
  | false => exact sameAmounts_no u u' l l' w hu hu' (fun e => by have q := hc.2 e; cases q)
end Nx
end Go.Proofs.YtehgnbgbmicheaaGreatDoor
