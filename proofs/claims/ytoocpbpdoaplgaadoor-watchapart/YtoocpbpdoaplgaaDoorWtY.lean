/-
  The document's placed, text: the walks; sameTexts.
-/
import Derived.Test.YtoocpbpdoaplgaaDoorWtX
namespace Go.Proofs.YtoocpbpdoaplgaaDoor
open Go.RowKit Go.Sort
namespace Wt
theorem less_eq (x y : ByteArray) : Op.bytesLess x.toList y.toList = decide (x.data.toList < y.data.toList) := by rw [bytesLess_eq, ByteArray.toList_eq, ByteArray.toList_eq]
set_option maxHeartbeats 16000000 in
set_option maxRecDepth 100000 in
theorem placed_any (l : List ByteArray) (t : ByteArray) (v : Value) (w : World) (hv : Row kT w v l) (hl : l.length ≤ 4000000) :
    Calls Tryd.prog 43 #[v, .string t] w fun e w' => ∃ a n c, e = .returned (.slice a n c) ∧ OwnR kT w.heap.size w' (.slice a n c) (plR t l) ∧ Below w.heap.size w w' := by
  have V := Lib.hid hv
  obtain ⟨a, cap, rfl, hlc, hcm⟩ := hv.len
  unfold maxLen at hcm
  obtain ⟨n, hn⟩ : ∃ n, n = l.length := ⟨_, rfl⟩
  rw [← hn] at hlc V hl ⊢
  have HN := Lib.hid hn
  clear hv hn
  go_enter Tryd.func43, Tryd.ntmps43
  go_wp2_with fail
  go_loopg [5, 6, 7] n (fun gk so sd si wr => ∃ (k : Nat) (a1 : Option Addr) (n1 c1 : Nat) (d : Bool), k ≤ n ∧ gk = n - k ∧ so = .slice a1 n1 c1 ∧ sd = .bool d ∧ si = .int .i64 k ∧ Hid (OwnR kT w.heap.size wr (.slice a1 n1 c1) (plK t (l.take k)).1 ∧ d = (plK t (l.take k)).2 ∧ Below w.heap.size w wr))
  case atStart => exact ⟨0, none, 0, 0, false, Nat.zero_le _, rfl, rfl, rfl, rfl, Lib.hid ⟨OwnR.nil _ _ _, rfl, Below.refl _ _⟩⟩
  case round =>
    obtain ⟨k, a1, n1, c1, d, hk, hgk, rfl, rfl, rfl, R⟩ := hrel
    have GK := Lib.hid hgk
    clear hgk
    by_cases hlt : k < n
    · have hlt' : (k : Int) < (n : Int) := by omega
      have hkl : k < l.length := by rw [← HN.out]; exact hlt
      obtain ⟨b, off, rfl, c0⟩ := rowT_at (V.out.below R.out.2.2) k hkl
      have PS := Lib.hid (plK_succ t l k hkl)
      have PL : Hid ((plK t (l.take k)).1.length ≤ 8000000) := Lib.hid (by have := plK_len t l k (by omega); omega)
      have RB : Hid (∀ W : World, Below wr.heap.size wr W → Row kT W (.slice (some ⟨b, off, none⟩) n cap) l) := Lib.hid fun W hb => V.out.below (R.out.2.2.trans (hb.mono R.out.2.2.size))
      obtain ⟨z, hz⟩ : ∃ z, z = l.getD k ⟨#[]⟩ := ⟨_, rfl⟩
      rw [← hz] at c0 PS
      have HZ := Lib.hid hz
      clear hz
      obtain ⟨p, hp⟩ : ∃ p, p = plK t (l.take k) := ⟨_, rfl⟩
      rw [← hp] at R PS PL
      clear hp
      have SL := same_list z t
      have LL := less_eq t z
      have LZ : Hid ((p.1.length + 1) * kT.b ≤ 140737488355328) := Lib.hid (by have := PL.out; show (_ + 1) * 16 ≤ _; omega)
      have RS : Hid (w.heap.size ≤ wr.heap.size) := Lib.hid R.out.2.2.size
      have one : Hid (plS t p z = (p.1 ++ [z], (plS t p z).2) → ∀ W V', OwnR kT w.heap.size W V' (p.1 ++ [z]) → OwnR kT w.heap.size W V' (plK t (l.take (k + 1))).1) := Lib.hid fun h W V' q => by rw [PS.out, h]; exact q
      by_cases he : z = t
      · have E : Hid (plS t p z = (p.1 ++ [z], true)) := Lib.hid (by unfold plS; rw [if_pos he])
        rw [decide_eq_true he] at SL
        clear LL he
        go_wp2_with (at_builtin; refine app_rowB okT (gg := wr.heap.size) rfl _ _ rfl rfl R.out.1 RS.out z rfl rfl rfl LZ.out ?_; intro v7 w7 h7 g7)
        obtain ⟨n7, a7, c7, rfl⟩ : ∃ n1 a1 c1, v7 = .slice a1 n1 c1 := by (obtain ⟨a', c', e'⟩ := h7.slice; exact ⟨_, a', c', e'⟩)
        have W7 : Hid (OwnR kT w.heap.size w7 (.slice a7 n7 c7) (plK t (l.take (k + 1))).1 ∧ true = (plK t (l.take (k + 1))).2 ∧ Below w.heap.size w w7) := Lib.hid ⟨by rw [PS.out, E.out]; exact h7, by rw [PS.out, E.out], R.out.2.2.grown g7 RS.out (fun j hj => (R.out.1.lt j hj).1)⟩
        clear h7 g7
        go_wp2_with fail
        go_roundg (n - (k + 1))
        case measure => have := GK.out; omega
        case rel => exact ⟨k + 1, a7, n7, c7, true, by omega, rfl, rfl, rfl, by go_num, W7⟩
      · rw [decide_eq_false he] at SL
        cases d with
        | true =>
          have E : Hid (plS t p z = (p.1 ++ [z], true)) := Lib.hid (by unfold plS; rw [if_neg he, if_neg (fun q => by rw [← R.out.2.1] at q; cases q.1), ← R.out.2.1])
          clear LL he
          go_wp2_with (at_builtin; refine app_rowB okT (gg := wr.heap.size) rfl _ _ rfl rfl R.out.1 RS.out z rfl rfl rfl LZ.out ?_; intro v7 w7 h7 g7)
          obtain ⟨n7, a7, c7, rfl⟩ : ∃ n1 a1 c1, v7 = .slice a1 n1 c1 := by (obtain ⟨a', c', e'⟩ := h7.slice; exact ⟨_, a', c', e'⟩)
          have W7 : Hid (OwnR kT w.heap.size w7 (.slice a7 n7 c7) (plK t (l.take (k + 1))).1 ∧ true = (plK t (l.take (k + 1))).2 ∧ Below w.heap.size w w7) := Lib.hid ⟨by rw [PS.out, E.out]; exact h7, by rw [PS.out, E.out], R.out.2.2.grown g7 RS.out (fun j hj => (R.out.1.lt j hj).1)⟩
          clear h7 g7
          go_wp2_with fail
          go_roundg (n - (k + 1))
          case measure => have := GK.out; omega
          case rel => exact ⟨k + 1, a7, n7, c7, true, by omega, rfl, rfl, rfl, by go_num, W7⟩
        | false =>
          by_cases hq : t.data.toList < z.data.toList
          · have E : Hid (plS t p z = (p.1 ++ [t] ++ [z], true)) := Lib.hid (by unfold plS; rw [if_neg he, if_pos ⟨R.out.2.1.symm, hq⟩])
            rw [decide_eq_true hq] at LL
            clear he hq
            have M1 : True := trivial
            have LZ2 : Hid (((p.1 ++ [t]).length + 1) * kT.b ≤ 140737488355328) := Lib.hid (by have := PL.out; rw [List.length_append]; show (_ + 1) * 16 ≤ _; simp only [List.length_singleton]; omega)
            go_wp2_with (first
              | (at_builtin; clear M1; refine app_rowB okT (gg := wr.heap.size) rfl _ _ rfl rfl R.out.1 RS.out t rfl rfl rfl LZ.out ?_; intro v6 w6 h6 g6
                 obtain ⟨n6, a6, c6, rfl⟩ : ∃ n1 a1 c1, v6 = .slice a1 n1 c1 := by (obtain ⟨a', c', e'⟩ := h6.slice; exact ⟨_, a', c', e'⟩)
                 have W6 : Hid (OwnR kT w.heap.size w6 (.slice a6 n6 c6) (p.1 ++ [t]) ∧ Below w.heap.size w w6) := Lib.hid ⟨h6, R.out.2.2.grown g6 RS.out (fun j hj => (R.out.1.lt j hj).1)⟩
                 obtain ⟨b', off', eb, d0⟩ := rowT_at (V.out.below W6.out.2) k hkl
                 simp only [Option.some.injEq, Addr.mk.injEq, and_true] at eb
                 obtain ⟨rfl, rfl⟩ := eb
                 rw [← HZ.out] at d0
                 clear h6 g6)
              | (at_builtin; refine app_rowB okT (gg := w6.heap.size) rfl _ _ rfl rfl W6.out.1 W6.out.2.size z rfl rfl rfl LZ2.out ?_; intro v7 w7 h7 g7))
            obtain ⟨n7, a7, c7, rfl⟩ : ∃ n1 a1 c1, v7 = .slice a1 n1 c1 := by (obtain ⟨a', c', e'⟩ := h7.slice; exact ⟨_, a', c', e'⟩)
            have W7 : Hid (OwnR kT w.heap.size w7 (.slice a7 n7 c7) (plK t (l.take (k + 1))).1 ∧ true = (plK t (l.take (k + 1))).2 ∧ Below w.heap.size w w7) := Lib.hid ⟨by rw [PS.out, E.out]; exact h7, by rw [PS.out, E.out], W6.out.2.grown g7 W6.out.2.size (fun j hj => (W6.out.1.lt j hj).1)⟩
            clear h7 g7
            go_wp2_with fail
            go_roundg (n - (k + 1))
            case measure => have := GK.out; omega
            case rel => exact ⟨k + 1, a7, n7, c7, true, by omega, rfl, rfl, rfl, by go_num, W7⟩
          · have E : Hid (plS t p z = (p.1 ++ [z], false)) := Lib.hid (by unfold plS; rw [if_neg he, if_neg (fun q => hq q.2), ← R.out.2.1])
            rw [decide_eq_false hq] at LL
            clear he hq
            go_wp2_with (at_builtin; refine app_rowB okT (gg := wr.heap.size) rfl _ _ rfl rfl R.out.1 RS.out z rfl rfl rfl LZ.out ?_; intro v7 w7 h7 g7)
            obtain ⟨n7, a7, c7, rfl⟩ : ∃ n1 a1 c1, v7 = .slice a1 n1 c1 := by (obtain ⟨a', c', e'⟩ := h7.slice; exact ⟨_, a', c', e'⟩)
            have W7 : Hid (OwnR kT w.heap.size w7 (.slice a7 n7 c7) (plK t (l.take (k + 1))).1 ∧ false = (plK t (l.take (k + 1))).2 ∧ Below w.heap.size w w7) := Lib.hid ⟨by rw [PS.out, E.out]; exact h7, by rw [PS.out, E.out], R.out.2.2.grown g7 RS.out (fun j hj => (R.out.1.lt j hj).1)⟩
            clear h7 g7
            go_wp2_with fail
            go_roundg (n - (k + 1))
            case measure => have := GK.out; omega
            case rel => exact ⟨k + 1, a7, n7, c7, false, by omega, rfl, rfl, rfl, by go_num, W7⟩
    · have EK : Hid (l.take k = l) := Lib.hid (List.take_of_length_le (by rw [← HN.out]; omega))
      rw [EK.out] at R
      have hkn : ¬ (k : Int) < (n : Int) := by omega
      have PL : Hid ((plK t l).1.length ≤ 8000000) := Lib.hid (by have h := plK_len t l l.length (Nat.le_refl _); rw [List.take_length] at h; have := HN.out; omega)
      have LZ : Hid (((plK t l).1.length + 1) * kT.b ≤ 140737488355328) := Lib.hid (by have := PL.out; show (_ + 1) * 16 ≤ _; omega)
      cases d with
      | true =>
        have E : Hid (plR t l = (plK t l).1) := Lib.hid (by unfold plR; rw [if_pos R.out.2.1.symm])
        go_wp2_with fail
        go_ret
        exact ⟨_, _, _, rfl, by rw [E.out]; exact R.out.1, R.out.2.2⟩
      | false =>
        have E : Hid (plR t l = (plK t l).1 ++ [t]) := Lib.hid (by unfold plR; rw [if_neg (by rw [← R.out.2.1]; simp)])
        have RS : Hid (w.heap.size ≤ wr.heap.size) := Lib.hid R.out.2.2.size
        go_wp2_with (at_builtin; refine app_rowB okT (gg := wr.heap.size) rfl _ _ rfl rfl R.out.1 RS.out t rfl rfl rfl LZ.out ?_; intro v7 w7 h7 g7)
        obtain ⟨n7, a7, c7, rfl⟩ : ∃ n1 a1 c1, v7 = .slice a1 n1 c1 := by (obtain ⟨a', c', e'⟩ := h7.slice; exact ⟨_, a', c', e'⟩)
        have W7 : Hid (OwnR kT w.heap.size w7 (.slice a7 n7 c7) (plR t l) ∧ Below w.heap.size w w7) := Lib.hid ⟨by rw [E.out]; exact h7, R.out.2.2.grown g7 RS.out (fun j hj => (R.out.1.lt j hj).1)⟩
        clear h7 g7
        go_wp2_with fail
        go_ret
        exact ⟨_, _, _, rfl, W7.out.1, W7.out.2⟩
set_option maxHeartbeats 4000000 in
set_option maxRecDepth 100000 in
theorem rtext_any (x : Ev) (w : World) (hp : x.p.size ≤ 1000) (hn : x.n.size ≤ 140737488355328) : Calls Tryd.prog 45 #[x.val] w fun e w' => e = .returned (.string (tx x)) ∧ Below w.heap.size w w' := by
  obtain ⟨v, k, g, p, n⟩ := x
  unfold Ev.val tx
  simp only at hp hn ⊢
  have B : Hid (∀ o, Below w.heap.size w (w.alloc o)) := below_alR w
  have s1 : (p ++ (⟨#[32]⟩ : ByteArray)).size = p.size + 1 := by rw [ByteArray.size_append]; rfl
  go_enter Tryd.func45, Tryd.ntmps45
  go_wp2_with fail
  go_ret
  exact ⟨rfl, B.out _⟩
set_option maxHeartbeats 4000000 in
set_option maxRecDepth 100000 in
theorem sameTexts_yes (v u : Value) (l : List ByteArray) (w : World) (hv : Row kT w v l) (hu : Row kT w u l) :
    Calls Tryd.prog 23 #[v, u] w fun e w' => e = .returned (.bool true) ∧ Below w.heap.size w w' := by
  have V : Aside (Row kT w v l ∧ Row kT w u l) := ⟨hv, hu⟩
  obtain ⟨a, cap, rfl, hlc, hcm⟩ := hv.len
  obtain ⟨a', cap', rfl, hlc', hcm'⟩ := hu.len
  unfold maxLen at hcm hcm'
  clear hv hu
  go_enter Tryd.func23, Tryd.ntmps23
  go_wp2_with fail
  go_loopg [5] l.length (fun g si wr => ∃ (k : Nat), k ≤ l.length ∧ g = l.length - k ∧ si = .int .i64 k ∧ Below w.heap.size w wr)
  case atStart => exact ⟨0, Nat.zero_le _, rfl, rfl, Below.refl _ _⟩
  case round =>
    obtain ⟨k, hk, hg, rfl, hb⟩ := hrel
    have R : Aside (gk = l.length - k ∧ Below w.heap.size w wr) := ⟨hg, hb⟩
    clear hg hb
    by_cases hlt : k < l.length
    · obtain ⟨b, off, rfl, p0⟩ := rowT_at (V.out.1.below R.out.2) k hlt
      obtain ⟨b', off', rfl, q0⟩ := rowT_at (V.out.2.below R.out.2) k hlt
      obtain ⟨x, hx⟩ : ∃ x, x = l.getD k ⟨#[]⟩ := ⟨_, rfl⟩
      rw [← hx] at p0 q0
      clear hx
      have hlt' : (k : Int) < (l.length : Int) := by omega
      go_wp2_with fail
      go_quiet (fail)
      go_wp2_with fail
      go_roundg (l.length - (k + 1))
      case measure => have := R.out.1; omega
      case rel => exact ⟨k + 1, by omega, rfl, by go_num, R.out.2.trans ((below_drawn wr _).mono R.out.2.size)⟩
    · go_wp2_with fail
      go_ret
      exact ⟨rfl, R.out.2⟩
end Wt
end Go.Proofs.YtoocpbpdoaplgaaDoor
