/-
  The document's Long: text.
-/
import Derived.Test.YtjegjpdeclgegaaDoorLgE
import Derived.Test.YtjegjpdeclgegaaDoorBackM
namespace Go.Proofs.YtjegjpdeclgegaaDoor
open Go.RowKit Go.Lib
open Go.Sort (grow)
namespace Lg
/-- The digits from k on, highest first, as text. -/
def tx (A : List Nat) (k : Nat) : ByteArray := ⟨((A.drop k).reverse.map fun d => UInt8.ofNat (48 + d)).toArray⟩
def ten : ByteArray := ⟨#[48, 49, 50, 51, 52, 53, 54, 55, 56, 57]⟩
theorem ten_at (x : Nat) (h : x < 10) : ten.extract x (x + 1) = ⟨#[UInt8.ofNat (48 + x)]⟩ := by
  match x, h with
  | 0, _ => rfl
  | 1, _ => rfl
  | 2, _ => rfl
  | 3, _ => rfl
  | 4, _ => rfl
  | 5, _ => rfl
  | 6, _ => rfl
  | 7, _ => rfl
  | 8, _ => rfl
  | 9, _ => rfl
theorem ba_ext {a b : ByteArray} (h : a.data.toList = b.data.toList) : a = b := by
  cases a; cases b
  simp only at h
  congr 1
  exact Array.ext' h
theorem tx_step (A : List Nat) (i : Nat) (hi : i < A.length) : tx A i = tx A (i + 1) ++ ⟨#[UInt8.ofNat (48 + A.getD i 0)]⟩ := by
  apply ba_ext
  have e : A.getD i 0 = A[i] := by rw [List.getD_eq_getElem?_getD, List.getElem?_eq_getElem hi]; rfl
  unfold tx
  rw [List.drop_eq_getElem_cons hi, List.reverse_cons, List.map_append, e, ByteArray.data_append, Array.toList_append]
  rfl
theorem tx_end (A : List Nat) (k : Nat) (h : A.length ≤ k) : tx A k = ⟨#[]⟩ := by unfold tx; rw [List.drop_eq_nil_of_le h]; rfl
theorem tx_size (A : List Nat) (k : Nat) : (tx A k).size ≤ A.length := by
  unfold tx
  simp [ByteArray.size]
theorem tx_dig (p : Nat) (hp : 0 < p) : tx (dg p) 0 = dig p := by
  apply ba_ext
  unfold tx dig
  simp only [List.drop_zero]
  induction p using Nat.strongRecOn with
  | ind p ih =>
    rw [decDigits]
    split
    · rename_i h
      rw [dg_pos hp, Nat.div_eq_of_lt h, dg_zero]
      simp [Nat.mod_eq_of_lt h]
    · rename_i h
      have q := ih (p / 10) (by omega) (by omega)
      rw [dg_pos hp]
      simp only [List.reverse_cons, List.map_append] at q ⊢
      simp at q ⊢
      exact q
set_option maxHeartbeats 4000000 in
set_option maxRecDepth 100000 in
theorem text_any (a : Option Addr) (n c : Nat) (p : Nat) (w : World) (hv : Row kI w (.slice a n c) (dg p)) (hn : n ≤ 1000) :
    Calls Tryd.prog 13 #[.agg #[.slice a n c]] w fun e w' => e = .returned (.string (dig p)) ∧ Below w.heap.size w w' := by
  have V := Lib.hid hv
  have HN : Hid (n = (dg p).length) := Lib.hid (by obtain ⟨_, _, e, _⟩ := hv.len; simp only [Value.slice.injEq] at e; exact e.2.1)
  obtain ⟨A, hA⟩ : ∃ A, A = dg p := ⟨_, rfl⟩
  have DD : Hid (Dgs A ∧ A = dg p) := Lib.hid (by rw [hA]; exact ⟨dgs_dg _, rfl⟩)
  rw [← hA] at V HN
  obtain ⟨W1, hW1⟩ : ∃ W, W = w.alloc (.cells #[.slice a n c] 40) := ⟨_, rfl⟩
  have F1 : Hid (W1.heap.size = w.heap.size + 1 ∧ Below w.heap.size w W1 ∧ W1.heap[w.heap.size]? = some (.cells #[.slice a n c] 40 (0, 0))) := Lib.hid (by
    subst hW1
    exact ⟨by simp, (Below.refl _ w).alloc (Nat.le_refl _) _, heap_alloc_new _ _⟩)
  have EW := Lib.hid hW1
  obtain ⟨D, hD⟩ : ∃ D, D = dig p := ⟨_, rfl⟩
  rw [← hD]
  have HD := Lib.hid hD
  clear hA hv hW1 hD
  rcases Nat.eq_zero_or_pos n with h0 | h0
  · subst h0
    have E0 : Hid (D = ⟨#[48]⟩) := Lib.hid (by
      have e : dg p = [] := by rw [← DD.out.2]; exact List.length_eq_zero_iff.1 HN.out.symm
      have e2 : p = 0 := by have := vl_dg p; rw [e] at this; exact this.symm
      rw [HD.out, e2]; simp [dig, decDigits])
    go_enter Tryd.func13, Tryd.ntmps13
    go_wp2_with fail
    rw [← EW.out]
    go_ret
    exact ⟨by rw [E0.out]; rfl, F1.out.2.1⟩
  · have g0 : ((n : Int) == 0) = false := by rw [beq_eq_false_iff_ne]; omega
    have ED : Hid (tx A 0 = D) := Lib.hid (by
      rw [HD.out, DD.out.2]
      refine tx_dig p ?_
      rcases Nat.eq_zero_or_pos p with z | z
      · exfalso
        have q := HN.out
        rw [DD.out.2, z, dg_zero] at q
        simp at q; omega
      · exact z)
    go_enter Tryd.func13, Tryd.ntmps13
    go_wp2_with fail
    rw [← EW.out]
    clear EW
    go_loopg [3, 4] n (fun g ss si wr => ∃ (k : Nat), g = k ∧ k ≤ n ∧ si = .int .i64 ((k : Int) - 1) ∧ ss = .string (tx A k) ∧ Below (w.heap.size + 1) W1 wr)
    case atStart => exact ⟨n, rfl, Nat.le_refl _, by first | rfl | (congr 1; unfold wrap64; omega), by rw [tx_end A n (by rw [← HN.out]; exact Nat.le_refl _)], Below.refl _ _⟩
    case round =>
      obtain ⟨k, hg, hk, rfl, rfl, hb⟩ := hrel
      have R : Hid (gk = k ∧ Below (w.heap.size + 1) W1 wr) := Lib.hid ⟨hg, hb⟩
      clear hg hb
      have BW : Hid (Below w.heap.size w wr) := Lib.hid (F1.out.2.1.trans (R.out.2.mono (Nat.le_succ _)))
      rcases Nat.eq_zero_or_pos k with hk0 | hk0
      · subst hk0
        have gz : decide (((0 : Nat) : Int) - 1 ≥ 0) = false := by decide
        rw [ED.out]
        go_wp2_with fail
        go_ret
        exact ⟨rfl, BW.out⟩
      · obtain ⟨i, rfl⟩ : ∃ i, k = i + 1 := ⟨k - 1, by omega⟩
        have ei : (((i + 1 : Nat) : Int) - 1) = (i : Int) := by omega
        rw [ei]
        clear ei
        have gi : decide ((i : Int) ≥ 0) = true := decide_eq_true (by omega)
        have hin : (i : Int) < (n : Int) := by omega
        obtain ⟨b, off, rfl, c0⟩ := Row.one (V.out.below BW.out) i (by rw [← HN.out]; omega)
        obtain ⟨x, hx⟩ : ∃ x, x = A.getD i 0 := ⟨_, rfl⟩
        have hx9 : x < 10 := by rw [hx]; exact getD_lt DD.out.1 i
        rw [← hx] at c0
        obtain ⟨T, hT⟩ : ∃ T, T = tx A (i + 1) := ⟨_, rfl⟩
        have TS : T.size ≤ 1000 := by rw [hT]; have := tx_size A (i + 1); have := HN.out; omega
        rw [← hT]
        have NX : Hid (tx A i = T ++ ⟨#[UInt8.ofNat (48 + x)]⟩) := Lib.hid (by rw [hT, hx]; exact tx_step A i (by rw [← HN.out]; omega))
        have ex : ten.extract x (x + 1) = ⟨#[UInt8.ofNat (48 + x)]⟩ := ten_at x hx9
        unfold ten at ex
        have p0 := cell1 ((R.out.2.block _ (Nat.lt_succ_self _)).trans F1.out.2.2)
        have r0 : ∀ (dq : Nat) (os : Array Obj), (grow (redrawn wr dq) os).cell? ⟨w.heap.size, 0, none⟩ = some (.slice (some ⟨b, off, none⟩) n c) := fun dq os => cell_regrown p0 dq os
        have r1 : ∀ (dq : Nat) (os : Array Obj), (grow (redrawn wr dq) os).cell? ⟨b, off + i, none⟩ = some (.int .i64 (x : Int)) := fun dq os => cell_regrown c0 dq os
        have e1 : IntKind.i64.wrap ((x : Int) + 1) = (x : Int) + 1 := by simp [IntKind.wrap, IntKind.bits, IntKind.signed]; omega
        have hs1 : (x : Int) ≤ (x : Int) + 1 := by omega
        have hs2 : (x : Int) + 1 ≤ 10 := by omega
        have hsum : T.size + 1 ≤ 9223372036854775807 := by omega
        clear hx hT
        go_wp2_with fail
        refine wp_region_quiet_below (by kernel_rfl) (by kernel_rfl) ?_
        repeat (go_big_quiet_step (fail))
        refine wpQuiet_nil ?_
        rintro _ ⟨⟨dq, osq⟩, hw''⟩
        subst hw''
        have QB := below_regrown wr dq osq
        obtain ⟨W5, hW5⟩ : ∃ W, W = grow (redrawn wr dq) osq := ⟨_, rfl⟩
        rw [← hW5] at QB ⊢
        have S5 : Hid (Below (w.heap.size + 1) W1 W5) := Lib.hid (R.out.2.trans (QB.mono (by have q := R.out.2.size; rw [F1.out.1] at q; exact q)))
        clear hW5 QB r0 r1 p0 c0
        go_wp2_with fail
        go_roundg i
        case measure => have := R.out.1; omega
        case rel => exact ⟨i, rfl, by omega, by first | rfl | (congr 1; unfold wrap64; omega), by rw [NX.out]; first | rfl | (congr 3; simp) | simp, S5.out⟩
end Lg
end Go.Proofs.YtjegjpdeclgegaaDoor
