/-
  NO FORM BEGINS ANOTHER.
-/
import Derived.Test.YtjnjliojkcnddaaLawBack
namespace Go.Proofs.Ytjnjliojkcnddaa
open Go.RowKit

theorem take_more (x : V) (rest : List UInt8) (most : Int) (hf : x.fits) (hn : x.norm) (hm : x.most ≤ most) : RS.take ⟨x.enc ++ rest, 0⟩ x.k most = (x, ⟨rest, 0⟩) := by
  obtain ⟨k, u, i, t⟩ := x
  obtain ⟨⟨k0, k1⟩, hu, ⟨i0, i1⟩, ht⟩ := hf
  simp only at k0 k1 hu i0 i1 ht
  unfold V.norm at hn
  simp only at hn
  unfold V.most at hm
  simp only at hm
  unfold V.enc RS.take
  simp only
  rcases hn with ⟨rfl, rfl, rfl⟩ | ⟨rfl, rfl, rfl⟩ | ⟨rfl, rfl, hi, rfl⟩ | ⟨rfl, hu2, rfl, rfl⟩ | ⟨rfl, rfl, rfl⟩ | ⟨rfl, rfl, hi, rfl⟩
  · simp only [if_true]
    rw [uint_back u rest hu]
  · have e : RS.int ⟨form (zig i) ++ rest, 0⟩ = (i, ⟨rest, 0⟩) := by
      unfold RS.int; rw [uint_back _ rest (zig_lt i i0 i1), zag_zig]
    simp [e]
  · rcases hi with rfl | rfl
    · simp [RS.bool]
    · simp [RS.bool]
  · have e : RS.byte ⟨UInt8.ofNat u :: rest, 0⟩ = (UInt8.ofNat u, ⟨rest, 0⟩) := rfl
    simp [e]
    omega
  · have hm' : (t.size : Int) ≤ most := by simpa using hm
    have e := text_back t.data.toList rest most (by rw [str_size]; omega) (by rw [str_size]; exact hm')
    rw [str_size] at e
    simp [List.append_assoc, e, list_txt]
  · obtain ⟨n, rfl⟩ : ∃ n : Nat, i = n := ⟨i.toNat, by omega⟩
    have e := count_back n rest most (by omega) (by simpa using hm)
    simp [e]
theorem enc_parts {x y : V} (r r' t : List UInt8) (hx : x.fits) (hy : y.fits) (nx : x.norm) (ny : y.norm) (hk : x.k = y.k) (h : y.enc ++ r' = x.enc ++ r ++ t) : x = y := by
  have h1 := take_more x (r ++ t) (max x.most y.most) hx nx (by omega)
  have h2 := take_more y r' (max x.most y.most) hy ny (by omega)
  rw [List.append_assoc] at h
  rw [h, ← hk, h1] at h2
  exact (Prod.mk.inj h2).1
theorem prefix_of_take {α : Type} (A B : List α) (h : A.take (min A.length B.length) = B.take (min A.length B.length)) : (∃ t, B = A ++ t) ∨ (∃ t, A = B ++ t) := by
  rcases Nat.le_total A.length B.length with q | q
  · left
    rw [Nat.min_eq_left q, List.take_length] at h
    exact ⟨B.drop A.length, by conv => lhs; rw [← List.take_append_drop A.length B, ← h]⟩
  · right
    rw [Nat.min_eq_right q, List.take_length] at h
    exact ⟨A.drop B.length, by conv => lhs; rw [← List.take_append_drop B.length A, h]⟩
theorem encs_parts {x y : V} (c r r' : List UInt8) (hx : x.fits) (hy : y.fits) (nx : x.norm) (ny : y.norm) (hk : x.k = y.k) (hne : x ≠ y) :
    ¬ (c ++ (x.enc ++ r)).take (min (c ++ (x.enc ++ r)).length (c ++ (y.enc ++ r')).length) = (c ++ (y.enc ++ r')).take (min (c ++ (x.enc ++ r)).length (c ++ (y.enc ++ r')).length) := by
  intro h
  rcases prefix_of_take _ _ h with ⟨t, ht⟩ | ⟨t, ht⟩
  · rw [List.append_assoc, List.append_cancel_left_eq] at ht
    exact hne (enc_parts r r' t hx hy nx ny hk ht)
  · rw [List.append_assoc, List.append_cancel_left_eq] at ht
    exact hne (enc_parts r' r t hy hx ny nx hk.symm ht).symm
theorem eql_yes (w : World) (x : V) : (binOp .eql 28 (.agg #[.int .i64 x.k, .int .u64 x.u, .int .i64 x.i, .string x.s]) (.agg #[.int .i64 x.k, .int .u64 x.u, .int .i64 x.i, .string x.s])).run Try.prog w = .ok (.bool true) w := by
  simp [go_sem, Program.fieldsOf, Try.underlying28]
theorem eql_no (w : World) (x y : V) (h : x ≠ y) : (binOp .eql 28 (.agg #[.int .i64 x.k, .int .u64 x.u, .int .i64 x.i, .string x.s]) (.agg #[.int .i64 y.k, .int .u64 y.u, .int .i64 y.i, .string y.s])).run Try.prog w = .ok (.bool false) w := by
  obtain ⟨k, u, i, s⟩ := x
  obtain ⟨k', u', i', s'⟩ := y
  simp [go_sem, Program.fieldsOf, Try.underlying28]
  intro h1 h2 h3 h4
  apply h
  rw [ByteArray.toList_eq, ByteArray.toList_eq] at h4
  have h5 : s = s' := by rw [← list_txt s, h4, list_txt]
  have h6 : u = u' := by exact_mod_cast h2
  rw [h1, h6, h3, h5]
theorem sm_get (xs : List V) (n j : Nat) (d : V) (h : j < (sm xs n).length) : (sm xs n).getD j d = (xs.getD j d).right ∧ j < xs.length := by
  induction xs generalizing n j with
  | nil => simp [sm] at h
  | cons y t ih =>
    rw [sm] at h ⊢
    split at h
    · simp at h
    · rename_i hle
      rw [if_neg hle]
      cases j with
      | zero => simp
      | succ j =>
        have := ih (n + 10 + y.right.s.size) j (by simpa using h)
        simpa using this
theorem Vals.take {w : World} {a : Option Addr} {n cap : Nat} {xs : List V} (H : Vals w (.slice a n cap) xs) (k : Nat) (hk : k ≤ xs.length) : Vals w (.slice a k cap) (xs.take k) := by
  obtain ⟨a', cap', e', h1, h2, h0, hc⟩ := H
  simp only [Value.slice.injEq] at e'
  obtain ⟨rfl, rfl, rfl⟩ := e'
  have hl : (xs.take k).length = k := by rw [List.length_take]; omega
  refine ⟨a, cap, by rw [hl], by omega, h2, h0, fun j hj => ?_⟩
  rw [hl] at hj
  obtain ⟨b, off, ea, h⟩ := hc j (by omega)
  refine ⟨b, off, ea, fun i y hy => h i y ?_⟩
  have e : (xs.take k).getD j ⟨0, 0, 0, ⟨#[]⟩⟩ = xs.getD j ⟨0, 0, 0, ⟨#[]⟩⟩ := by simp only [List.getD, List.getElem?_take_of_lt hj]
  rw [e] at hy; exact hy
theorem right_k' (x : V) : x.right.k = kd x.k := by
  have h := kd_bd x.k
  unfold V.right
  split
  · rename_i h; exact h.symm
  split
  · rename_i h; exact h.symm
  split
  · rename_i h; exact h.symm
  split
  · rename_i h; exact h.symm
  split
  · rename_i h; exact h.symm
  · show 5 = kd x.k; omega
theorem kd_same (k : Int) (h : 0 ≤ k ∧ k ≤ 5) : kd k = k := by
  have : k = 0 ∨ k = 1 ∨ k = 2 ∨ k = 3 ∨ k = 4 ∨ k = 5 := by omega
  rcases this with rfl | rfl | rfl | rfl | rfl | rfl <;> decide
end Go.Proofs.Ytjnjliojkcnddaa
