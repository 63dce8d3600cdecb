/-
  WHAT IS WRITTEN IS READ BACK.
-/
import Derived.Test.YtmabmmmiljkeeaaSmall2
namespace Go.Proofs.Ytmabmmmiljkeeaa
open Go.RowKit

/-- What is not the kinds is empty. -/
def V.norm (x : V) : Prop :=
  (x.k = 0 ∧ x.i = 0 ∧ x.s = ⟨#[]⟩) ∨ (x.k = 1 ∧ x.u = 0 ∧ x.s = ⟨#[]⟩) ∨ (x.k = 2 ∧ x.u = 0 ∧ (x.i = 0 ∨ x.i = 1) ∧ x.s = ⟨#[]⟩) ∨
  (x.k = 3 ∧ x.u < 256 ∧ x.i = 0 ∧ x.s = ⟨#[]⟩) ∨ (x.k = 4 ∧ x.u = 0 ∧ x.i = 0) ∨ (x.k = 5 ∧ x.u = 0 ∧ (0 ≤ x.i ∧ x.i ≤ 4096) ∧ x.s = ⟨#[]⟩)
theorem right_norm (x : V) : x.right.norm := by
  have h := kd_bd x.k
  unfold V.right
  split
  · exact Or.inl ⟨rfl, rfl, rfl⟩
  split
  · exact Or.inr (Or.inl ⟨rfl, rfl, rfl⟩)
  split
  · exact Or.inr (Or.inr (Or.inl ⟨rfl, rfl, by show x.i % 2 = 0 ∨ x.i % 2 = 1; omega, rfl⟩))
  split
  · exact Or.inr (Or.inr (Or.inr (Or.inl ⟨rfl, by show x.u % 256 < 256; omega, rfl, rfl⟩)))
  split
  · exact Or.inr (Or.inr (Or.inr (Or.inr (Or.inl ⟨rfl, rfl, rfl⟩))))
  · exact Or.inr (Or.inr (Or.inr (Or.inr (Or.inr ⟨rfl, rfl, by show 0 ≤ x.i % 8192 % 4097 ∧ x.i % 8192 % 4097 ≤ 4096; omega, rfl⟩))))
theorem sm_norm (xs : List V) (n : Nat) : ∀ x ∈ sm xs n, x.norm := by
  induction xs generalizing n with
  | nil => intro x hx; simp [sm] at hx
  | cons y t ih =>
    intro x hx
    rw [sm] at hx
    split at hx
    · simp at hx
    · rcases List.mem_cons.1 hx with rfl | hx
      · exact right_norm y
      · exact ih _ x hx

theorem num_back (n : Nat) (rest : List UInt8) (h : n < 18446744073709551616) : num (form n ++ rest) 0 = (n, (form n).length, 0) :=
  num_form n rest 0 (by decide) (by simpa using h) (fun h => by omega)
theorem uint_back (n : Nat) (rest : List UInt8) (h : n < 18446744073709551616) : RS.uint ⟨form n ++ rest, 0⟩ = (n, ⟨rest, 0⟩) := by
  unfold RS.uint
  rw [if_pos rfl]
  show ((num (form n ++ rest) 0).1, (⟨(form n ++ rest).drop (num (form n ++ rest) 0).2.1, (num (form n ++ rest) 0).2.2⟩ : RS)) = _
  rw [num_back n rest h, List.drop_left]
theorem upTo_back (n : Nat) (rest : List UInt8) (most : Int) (h : n < 18446744073709551616) (hm : (n : Int) ≤ most) : RS.upTo ⟨form n ++ rest, 0⟩ most = (n, (form n).length, 0) := by
  unfold RS.upTo
  rw [if_pos rfl]
  show (if (num (form n ++ rest) 0).2.2 = 0 then (if most < 0 ∨ most < (num (form n ++ rest) 0).1 then (0, 0, 23) else num (form n ++ rest) 0) else (0, 0, (num (form n ++ rest) 0).2.2)) = _
  rw [num_back n rest h, if_pos rfl, if_neg (by omega)]
theorem text_back (t rest : List UInt8) (most : Int) (h : t.length < 18446744073709551616) (hm : (t.length : Int) ≤ most) : RS.text ⟨form t.length ++ (t ++ rest), 0⟩ most = (t, ⟨rest, 0⟩) := by
  unfold RS.text
  rw [upTo_back t.length (t ++ rest) most h hm, if_pos rfl]
  show (if t.length ≤ (form t.length ++ (t ++ rest)).length - (form t.length).length then (((form t.length ++ (t ++ rest)).drop (form t.length).length).take t.length, (⟨(form t.length ++ (t ++ rest)).drop ((form t.length).length + t.length), 0⟩ : RS)) else ([], ⟨_, 20⟩)) = _
  rw [if_pos (by rw [List.length_append, List.length_append]; omega), List.drop_left, List.take_left, ← List.drop_drop, List.drop_left, List.drop_left]
theorem count_back (n : Nat) (rest : List UInt8) (most : Int) (h : n ≤ 4096) (hm : (n : Int) ≤ most) : RS.count ⟨form n ++ rest, 0⟩ most = (n, ⟨rest, 0⟩) := by
  unfold RS.count
  rw [upTo_back n rest (min most 4096) (by omega) (by omega)]
  show (n, (⟨(form n ++ rest).drop (form n).length, 0⟩ : RS)) = _
  rw [List.drop_left]
/-- How much a reader is told. -/
def V.most (x : V) : Int := if x.k = 5 then x.i else x.s.size
theorem take_back (x : V) (rest : List UInt8) (hf : x.fits) (hn : x.norm) : RS.take ⟨x.enc ++ rest, 0⟩ x.k x.most = (x, ⟨rest, 0⟩) := by
  obtain ⟨k, u, i, t⟩ := x
  obtain ⟨⟨k0, k1⟩, hu, ⟨i0, i1⟩, ht⟩ := hf
  simp only at k0 k1 hu i0 i1 ht
  unfold V.norm at hn
  simp only at hn
  unfold V.enc RS.take V.most
  simp only
  rcases hn with ⟨rfl, rfl, rfl⟩ | ⟨rfl, rfl, rfl⟩ | ⟨rfl, rfl, hi, rfl⟩ | ⟨rfl, hu2, rfl, rfl⟩ | ⟨rfl, rfl, rfl⟩ | ⟨rfl, rfl, hi, rfl⟩
  · simp only [if_true]
    rw [uint_back u rest hu]
  · have e : RS.int ⟨form (zig i) ++ rest, 0⟩ = (i, ⟨rest, 0⟩) := by
      unfold RS.int; rw [uint_back _ rest (zig_lt i i0 i1), zag_zig]
    simp [e]
  · rcases hi with rfl | rfl
    · simp [RS.bool]
    · simp [RS.bool]
  · have e : RS.byte ⟨UInt8.ofNat u :: rest, 0⟩ = (UInt8.ofNat u, ⟨rest, 0⟩) := rfl
    simp [e]
    omega
  · have e := text_back t.data.toList rest (t.size : Int) (by rw [str_size]; omega) (by rw [str_size]; omega)
    rw [str_size] at e
    simp [List.append_assoc, e, list_txt]
  · obtain ⟨n, rfl⟩ : ∃ n : Nat, i = n := ⟨i.toNat, by omega⟩
    have e := count_back n rest (n : Int) (by omega) (by omega)
    simp [e]
end Go.Proofs.Ytmabmmmiljkeeaa
