/-
  VALUES THAT THEIR KIND TAKES, and their bytes; a list of one value.
-/
import Derived.Test.YtmabmmmiljkeeaaVals
namespace Go.Proofs.Ytmabmmmiljkeeaa
open Go.RowKit

/-- The bytes of a value that is as its kind takes it. -/
def V.enc (x : V) : List UInt8 :=
  if x.k = 0 then form x.u else if x.k = 1 then form (zig x.i) else if x.k = 2 then [if x.i ≠ 0 then 1 else 0]
  else if x.k = 3 then [UInt8.ofNat x.u] else if x.k = 4 then form x.s.size ++ x.s.data.toList else form x.i.toNat
def V.ok (x : V) : Prop := (0 ≤ x.k ∧ x.k ≤ 5) ∧ (x.k = 5 → 0 ≤ x.i ∧ x.i ≤ 4096)
theorem put_ok (s : WS) {x : V} (h : x.ok) : s.put x = s.lay x.enc := by
  obtain ⟨⟨h1, h2⟩, h3⟩ := h
  unfold WS.put V.enc
  by_cases e0 : x.k = 0
  · rw [if_pos e0, if_pos e0]
  rw [if_neg e0, if_neg e0]
  by_cases e1 : x.k = 1
  · rw [if_pos e1, if_pos e1]
  rw [if_neg e1, if_neg e1]
  by_cases e2 : x.k = 2
  · rw [if_pos e2, if_pos e2]
  rw [if_neg e2, if_neg e2]
  by_cases e3 : x.k = 3
  · rw [if_pos e3, if_pos e3]
  rw [if_neg e3, if_neg e3]
  by_cases e4 : x.k = 4
  · rw [if_pos e4, if_pos e4]
  rw [if_neg e4, if_neg e4]
  have e5 : x.k = 5 := by omega
  rw [if_pos e5]
  unfold WS.count
  rw [if_pos (h3 e5)]
/-- The bytes of values, one behind the other. -/
def encs (xs : List V) : List UInt8 := (xs.map V.enc).flatten
theorem encs_nil : encs [] = [] := rfl
theorem encs_app (xs ys : List V) : encs (xs ++ ys) = encs xs ++ encs ys := by simp [encs]
theorem encs_one (x : V) : encs [x] = x.enc := by simp [encs]
theorem encs_cons (x : V) (xs : List V) : encs (x :: xs) = x.enc ++ encs xs := by simp [encs]
theorem puts_ok (xs : List V) (l : List UInt8) (lim : Nat) (h : ∀ x ∈ xs, x.ok) (hl : l.length + (encs xs).length ≤ lim) : xs.foldl WS.put ⟨l, lim, 0⟩ = ⟨l ++ encs xs, lim, 0⟩ := by
  induction xs generalizing l with
  | nil => simp [encs]
  | cons x xs ih =>
    rw [encs_cons, List.length_append] at hl
    rw [List.foldl_cons, put_ok _ (h x (by simp))]
    have e : (⟨l, lim, 0⟩ : WS).lay x.enc = ⟨l ++ x.enc, lim, 0⟩ := by
      unfold WS.lay; rw [if_pos rfl, if_pos (by show l.length + x.enc.length ≤ lim; omega)]
    rw [e, ih (l ++ x.enc) (fun y hy => h y (by simp [hy])) (by rw [List.length_append]; omega), encs_cons, List.append_assoc]
theorem wrt_ok (xs : List V) (h : ∀ x ∈ xs, x.ok) (hl : (encs xs).length ≤ 1048576) : wrt xs = ⟨encs xs, 1048576, 0⟩ := by
  unfold wrt; rw [puts_ok xs [] 1048576 h (by simpa using hl)]; rfl
theorem enc_len (x : V) (hf : x.fits) (_hk : x.ok) : 1 ≤ x.enc.length ∧ x.enc.length ≤ 10 + x.s.size := by
  unfold V.enc
  obtain ⟨_, hu, ⟨i0, i1⟩, hs⟩ := hf
  split
  · have := form_ten x.u hu; have := form_pos x.u; omega
  split
  · have := form_ten _ (zig_lt x.i i0 i1); have := form_pos (zig x.i); omega
  split
  · simp; omega
  split
  · simp; omega
  split
  · have := form_ten x.s.size (by omega); have := form_pos x.s.size; rw [List.length_append, str_size]; omega
  · have := form_ten x.i.toNat (by omega); have := form_pos x.i.toNat; omega

theorem one_val (w : World) (x : V) : Vals (w.alloc (.cells #[.int .i64 x.k, .int .u64 x.u, .int .i64 x.i, .string x.s] 43)) (.slice (some ⟨w.heap.size, 0, none⟩) 1 1) [x] := by
  refine ⟨_, 1, rfl, by simp, by decide, fun h => by simp at h, fun k hk => ⟨w.heap.size, 0, rfl, fun j y hy => ?_⟩⟩
  have hk' : k < 1 := hk
  obtain rfl : k = 0 := by omega
  have e : w.alloc (.cells #[.int .i64 x.k, .int .u64 x.u, .int .i64 x.i, .string x.s] 43) = w.alloc (.cells x.cells.toArray 43) := rfl
  rw [e, World.cell?_alloc_new]
  simpa using hy
/-- written of one value. -/
theorem written_one (x : V) (w : World) (hf : x.fits) (hk : x.ok) (hs : x.s.size ≤ 1048566) (v : Value) (hv : Vals w v [x]) :
    Calls Try.prog 17 #[v] w fun e w' => ∃ v', e = .returned (.tuple #[v', .bool true]) ∧ Own w.heap.size w' v' x.enc ∧ Below w.heap.size w w' := by
  have hl := (enc_len x hf hk).2
  have e : wrt [x] = ⟨x.enc, 1048576, 0⟩ := by
    have := wrt_ok [x] (fun y hy => by simp at hy; rw [hy]; exact hk) (by rw [encs_one]; omega)
    rw [encs_one] at this; exact this
  refine (written_any v [x] w hv (fun y hy => by simp at hy; rw [hy]; exact hf)).mono ?_
  rintro en w' ⟨v', rfl, ho, hb⟩
  rw [e] at ho ⊢
  exact ⟨v', rfl, ho, hb⟩
end Go.Proofs.Ytmabmmmiljkeeaa
