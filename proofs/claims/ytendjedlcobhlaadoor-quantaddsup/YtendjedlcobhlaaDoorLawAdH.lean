/-
  The law QuantAddsUp.
-/
import Derived.Test.YtendjedlcobhlaaDoorNrU
import Derived.Test.YtendjedlcobhlaaDoorKnownK
namespace Go.Proofs.YtendjedlcobhlaaDoor
open Go.RowKit Go.Lib
open Go.Sort (grow)
theorem within_lit (v u : Value) (l t : List Am) (T : ByteArray) (w : World) (hv : Row kAm w v l) (hu : Row kAm w u t) (hb : bothB l t = true) (hT : wiT l t = T) :
    Calls Tryd.prog 18 #[v, u] w fun e w' => e = .returned (.tuple #[.string T, .int .i64 0]) ∧ Below w.heap.size w w' := by
  subst hT; exact within_yes v u l t w hv hu hb
theorem minus_lit (v u : Value) (l t L : List Am) (E : Int) (k : Nat) (w : World) (hv : Row kAm w v l) (hpl : ∀ ad n c, v = .slice (some ad) n c → ∃ b off, ad = ⟨b, off, none⟩) (hu : Row kAm w u t) (hf : ∀ x ∈ l, x.v ≤ 9223372036854775807) (hft : ∀ x ∈ t, x.v ≤ 9223372036854775807) (hE : mnE l t = E) (hL : mnL l t = L) (hk : k = L.length) :
    Calls Tryd.prog 12 #[v, u] w fun e w' => ∃ a c, e = .returned (.tuple #[.slice a k c, .int .i64 E]) ∧ k ≤ c ∧ c ≤ 9223372036854775807 ∧ Row kAm w' (.slice a k c) L ∧ Below w.heap.size w w' := by
  subst hE hL hk
  refine (minus_any v u l t w hv hpl hu hf hft).mono ?_
  rintro e w' ⟨a, n, c, rfl, ho, hb⟩
  obtain ⟨a', c', e', h1, h2⟩ := (ho.row okAm).len
  simp only [Value.slice.injEq] at e'
  obtain ⟨rfl, rfl, rfl⟩ := e'
  unfold maxLen at h2
  exact ⟨a, c, rfl, h1, h2, ho.row okAm, hb⟩
theorem valid_lit (v : Value) (l : List Am) (C : Int) (w : World) (hv : Row kAm w v l) (hC : amsC l = C) : Calls Tryd.prog 16 #[v] w fun e w' => e = .returned (.int .i64 C) ∧ Below w.heap.size w w' := by
  subst hC; exact valid_any v l w hv
theorem plain_of (g n cap : Nat) : ∀ ad k c, (Value.slice (some ⟨g, 0, none⟩) n cap) = .slice (some ad) k c → ∃ b off, ad = ⟨b, off, none⟩ := by
  intro ad k c e; injection e with e; injection e with e; exact ⟨g, 0, e.symm⟩
theorem row_spare {w : World} {v : Value} {l : List Am} {n : Nat} (h : Row kAm w v l) (hn : n = l.length) : ∃ a c, v = .slice a n c ∧ n ≤ c ∧ c ≤ 9223372036854775807 := by
  obtain ⟨a, c, e, h1, h2⟩ := h.len
  unfold maxLen at h2
  exact ⟨a, c, by rw [hn]; exact e, by rw [hn]; exact h1, h2⟩

theorem notEmpty {t : ByteArray} (h : 0 < t.size) : t.toList.isEmpty = false := by
  rw [ByteArray.toList_eq]
  cases hl : t.data.toList with
  | nil => have h2 := congrArg List.length hl; simp at h2; simp [ByteArray.size, h2] at h
  | cons => rfl
theorem notNil {t : ByteArray} (h : 0 < t.size) : (t.toList == []) = false := by
  have q := notEmpty h
  cases hl : t.toList with
  | nil => rw [hl] at q; cases q
  | cons => rfl


end Go.Proofs.YtendjedlcobhlaaDoor
