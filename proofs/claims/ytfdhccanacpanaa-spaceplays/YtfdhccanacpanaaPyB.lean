/-
  New of whatever sizes; two pairs side by side.
-/
import Derived.Test.YtfdhccanacpanaaPyA
namespace Go.Proofs.Ytfdhccanacpanaa
open Go.RowKit
/-- The sizes that New takes. -/
def NewOk (n m : Int) (t : List Int) : Prop := 0 ≤ n ∧ n ≤ 4096 ∧ 0 ≤ m ∧ m ≤ n ∧ Ris m n t
theorem new_all (n m : Int) (v : Value) (t : List Int) (w : World) (hv : Ints w v t) (ht : ∀ x ∈ t, -9223372036854775808 ≤ x ∧ x < 9223372036854775808) :
    Calls Try.prog 11 #[.int .i64 n, .int .i64 m, v] w fun e w' =>
      (NewOk n m t → ∃ d s, e = .returned (.tuple #[.pointer (some ⟨d, 0, none⟩), .int .i64 0]) ∧ Sp w.heap.size w' d s m.toNat (mkS m.toNat (n - m).toNat t)) ∧
      (¬ NewOk n m t → e = .returned (.tuple #[.pointer none, .int .i64 1])) ∧ Below w.heap.size w w' := by
  by_cases h : 0 ≤ n ∧ n ≤ 4096 ∧ 0 ≤ m ∧ m ≤ n
  · obtain ⟨h1, h2, h3, h4⟩ := h
    obtain ⟨f, hf⟩ : ∃ f : Nat, m = f := ⟨m.toNat, by omega⟩
    obtain ⟨k, hk⟩ : ∃ k : Nat, n = (f : Int) + k := ⟨(n - f).toNat, by omega⟩
    subst hf hk
    have e1 : (f : Int).toNat = f := by omega
    have e2 : ((f : Int) + (k : Int) - (f : Int)).toNat = k := by omega
    have e3 : ((f + k : Nat) : Int) = (f : Int) + (k : Int) := by omega
    rw [e1, e2]
    refine (new_any f k v t w (by omega) hv ht _ rfl).mono ?_
    rintro e w' ⟨q1, q2, q3⟩
    rw [e3] at q1 q2
    refine ⟨fun hk => ?_, fun hk => q2 fun hr => hk ⟨h1, h2, h3, h4, hr⟩, q3⟩
    obtain ⟨r1, r2⟩ := q1 hk.2.2.2.2
    exact ⟨_, _, r1, r2⟩
  · refine (new_bad n m v w (by omega)).mono ?_
    rintro e w' ⟨q1, rfl⟩
    exact ⟨fun hk => absurd ⟨hk.1, hk.2.1, hk.2.2.1, hk.2.2.2.1⟩ h, fun _ => q1, Below.refl _ _⟩
theorem rnew_all (n m : Int) (v : Value) (t : List Int) (w : World) (hv : Ints w v t) (ht : ∀ x ∈ t, -9223372036854775808 ≤ x ∧ x < 9223372036854775808) :
    Calls Try.prog 22 #[.int .i64 n, .int .i64 m, v] w fun e w' =>
      (NewOk n m t → ∃ d vw vn, e = .returned (.tuple #[.pointer (some ⟨d, 0, none⟩), .int .i64 0]) ∧ Rs w.heap.size w' d m.toNat vw vn (mkS m.toNat (n - m).toNat t)) ∧
      (¬ NewOk n m t → e = .returned (.tuple #[.pointer none, .int .i64 1])) ∧ Below w.heap.size w w' := by
  by_cases h : 0 ≤ n ∧ n ≤ 4096 ∧ 0 ≤ m ∧ m ≤ n
  · obtain ⟨h1, h2, h3, h4⟩ := h
    obtain ⟨f, hf⟩ : ∃ f : Nat, m = f := ⟨m.toNat, by omega⟩
    obtain ⟨k, hk⟩ : ∃ k : Nat, n = ((f + k : Nat) : Int) := ⟨(n - f).toNat, by omega⟩
    subst hf hk
    have e1 : (f : Int).toNat = f := by omega
    have e2 : (((f + k : Nat) : Int) - (f : Int)).toNat = k := by omega
    rw [e1, e2]
    refine (rnew_any f k v t w (by omega) hv ht _ rfl).mono ?_
    rintro e w' ⟨q1, q2, q3⟩
    refine ⟨fun hk => ?_, fun hk => q2 fun hr => hk ⟨h1, h2, h3, h4, hr⟩, q3⟩
    exact q1 hk.2.2.2.2
  · refine (rnew_bad n m v w (by omega)).mono ?_
    rintro e w' ⟨q1, rfl⟩
    exact ⟨fun hk => absurd ⟨hk.1, hk.2.1, hk.2.2.1, hk.2.2.2.1⟩ h, fun _ => q1, Below.refl _ _⟩
variable {B : Nat} {w w' : World} {d s e f d' s' e' f' : Nat} {l l' : List UInt8}
/-- A step on one pair leaves the other. -/
theorem Pr.other (h : Pr B w d s e f l) (h2 : Pr B w d' s' e' f' l') (hs : s' ≠ s) (he : e' ≠ e) (K : Kept (fun k => k = s ∨ k = e) w w') : Pr B w' d' s' e' f' l' := by
  obtain ⟨vw, vn, r⟩ := h.rs
  obtain ⟨vw', vn', r'⟩ := h2.rs
  refine ⟨h2.sp.kept K ?_ ?_, vw', vn', r'.kept K ?_ ?_⟩
  · rintro (q | q)
    · have := h2.sp.self; rw [q, h.sp.sts] at this; simp at this
    · have := h2.sp.self; rw [q, r.self] at this; simp at this
  · rintro (q | q)
    · exact hs q
    · have := h2.sp.sts; rw [q, r.self] at this; simp at this
  · rintro (q | q)
    · have := r'.self; rw [q, h.sp.sts] at this; simp at this
    · exact he q
  · rintro k (q | q) cur hc
    · rw [q, h.sp.sts] at hc; simp at hc
    · rw [q, r.self] at hc; simp at hc
theorem Pr.trans {w0 : World} (h : Pr w0.heap.size w d s e f l) (b : Below w0.heap.size w0 w) (K : Kept (fun k => k = s ∨ k = e) w w') : Below w0.heap.size w0 w' := by
  obtain ⟨vw, vn, r⟩ := h.rs
  refine b.trans (K.below b.size ?_)
  rintro x (q | q)
  · rw [q]; exact h.sp.b2
  · rw [q]; exact r.b1
/-- Numbers behind nothing, as one step of a region that draws its order. -/
theorem step_app_nil {ops : Array Oper} {o : Oper} {a : Act} {w : World} {K : Act → World → Prop} {Q : Exit → Act → World → Prop} {E : Prop} (hgd : o.guard = none) (so x : Operand)
    (ho : o.op = .call { callee := .builtin .append, args := #[so, x], argTypes := #[27, 27] })
    {u : Value} {q : List Int} (hs : a.eval so = .slice none 0 0) (hx : a.eval x = u) (hu : Ints w u q) (hl : q.length ≤ 17592186044416) (t : Nat) (hd : o.dst = some t)
    (h : ∀ a' n' c' w', OwnI w.heap.size w' (.slice a' n' c') q ∧ Below w.heap.size w w' → K (a.put (some t) (.slice a' n' c')) w') :
    if Region.wanted o (yielded ops a.tmps) = true then Oper.wp Try.prog o a w K Q else E := by
  rw [← hd] at h
  have hw : Region.wanted o (yielded ops a.tmps) = true := by simp [Region.wanted, hgd]
  rw [if_pos hw]
  have hown := OwnI.nil w.heap.size w
  obtain ⟨i0, hi, hz0, hz1, hz2⟩ := info_parts info_int
  obtain ⟨ad, cap, rfl, hlc, hcm, hn, hc⟩ := hu
  cases ad with
  | none =>
    obtain rfl := hn rfl
    obtain rfl : q = [] := by simpa using hlc
    have hrun := run_append_owned_none (P := Try.prog) (w := w) w.heap.size 27 o.type 3 i0 1 Try.underlying27 hi (.slice none 0 0) 0 [] hown
    unfold Oper.wp execOp
    simp only [ho, resolve, invoke, builtin, Sem.run_bind, Sem.run_pure, Result.andThen_ok, List.map_toArray, List.map_cons, List.map_nil, hs, hx]
    simp only [List.length_nil]
    rw [hrun]
    exact h none 0 0 w ⟨hown, Below.refl _ _⟩
  | some ad =>
    obtain ⟨v', w', hr, h2, h3, _, h5⟩ := run_append_own_at (P := Try.prog) w w.heap.size 27 o.type 3 i0 (.int .i64 0) 1 8 Try.underlying27 hi hz0 hz1 hz2 rfl (by decide) (.slice none 0 0) 0 [] hown ad q.length cap (cellsI q) (by rw [cellsI_length, Nat.mul_one]) (newsI hc) (cellsI_one q) (by unfold maxLen; omega) (by omega) (Nat.le_refl _)
    unfold Oper.wp execOp
    simp only [ho, resolve, invoke, builtin, Sem.run_bind, Sem.run_pure, Result.andThen_ok, List.map_toArray, List.map_cons, List.map_nil, hs, hx, hr]
    have o2 : OwnI w.heap.size w' v' q := by
      have : w'.ownsRow w.heap.size 3 1 v' (0 + q.length) ([] ++ cellsI q) := h2
      rw [Nat.zero_add, List.nil_append] at this
      exact this
    obtain ⟨a7, n7, c7, rfl⟩ := slice_of o2
    exact h a7 n7 c7 w' ⟨o2, (Below.refl _ _).grown h3 (Nat.le_refl _) fun k hk => by simp [Value.ownBlock] at hk⟩
/-- What came in as a Size. -/
structure SzD where
  n : Int
  m : Int
  u : Value
  t : List Int
def SzD.cells (z : SzD) : Array Value := #[.int .i64 z.n, .int .i64 z.m, z.u]
def Sz (w : World) (v : Value) (z : SzD) : Prop := v = .agg z.cells ∧ Ints w z.u z.t ∧ (∀ x ∈ z.t, -9223372036854775808 ≤ x ∧ x < 9223372036854775808)
end Go.Proofs.Ytfdhccanacpanaa
