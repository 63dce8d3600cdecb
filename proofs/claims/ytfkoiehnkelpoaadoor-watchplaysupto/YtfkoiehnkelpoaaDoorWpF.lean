/-
  Two hubs beside one another: the program's and the document's; a step with them, as data.
-/
import Derived.Test.YtfkoiehnkelpoaaDoorWpD
import Derived.Test.YtfkoiehnkelpoaaDoorWpE
import Derived.Test.YtfkoiehnkelpoaaDoorWtL
namespace Go.Proofs.YtfkoiehnkelpoaaDoor
open Go.RowKit
namespace Wt
/-- A step: its list is a slice. -/
structure Op where
  k : Int
  l : Sl
  n : Int
  p : ByteArray
  m : Int
def Op.val (o : Op) : Value := .agg #[.int .i64 o.k, o.l.v, .int .i64 o.n, .string o.p, .int .i64 o.m]
/-- The blocks of both hubs. -/
def BF (g : Nat) (v : Value) (k : Nat) (u : Value) (x : Nat) : Prop := HF g v x ∨ HF k u x
/-- Both hubs hold the same. -/
structure Bt (w0 w : World) (g : Nat) (v : Value) (k : Nat) (u : Value) (s : St) : Prop where
  h : Hb w g v s
  r : Rb w k u s
  ok : s.Ok
  z : ∀ e ∈ s.es, rightB e = true
  ap : ∀ x, HF g v x → ¬ HF k u x
  lo : ∀ x, BF g v k u x → w0.heap.size ≤ x
  be : Below w0.heap.size w0 w
/-- A step has turned them alone. -/
def Bd (w0 w : World) (g : Nat) (v : Value) (k : Nat) (u : Value) (v' u' : Value) (s : St) (w' : World) : Prop :=
  Bt w0 w' g v' k u' s ∧ Kept (BF g v k u) w w' ∧ ∀ x, BF g v' k u' x → BF g v k u x ∨ w.heap.size ≤ x
section
variable {w0 w w' : World} {g k : Nat} {v u : Value} {s : St}
theorem Rb.lt (h : Rb w g v s) : ∀ k, HF g v k → k < w.heap.size := fun k hk => by
  rcases hk with q | q
  · rw [q]; exact lt_of_some h.hb
  · exact (h.row.lt k q.symm).2
theorem Bt.lt (h : Bt w0 w g v k u s) : ∀ x, BF g v k u x → x < w.heap.size := fun x hx => by
  rcases hx with q | q
  · exact h.h.lt x q
  · exact h.r.lt x q
theorem Bt.kept {F : Nat → Prop} (h : Bt w0 w g v k u s) (hk : Kept F w w') (h1 : ∀ x, BF g v k u x → ¬ F x) (h2 : ∀ x, F x → w0.heap.size ≤ x) : Bt w0 w' g v k u s :=
  ⟨h.h.kept hk fun x q => h1 x (.inl q), h.r.kept hk fun x q => h1 x (.inr q), h.ok, h.z, h.ap, h.lo, h.be.trans (hk.below h.be.size h2)⟩
theorem Bt.below (h : Bt w0 w g v k u s) (hb : Below w.heap.size w w') : Bt w0 w' g v k u s :=
  h.kept (Below.kept hb (fun _ => False)) (fun _ _ q => q) (fun _ q => q.elim)
theorem Bt.same (h : Bt w0 w g v k u s) (hb : Below w.heap.size w w') : Bd w0 w g v k u v u s w' :=
  ⟨h.below hb, Below.kept hb _, fun _ q => .inl q⟩
theorem Bt.hz (h : Bt w0 w g v k u s) : ∀ e ∈ s.es, e.p.size ≤ 1048576 := fun e he => by
  have := (right_sizes (h.z e he)).1; omega
theorem Bd.trans {w'' : World} {v' u' v'' u'' : Value} {s' : St} (h : Bd w0 w g v k u v' u' s w') (h2 : Bd w0 w' g v' k u' v'' u'' s' w'') : Bd w0 w g v k u v'' u'' s' w'' :=
  ⟨h2.1, h.2.1.trans h2.2.1 (fun x hx q => by
    rcases h.2.2 x q with c | c
    · exact c
    · omega), fun x q => by
    rcases h2.2.2 x q with c | c
    · exact h.2.2 x c
    · have := h.2.1.size; exact .inr (by omega)⟩
theorem Bd.below {w'' : World} {v' u' : Value} (h : Bd w0 w g v k u v' u' s w') (hb : Below w'.heap.size w' w'') : Bd w0 w g v k u v' u' s w'' := h.trans (h.1.same hb)
/-- Other blocks, drawn since w, may be turned. -/
theorem Bd.kept {w'' : World} {v' u' : Value} {F : Nat → Prop} (h : Bd w0 w g v k u v' u' s w') (hk : Kept F w' w'') (h1 : ∀ x, BF g v' k u' x → ¬ F x) (h2 : ∀ x, F x → w.heap.size ≤ x) (h3 : w0.heap.size ≤ w.heap.size) : Bd w0 w g v k u v' u' s w'' :=
  ⟨h.1.kept hk h1 (fun x q => Nat.le_trans h3 (h2 x q)), h.2.1.trans hk (fun x hx q => by have := h2 x q; omega), h.2.2⟩
theorem Ps.kept {l : List Ev} (h : Ps w g v s l w') : Kept (HF g v) w w' := by
  by_cases q : pushE s l = 0
  · obtain ⟨v', s', _, hd⟩ := h.2 q
    exact hd.2.1
  · exact Below.kept (h.1 q) _
theorem Rs.kept {l : List Ev} (h : Rs w g s l w') : Kept (fun x => x = g) w w' := by
  by_cases q : pushE s l = 0
  · obtain ⟨v', s', _, _, _, hk⟩ := h.2 q
    exact hk
  · exact Below.kept (h.1 q) _
/-- Push on both. -/
theorem Bt.push {l : List Ev} {w1 w2 : World} (h : Bt w0 w g v k u s) (h1 : Ps w g v s l w1) (h2 : Rs w1 k s l w2) : ∃ v' u' s', Bd w0 w g v k u v' u' s' w2 := by
  have hne : ∀ x, HF g v x → x ≠ k := fun x q e => h.ap x q (.inl e)
  by_cases q : pushE s l = 0
  · obtain ⟨v', s1, kp1, hd⟩ := h1.2 q
    obtain ⟨u', s2, kp2, hr, hn, hk2⟩ := h2.2 q
    have e := kp_one kp1 kp2
    subst e
    have hz := pushE_zero q
    have hok := kp1.ok h.ok (by have := h.ok.b; omega) (fun e he => (hz.2 e he).1)
    have hk1 := hd.2.1
    have hsz := hk1.size
    have hv' : ∀ x, HF g v' x → HF g v x ∨ w.heap.size ≤ x := fun x c => by
      rcases c with c | c
      · exact .inl (.inl c)
      · rcases hd.2.2 x c with d | d
        · exact .inl (.inr d)
        · exact .inr d
    have hkv : ∀ x, HF g v' x → x ≠ k := fun x c e => by
      rcases hv' x c with d | d
      · exact hne x d e
      · have := h.r.lt k (.inl rfl); omega
    have hH : Hb w2 g v' s1 := hd.1.kept hk2 fun x c e => hkv x c e
    have hks : Kept (BF g v k u) w w2 := (hk1.mono fun x _ c => .inl c).trans hk2 fun x _ c => .inr (.inl c)
    have hnew : ∀ x, BF g v' k u' x → BF g v k u x ∨ w.heap.size ≤ x := fun x c => by
      rcases c with c | c
      · rcases hv' x c with d | d
        · exact .inl (.inl d)
        · exact .inr d
      · rcases c with c | c
        · exact .inl (.inr (.inl c))
        · have := hn x c.symm; exact .inr (by omega)
    refine ⟨v', u', s1, ⟨hH, hr, hok, ?_, ?_, ?_, ?_⟩, hks, hnew⟩
    · intro e he
      rw [kp1.es] at he
      rcases List.mem_append.1 (List.mem_filter.1 he).1 with c | c
      · exact h.z e c
      · exact (hz.2 e c).2
    · intro x c d
      rcases d with d | d
      · exact hkv x c d
      · have h3 := hn x d.symm
        have := hd.1.lt x c
        omega
    · intro x c
      rcases hnew x c with d | d
      · exact h.lo x d
      · have := h.be.size; omega
    · exact h.be.trans (hks.below h.be.size fun x c => h.lo x c)
  · have hb := (h1.1 q).trans ((h2.1 q).mono (h1.1 q).size)
    exact ⟨v, u, s, h.same hb⟩
theorem Gl.of {m : Ev} (hG : Gl m w0) (h : Bt w0 w g v k u s) : Gl m w := hG.below h.be
end
end Wt
end Go.Proofs.YtfkoiehnkelpoaaDoor
