/-
  FOUR WRITERS SIDE BY SIDE; the walk of PackWrites.
-/
import Derived.Test.YtjnjliojkcnddabRefW4
import Derived.Test.YtjnjliojkcnddabFix
namespace Go.Proofs.Ytjnjliojkcnddab
open Go.RowKit

/-- No block is of both. -/
def Dis (g : Nat) (v : Value) (g' : Nat) (v' : Value) : Prop := ∀ k, WF g v k → ¬ WF g' v' k
theorem Dis.symm {g g' : Nat} {v v' : Value} (h : Dis g v g' v') : Dis g' v' g v := fun k h1 h2 => h k h2 h1
theorem Dis.after {g g' : Nat} {v v1 v' : Value} {w : World} (h : Dis g v g' v') (ha : At v v1 w) (hl : ∀ k, WF g' v' k → k < w.heap.size) : Dis g v1 g' v' := fun k h1 h2 => by
  rcases h1 with h1 | h1
  · exact h k (Or.inl h1) h2
  · rcases ha k h1 with q | q
    · exact h k (Or.inr q) h2
    · have := hl k h2; omega
theorem Dis.fresh {g g' : Nat} {v' : Value} {w : World} (hg : g = w.heap.size) (hl : ∀ k, WF g' v' k → k < w.heap.size) : Dis g (.slice none 0 0) g' v' := fun k h1 h2 => by
  have := hl k h2
  rcases h1 with h1 | h1
  · omega
  · simp [Value.ownBlock] at h1
theorem WAt.flt {B : Nat} {w : World} {g : Nat} {v : Value} {s : WS} (h : WAt B w g v s) : ∀ k, WF g v k → k < w.heap.size := fun k hk => (h.foot k hk).2
theorem XAt.flt {B : Nat} {w : World} {g : Nat} {v : Value} {s : WS} (h : XAt B w g v s) : ∀ k, WF g v k → k < w.heap.size := fun k hk => (h.foot k hk).2
structure Quad (B : Nat) (w : World) (ga : Nat) (va : Value) (gb : Nat) (vb : Value) (gx : Nat) (vx : Value) (gy : Nat) (vy : Value) (sa sb sx sy : WS) : Prop where
  a : WAt B w ga va sa
  b : WAt B w gb vb sb
  x : XAt B w gx vx sx
  y : XAt B w gy vy sy
  ab : Dis ga va gb vb
  ax : Dis ga va gx vx
  ay : Dis ga va gy vy
  bx : Dis gb vb gx vx
  d_by : Dis gb vb gy vy
  xy : Dis gx vx gy vy
theorem Quad.below {B : Nat} {w w2 : World} {ga gb gx gy : Nat} {va vb vx vy : Value} {sa sb sx sy : WS} (h : Quad B w ga va gb vb gx vx gy vy sa sb sx sy) (hb : Below w.heap.size w w2) : Quad B w2 ga va gb vb gx vx gy vy sa sb sx sy :=
  ⟨h.a.below hb, h.b.below hb, h.x.below hb, h.y.below hb, h.ab, h.ax, h.ay, h.bx, h.d_by, h.xy⟩
theorem Quad.le {B : Nat} {w : World} {ga gb gx gy : Nat} {va vb vx vy : Value} {sa sb sx sy : WS} (h : Quad B w ga va gb vb gx vx gy vy sa sb sx sy) : B ≤ w.heap.size := Nat.le_trans h.a.1 (Nat.le_of_lt h.a.lt)
theorem Quad.laya {B : Nat} {w w2 : World} {ga gb gx gy : Nat} {va vb vx vy : Value} {sa sb sx sy : WS} {s' : WS} (h : Quad B w ga va gb vb gx vx gy vy sa sb sx sy) (hl : Laid B ga va s' w w2) : ∃ u, Quad B w2 ga u gb vb gx vx gy vy s' sb sx sy := by
  obtain ⟨u, h1, h2, h3⟩ := hl
  exact ⟨u, h1, h.b.kept h2 (fun k hk hf => h.ab.symm k hk hf), h.x.kept h2 (fun k hk hf => h.ax.symm k hk hf), h.y.kept h2 (fun k hk hf => h.ay.symm k hk hf), h.ab.after h3 h.b.flt, h.ax.after h3 h.x.flt, h.ay.after h3 h.y.flt, h.bx, h.d_by, h.xy⟩
theorem Quad.newa {B : Nat} {w w2 : World} {ga gb gx gy : Nat} {va vb vx vy : Value} {sa sb sx sy : WS} {s' : WS} {g : Nat} (h : Quad B w ga va gb vb gx vx gy vy sa sb sx sy) (hg : g = w.heap.size) (hn : WAt B w2 g (.slice none 0 0) s') (hb : Below w.heap.size w w2) : Quad B w2 g (.slice none 0 0) gb vb gx vx gy vy s' sb sx sy :=
  ⟨hn, h.b.below hb, h.x.below hb, h.y.below hb, Dis.fresh hg h.b.flt, Dis.fresh hg h.x.flt, Dis.fresh hg h.y.flt, h.bx, h.d_by, h.xy⟩
theorem Quad.layb {B : Nat} {w w2 : World} {ga gb gx gy : Nat} {va vb vx vy : Value} {sa sb sx sy : WS} {s' : WS} (h : Quad B w ga va gb vb gx vx gy vy sa sb sx sy) (hl : Laid B gb vb s' w w2) : ∃ u, Quad B w2 ga va gb u gx vx gy vy sa s' sx sy := by
  obtain ⟨u, h1, h2, h3⟩ := hl
  exact ⟨u, h.a.kept h2 (fun k hk hf => h.ab k hk hf), h1, h.x.kept h2 (fun k hk hf => h.bx.symm k hk hf), h.y.kept h2 (fun k hk hf => h.d_by.symm k hk hf), (h.ab.symm.after h3 h.a.flt).symm, h.ax, h.ay, h.bx.after h3 h.x.flt, h.d_by.after h3 h.y.flt, h.xy⟩
theorem Quad.newb {B : Nat} {w w2 : World} {ga gb gx gy : Nat} {va vb vx vy : Value} {sa sb sx sy : WS} {s' : WS} {g : Nat} (h : Quad B w ga va gb vb gx vx gy vy sa sb sx sy) (hg : g = w.heap.size) (hn : WAt B w2 g (.slice none 0 0) s') (hb : Below w.heap.size w w2) : Quad B w2 ga va g (.slice none 0 0) gx vx gy vy sa s' sx sy :=
  ⟨h.a.below hb, hn, h.x.below hb, h.y.below hb, (Dis.fresh hg h.a.flt).symm, h.ax, h.ay, Dis.fresh hg h.x.flt, Dis.fresh hg h.y.flt, h.xy⟩
theorem Quad.layx {B : Nat} {w w2 : World} {ga gb gx gy : Nat} {va vb vx vy : Value} {sa sb sx sy : WS} {s' : WS} (h : Quad B w ga va gb vb gx vx gy vy sa sb sx sy) (hl : LaidX B gx vx s' w w2) : ∃ u, Quad B w2 ga va gb vb gx u gy vy sa sb s' sy := by
  obtain ⟨u, h1, h2, h3⟩ := hl
  exact ⟨u, h.a.kept h2 (fun k hk hf => h.ax k hk hf), h.b.kept h2 (fun k hk hf => h.bx k hk hf), h1, h.y.kept h2 (fun k hk hf => h.xy.symm k hk hf), h.ab, (h.ax.symm.after h3 h.a.flt).symm, h.ay, (h.bx.symm.after h3 h.b.flt).symm, h.d_by, h.xy.after h3 h.y.flt⟩
theorem Quad.newx {B : Nat} {w w2 : World} {ga gb gx gy : Nat} {va vb vx vy : Value} {sa sb sx sy : WS} {s' : WS} {g : Nat} (h : Quad B w ga va gb vb gx vx gy vy sa sb sx sy) (hg : g = w.heap.size) (hn : XAt B w2 g (.slice none 0 0) s') (hb : Below w.heap.size w w2) : Quad B w2 ga va gb vb g (.slice none 0 0) gy vy sa sb s' sy :=
  ⟨h.a.below hb, h.b.below hb, hn, h.y.below hb, h.ab, (Dis.fresh hg h.a.flt).symm, h.ay, (Dis.fresh hg h.b.flt).symm, h.d_by, Dis.fresh hg h.y.flt⟩
theorem Quad.layy {B : Nat} {w w2 : World} {ga gb gx gy : Nat} {va vb vx vy : Value} {sa sb sx sy : WS} {s' : WS} (h : Quad B w ga va gb vb gx vx gy vy sa sb sx sy) (hl : LaidX B gy vy s' w w2) : ∃ u, Quad B w2 ga va gb vb gx vx gy u sa sb sx s' := by
  obtain ⟨u, h1, h2, h3⟩ := hl
  exact ⟨u, h.a.kept h2 (fun k hk hf => h.ay k hk hf), h.b.kept h2 (fun k hk hf => h.d_by k hk hf), h.x.kept h2 (fun k hk hf => h.xy k hk hf), h1, h.ab, h.ax, (h.ay.symm.after h3 h.a.flt).symm, h.bx, (h.d_by.symm.after h3 h.b.flt).symm, (h.xy.symm.after h3 h.x.flt).symm⟩
theorem Quad.newy {B : Nat} {w w2 : World} {ga gb gx gy : Nat} {va vb vx vy : Value} {sa sb sx sy : WS} {s' : WS} {g : Nat} (h : Quad B w ga va gb vb gx vx gy vy sa sb sx sy) (hg : g = w.heap.size) (hn : XAt B w2 g (.slice none 0 0) s') (hb : Below w.heap.size w w2) : Quad B w2 ga va gb vb gx vx g (.slice none 0 0) sa sb sx s' :=
  ⟨h.a.below hb, h.b.below hb, h.x.below hb, hn, h.ab, h.ax, (Dis.fresh hg h.a.flt).symm, h.bx, (Dis.fresh hg h.b.flt).symm, (Dis.fresh hg h.x.flt).symm⟩
theorem WAt.mono {B B' : Nat} {w : World} {g : Nat} {v : Value} {s : WS} (h : WAt B w g v s) (hB : B' ≤ B) : WAt B' w g v s := ⟨Nat.le_trans hB h.1, h.2.1, h.2.2.1.mono hB, h.2.2.2⟩
theorem XAt.mono {B B' : Nat} {w : World} {g : Nat} {v : Value} {s : WS} (h : XAt B w g v s) (hB : B' ≤ B) : XAt B' w g v s := ⟨Nat.le_trans hB h.1, h.2.1, h.2.2.1.mono hB, h.2.2.2⟩
/-- One step. -/
structure O where
  two : Bool
  new : Bool
  lim : Int
  v : V
def O.cells (o : O) : List Value := [.bool o.two, .bool o.new, .int .i64 o.lim, .int .i64 o.v.k, .int .u64 o.v.u, .int .i64 o.v.i, .string o.v.s]
def O.zero : O := ⟨false, false, 0, ⟨0, 0, 0, ⟨#[]⟩⟩⟩
def O.fits (o : O) : Prop := (-9223372036854775808 ≤ o.lim ∧ o.lim < 9223372036854775808) ∧ o.v.fits ∧ o.v.s.size ≤ 140737488355000
/-- The slice v holds the steps os. -/
def Ops (w : World) (v : Value) (os : List O) : Prop :=
  ∃ a cap, v = .slice a os.length cap ∧ os.length ≤ cap ∧ cap ≤ maxLen ∧ (∀ k, k < os.length → ∃ b off, a = some ⟨b, off, none⟩ ∧ ∀ j y, (os.getD k O.zero).cells[j]? = some y → w.cell? ⟨b, off + k * 7 + j, none⟩ = some y)
theorem Ops.below {w w' : World} {v : Value} {xs : List O} (H : Ops w v xs) (hb : Below w.heap.size w w') : Ops w' v xs := by
  obtain ⟨a, cap, e, h1, h2, h3⟩ := H
  refine ⟨a, cap, e, h1, h2, fun k hk => ?_⟩
  obtain ⟨b, off, ea, hc⟩ := h3 k hk
  refine ⟨b, off, ea, fun j y hy => ?_⟩
  have h := hc j y hy
  rw [hb.cell (block_lt_of_cell h)]; exact h
theorem Ops.at {w : World} {a : Option Addr} {n cap : Nat} {xs : List O} (H : Ops w (.slice a n cap) xs) (k : Nat) (hk : k < xs.length) :
    ∃ b off, a = some ⟨b, off, none⟩ ∧ w.cell? ⟨b, off + k * 7, none⟩ = some (.bool (xs.getD k O.zero).two) ∧ w.cell? ⟨b, off + k * 7 + 1, none⟩ = some (.bool (xs.getD k O.zero).new) ∧ w.cell? ⟨b, off + k * 7 + 2, none⟩ = some (.int .i64 (xs.getD k O.zero).lim) ∧
      w.cell? ⟨b, off + k * 7 + 3, none⟩ = some (.int .i64 (xs.getD k O.zero).v.k) ∧ w.cell? ⟨b, off + k * 7 + 4, none⟩ = some (.int .u64 (xs.getD k O.zero).v.u) ∧
      w.cell? ⟨b, off + k * 7 + 5, none⟩ = some (.int .i64 (xs.getD k O.zero).v.i) ∧ w.cell? ⟨b, off + k * 7 + 6, none⟩ = some (.string (xs.getD k O.zero).v.s) := by
  obtain ⟨a', cap', e', _, _, hc⟩ := H
  simp only [Value.slice.injEq] at e'
  obtain ⟨rfl, rfl, rfl⟩ := e'
  obtain ⟨b, off, ea, h⟩ := hc k hk
  exact ⟨b, off, ea, h 0 _ rfl, h 1 _ rfl, h 2 _ rfl, h 3 _ rfl, h 4 _ rfl, h 5 _ rfl, h 6 _ rfl⟩
end Go.Proofs.Ytjnjliojkcnddab
