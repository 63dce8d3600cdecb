/-
  DevStays: what its halves share.
-/
import Derived.Test.YtlnjclabnpenmaaStM
namespace Go.Proofs.Ytlnjclabnpenmaa
open Go.RowKit Go.Maps
/-- A step of a list, at hand. -/
theorem ops_at {w : World} {a : Option Addr} {n cap : Nat} {l : List OpD} (H : Ops w (.slice a n cap) l) {k : Nat} {o : OpD} (ho : l[k]? = some o) : o.At w ∧ ∃ b off, a = some ⟨b, off, none⟩ ∧ b < w.heap.size ∧ ∀ i u, o.cells[i]? = some u → w.cell? ⟨b, off + k * 8 + i, none⟩ = some u := by
  obtain ⟨hAt, a', cap', e', _, _, hcc⟩ := H
  simp only [Value.slice.injEq] at e'
  obtain ⟨bb, off, ea, hcell⟩ := hcc (by intro e; rw [e] at ho; simp at ho)
  exact ⟨hAt o (List.mem_of_getElem? ho), bb, off, by rw [e'.1, ea], block_lt_of_cell (hcell k o ho 0 _ rfl), fun i u hu => hcell k o ho i u hu⟩
/-- play, as a law meets it. -/
theorem play_lit {B : Nat} {w : World} {d mb mp : Nat} {cv : Value} {s : DS} (h : Dv B w d mb mp cv s) (hws : s.ws < 137438953471) (o : OpD) (ho : o.At w) :
    Calls Try.prog 22 #[.pointer (some ⟨d, 0, none⟩), .agg #[.bool o.two, .int .i64 o.kind, .int .i64 o.blk, .int .i64 o.n, .int .i64 o.len, .int .u8 (c8 o.fill), o.bv, o.fv]] w fun e w' => ∃ s' r, e = .returned (.int .i64 r) ∧ Left B w d mb mp cv w' s' ∧ Step s o s' r := play_any h hws o ho
theorem size_op : (Try.prog.info? 47).map (·.size) = some 8 := by kernel_rfl
theorem op_one {o : OpD} {w : World} (h : o.At w) : (#[.bool o.two, .int .i64 o.kind, .int .i64 o.blk, .int .i64 o.n, .int .i64 o.len, .int .u8 (c8 o.fill), o.bv, o.fv] : Array Value).all (·.oneCell') = true := by
  obtain ⟨a1, c1, e1, _⟩ := h.1
  obtain ⟨a2, c2, e2, _⟩ := h.2.1
  rw [e1, e2]
  refine all_oneCell_toArray (fun v hv => ?_)
  simp only [List.mem_cons, List.not_mem_nil, or_false] at hv
  rcases hv with rfl | rfl | rfl | rfl | rfl | rfl | rfl | rfl <;> rfl
theorem fts_nil (w : World) : Fts w (.slice none 0 0) [] := ⟨none, 0, rfl, by simp, by decide, fun _ => rfl, fun k hk => by simp at hk⟩
end Go.Proofs.Ytlnjclabnpenmaa
