/-
  A SIDE: the program's device and the document's, behind one pointer each; what of its memory stays.
-/
import Derived.Test.YtojemioophlplaaRfP
import Derived.Test.YtojemioophlplaaPnA
namespace Go.Proofs.Ytojemioophlplaa
open Go.RowKit Go.Maps
namespace Rf
/-- The memory of a side. -/
structure Mem (B : Nat) (w : World) (p d mb mp : Nat) (cv : Value) (x : Nat) (bv lv kv : Value) (s : DS) (r : RD) : Prop where
  self : w.heap[p]? = some (.cells #[.pointer (some ⟨d, 0, none⟩), .pointer (some ⟨x, 0, none⟩)] 29 (0, 0))
  dv : Dv B w d mb mp cv s
  rd : Rd B w x bv lv kv r
  bp : B ≤ p
def SFoot (p d mb mp : Nat) (cv : Value) (x : Nat) (lv kv : Value) (k : Nat) : Prop := k = p ∨ Foot d mb mp cv k ∨ RFoot x lv kv k
variable {B : Nat} {w0 w w' W W' : World} {p d mb mp : Nat} {cv cv' : Value} {x : Nat} {bv lv kv bv' lv' kv' : Value} {s s' : DS} {r r' : RD}
theorem foot_ty (h : Dv B w d mb mp cv s) (k : Nat) (hk : Foot d mb mp cv k) {cs : Array Value} {t : TypeId} {m : Nat × Nat} (h1 : t ≠ 60) (h2 : t ≠ 66) (h3 : t ≠ 68) : w.heap[k]? ≠ some (.cells cs t m) := by
  intro e
  rcases hk with rfl | rfl | rfl | hf
  · rw [h.self] at e; simp only [Option.some.injEq, Obj.cells.injEq] at e; exact h1 e.2.1.symm
  · rw [h.med] at e; simp only [Option.some.injEq, Obj.cells.injEq] at e; exact h2 e.2.1.symm
  · obtain ⟨M, hM, _⟩ := h.latest
    obtain ⟨es, c, hm⟩ := map_block hM
    rw [hm] at e; simp at e
  · obtain ⟨cur, hc⟩ := row_block h.cache hf
    rw [hc] at e; simp only [Option.some.injEq, Obj.cells.injEq] at e; exact h3 e.2.1.symm
theorem rfoot_ty (h : Rd B w x bv lv kv r) (k : Nat) (hk : RFoot x lv kv k) : ∃ cs t m, w.heap[k]? = some (.cells cs t m) ∧ (t = 63 ∨ t = 71) := by
  rcases hk with rfl | hf | hf
  · exact ⟨_, _, _, h.self, .inl rfl⟩
  · obtain ⟨cs, m, hq⟩ := h.laid.ty k hf
    exact ⟨_, _, _, hq, .inr rfl⟩
  · obtain ⟨cs, m, hq⟩ := h.cache.ty k hf
    exact ⟨_, _, _, hq, .inr rfl⟩
theorem foots (h : Dv B w d mb mp cv s) (h' : Rd B w x bv lv kv r) (k : Nat) (hk : RFoot x lv kv k) : ¬ Foot d mb mp cv k := by
  intro hf
  obtain ⟨cs, t, m, hq, ht⟩ := rfoot_ty h' k hk
  rcases ht with rfl | rfl
  · exact foot_ty h k hf (by decide) (by decide) (by decide) hq
  · exact foot_ty h k hf (by decide) (by decide) (by decide) hq
theorem Mem.foot_lt (h : Mem B w p d mb mp cv x bv lv kv s r) (k : Nat) (hk : SFoot p d mb mp cv x lv kv k) : B ≤ k ∧ k < w.heap.size := by
  rcases hk with rfl | hk | hk
  · exact ⟨h.bp, lt_of_heap h.self⟩
  · exact h.dv.foot_lt k hk
  · exact h.rd.foot_lt k hk
/-- What lies in no block of a side leaves it as it is. -/
theorem Mem.kept {F : Nat → Prop} (h : Mem B w p d mb mp cv x bv lv kv s r) (hk : Kept F w w') (hF : ∀ k, SFoot p d mb mp cv x lv kv k → ¬ F k) (hb : ∀ v l, Own B w v l → ∀ k, v.ownBlock = some k → ¬ F k) : Mem B w' p d mb mp cv x bv lv kv s r :=
  ⟨by rw [hk.block p (lt_of_heap h.self) (hF p (.inl rfl))]; exact h.self, h.dv.kept hk (fun k e => hF k (.inr (.inl e))), h.rd.kept hk (fun k e => hF k (.inr (.inr e))) hb, h.bp⟩
theorem Mem.below (h : Mem B w p d mb mp cv x bv lv kv s r) (hb : Below w.heap.size w w') : Mem B w' p d mb mp cv x bv lv kv s r :=
  h.kept (Below.kept hb (fun _ => False)) (fun _ _ h => h) (fun _ _ _ _ _ h => h)
theorem p_foot (h : Mem B w p d mb mp cv x bv lv kv s r) : ¬ Foot d mb mp cv p ∧ ¬ RFoot x lv kv p := by
  refine ⟨fun e => foot_ty h.dv p e (by decide) (by decide) (by decide) h.self, fun e => ?_⟩
  obtain ⟨cs, t, m, hq, ht⟩ := rfoot_ty h.rd p e
  rw [h.self] at hq
  simp only [Option.some.injEq, Obj.cells.injEq] at hq
  rcases ht with q | q <;> rw [q] at hq <;> exact absurd hq.2.1 (by decide)
/-- The program's device has done something. -/
theorem Mem.dev (h : Mem B w p d mb mp cv x bv lv kv s r) (hd : Dv B w' d mb mp cv' s') (hk : Kept (Foot d mb mp cv) w w') : Mem B w' p d mb mp cv' x bv lv kv s' r :=
  ⟨by rw [hk.block p (lt_of_heap h.self) (p_foot h).1]; exact h.self, hd, h.rd.kept hk (fun k e => foots h.dv h.rd k e) (fun v l ho k e => h.dv.bytes_ne ho k e), h.bp⟩
/-- The document's has. -/
theorem Mem.ref (h : Mem B w p d mb mp cv x bv lv kv s r) (hr : Rd B w' x bv' lv' kv' r') (hk : Kept (RFoot x lv kv) w w') : Mem B w' p d mb mp cv x bv' lv' kv' s r' :=
  ⟨by rw [hk.block p (lt_of_heap h.self) (p_foot h).2]; exact h.self, h.dv.kept hk (fun k e f => foots h.dv h.rd k f e), hr, h.bp⟩
/-- Amid a step: w0 the world of the law's call, w that of the step's; F the blocks of the side at the step's beginning; the step's operation lies at w's end. -/
structure Ph (w0 w : World) (F : Nat → Prop) (oc : Array Value) (W : World) (p d mb mp : Nat) (cv : Value) (x : Nat) (bv lv kv : Value) (s : DS) (r : RD) : Prop where
  mem : Mem w0.heap.size W p d mb mp cv x bv lv kv s r
  kept : Kept F w W
  foot : ∀ k, SFoot p d mb mp cv x lv kv k → F k ∨ w.heap.size ≤ k
  box : W.heap[w.heap.size]? = some (.cells oc 33 (0, 0))
  bel : Below w0.heap.size w0 W
variable {F : Nat → Prop} {oc : Array Value}
theorem Ph.below (h : Ph w0 w F oc W p d mb mp cv x bv lv kv s r) (hb : Below W.heap.size W W') : Ph w0 w F oc W' p d mb mp cv x bv lv kv s r :=
  ⟨h.mem.below hb, h.kept.trans (Below.kept hb (fun _ => False)) (fun _ _ e => e.elim), h.foot, (hb.block _ (lt_of_heap h.box)).trans h.box, h.bel.trans (hb.mono h.bel.size)⟩
theorem Ph.keptOf {G : Nat → Prop} (h : Ph w0 w F oc W p d mb mp cv x bv lv kv s r) (hk : Kept G W W') (hG : ∀ k, G k → SFoot p d mb mp cv x lv kv k) : Kept F w W' ∧ Below w0.heap.size w0 W' := by
  refine ⟨⟨hk.os.trans h.kept.os, hk.tape.trans h.kept.tape, hk.output.trans h.kept.output, Nat.le_trans h.kept.size hk.size, fun k hk1 hn => ?_⟩, h.bel.trans (hk.below h.bel.size (fun k e => (h.mem.foot_lt k (hG k e)).1))⟩
  rw [hk.block k (Nat.lt_of_lt_of_le hk1 h.kept.size) (fun e => by rcases h.foot k (hG k e) with q | q; exact hn q; omega)]
  exact h.kept.block k hk1 hn
theorem Ph.dev (h : Ph w0 w F oc W p d mb mp cv x bv lv kv s r) (hd : Dv w0.heap.size W' d mb mp cv' s') (hk : Kept (Foot d mb mp cv) W W') (ha : ∀ k, cv'.ownBlock = some k → cv.ownBlock = some k ∨ W.heap.size ≤ k) : Ph w0 w F oc W' p d mb mp cv' x bv lv kv s' r := by
  obtain ⟨h1, h2⟩ := h.keptOf hk (fun k e => .inr (.inl e))
  refine ⟨h.mem.dev hd hk, h1, fun k e => ?_, ?_, h2⟩
  · rcases e with e | (e | e | e | e) | e
    · exact h.foot k (.inl e)
    · exact h.foot k (.inr (.inl (.inl e)))
    · exact h.foot k (.inr (.inl (.inr (.inl e))))
    · exact h.foot k (.inr (.inl (.inr (.inr (.inl e)))))
    · rcases ha k e with q | q
      · exact h.foot k (.inr (.inl (.inr (.inr (.inr q)))))
      · exact .inr (Nat.le_trans h.kept.size q)
    · exact h.foot k (.inr (.inr e))
  · rw [hk.block _ (lt_of_heap h.box) (fun e => foot_ty h.mem.dv _ e (by decide) (by decide) (by decide) h.box)]
    exact h.box
theorem Ph.ref (h : Ph w0 w F oc W p d mb mp cv x bv lv kv s r) (hl : RL w0.heap.size W x bv lv kv W' r') : ∃ lv' kv', Ph w0 w F oc W' p d mb mp cv x bv lv' kv' s r' := by
  obtain ⟨lv', kv', hr, hk, hf⟩ := hl
  obtain ⟨h1, h2⟩ := h.keptOf hk (fun k e => .inr (.inr e))
  refine ⟨lv', kv', h.mem.ref hr hk, h1, fun k e => ?_, ?_, h2⟩
  · rcases e with e | e | e
    · exact h.foot k (.inl e)
    · exact h.foot k (.inr (.inl e))
    · rcases hf k e with q | q
      · exact h.foot k (.inr (.inr q))
      · exact .inr (Nat.le_trans h.kept.size q)
  · rw [hk.block _ (lt_of_heap h.box) (fun e => by
      obtain ⟨cs, t, m, hq, ht⟩ := rfoot_ty h.mem.rd _ e
      rw [h.box] at hq
      simp only [Option.some.injEq, Obj.cells.injEq] at hq
      rcases ht with q | q <;> rw [q] at hq <;> exact absurd hq.2.1 (by decide))]
    exact h.box
theorem Ph.cells (h : Ph w0 w F oc W p d mb mp cv x bv lv kv s r) : W.cell? ⟨p, 0, none⟩ = some (.pointer (some ⟨d, 0, none⟩)) ∧ W.cell? ⟨p, 1, none⟩ = some (.pointer (some ⟨x, 0, none⟩)) :=
  ⟨cell_of_row _ _ 0 _ _ _ h.mem.self, cell_of_row _ _ 1 _ _ _ h.mem.self⟩
theorem Ph.op (h : Ph w0 w F oc W p d mb mp cv x bv lv kv s r) (k : Nat) : W.cell? ⟨w.heap.size, k, none⟩ = oc[k]? := cell_of_row _ _ k _ _ _ h.box
end Rf
end Go.Proofs.Ytojemioophlplaa
