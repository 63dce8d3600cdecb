/-
  The law's plays: what its steps keep.
-/
import Derived.Test.YtojemioophlplaaSdC
namespace Go.Proofs.Ytojemioophlplaa
open Go.RowKit Go.Maps
namespace Rf
variable {B : Nat} {w0 w w' W W' : World} {p d mb mp : Nat} {cv cv' : Value} {x : Nat} {bv lv kv bv' lv' kv' : Value} {s s' : DS} {r r' : RD} {F : Nat → Prop} {oc : Array Value} {n : Nat}
theorem write_keeps (s : DS) (i : Int) (l : List UInt8) : (wrE s i l).1.ws ≤ s.ws + 1 := by
  unfold wrE
  split
  · simp
  · split
    · simp
    · have k := act_same s
      split
      · show (actD s).1.ws ≤ _
        omega
      · show (actD s).1.ws + 1 ≤ _
        omega
theorem rwrite_keeps (r : RD) (i : Int) (l : List UInt8) (y : Ly) : (wrR r i l y).1.laid.length + (wrR r i l y).1.cache.length ≤ r.laid.length + r.cache.length + 1 := by
  have k := act_keeps r
  unfold wrR
  split
  · simp
  · split
    · simp
    · split
      · show (actR r).1.laid.length + (actR r).1.cache.length ≤ _
        rw [k.2.1, k.2.2.1]; omega
      · show (actR r).1.laid.length + (r.cache ++ [y]).length ≤ _
        rw [k.2.2.1, List.length_append, List.length_singleton]; omega
theorem flush_keeps (s : DS) : (flD s).1.ws = s.ws := by
  have k := act_same s
  unfold flD
  split
  · exact k.2.2.2.1
  · exact k.2.2.2.1
theorem rflush_keeps (r : RD) : (flR r).1.laid.length + (flR r).1.cache.length = r.laid.length + r.cache.length := by
  have k := act_keeps r
  unfold flR
  split
  · show (actR r).1.laid.length + (actR r).1.cache.length = _
    rw [k.2.1, k.2.2.1]
  · show (r.laid ++ r.cache).length + 0 = _
    rw [List.length_append]; omega
theorem arm_keeps (s : DS) (k : Int) : (armD s k).1.ws = s.ws := by
  unfold armD
  split
  · rfl
  · split <;> rfl
theorem rarm_keeps (r : RD) (k : Int) : (armR r k).1.laid = r.laid ∧ (armR r k).1.cache = r.cache := by
  unfold armR
  split
  · exact ⟨rfl, rfl⟩
  · split <;> exact ⟨rfl, rfl⟩
theorem crash_keeps (s : DS) (fs : List (Int × Int)) : (crD s fs).ws = s.ws := rfl
theorem rcrash_keeps (r : RD) (fs : List (Int × Int)) : (crR r fs).laid.length + (crR r fs).cache.length ≤ r.laid.length + r.cache.length := by
  show (r.laid ++ crL (fateAt fs) 0 r.cache).length + 0 ≤ _
  rw [List.length_append]
  have := crL_length (fateAt fs) r.cache 0
  omega
theorem edit_keeps (s : DS) (i a : Int) (l : List UInt8) : (edD s i a l).1.ws = s.ws := by
  unfold edD
  split
  · rfl
  · split <;> rfl
theorem redit_keeps (r : RD) (i a : Int) (l : List UInt8) (y : Ly) : (edR r i a l y).1.laid.length + (edR r i a l y).1.cache.length ≤ r.laid.length + r.cache.length + 1 := by
  unfold edR
  split
  · simp
  · split
    · simp
    · show (r.laid ++ [y]).length + r.cache.length ≤ _
      rw [List.length_append, List.length_singleton]; omega
theorem Dv.mono {B' : Nat} (h : Dv B w d mb mp cv s) (hB : B' ≤ B) : Dv B' w d mb mp cv s := by
  refine ⟨h.self, h.med, ?_, h.latest, h.fit, Nat.le_trans hB h.b1, Nat.le_trans hB h.b2, Nat.le_trans hB h.b3⟩
  obtain ⟨h1, h2 | ⟨g, cap, cur, hv, hb, hr⟩⟩ := h.cache
  · exact ⟨h1, .inl h2⟩
  · exact ⟨h1, .inr ⟨g, cap, cur, hv, Nat.le_trans hB hb, hr⟩⟩
theorem Rd.mono {B' : Nat} (h : Rd B w x bv lv kv r) (hB : B' ≤ B) : Rd B' w x bv lv kv r :=
  ⟨h.self, h.base.mono hB, h.laid.mono hB, h.cache.mono hB, fun y hy => ⟨(h.ll y hy).own.mono hB, (h.ll y hy).b, (h.ll y hy).a⟩, fun y hy => ⟨(h.lc y hy).own.mono hB, (h.lc y hy).b, (h.lc y hy).a⟩, h.n, h.bl, Nat.le_trans hB h.bx, h.ne⟩
/-- Other devices are stored behind the two pointers. -/
theorem Ph.of {d2 mb2 mp2 x2 : Nat} {cv2 bv2 lv2 kv2 : Value} {s2 : DS} {r2 : RD} {D : Nat} (h : PH w0 w F oc p d mb mp x bv W cv lv kv s r) (h0 : w0.heap.size ≤ w.heap.size) (hD : w.heap.size ≤ D) (hd : Dv D W d2 mb2 mp2 cv2 s2) (hr : Rd D W x2 bv2 lv2 kv2 r2) :
    PH w0 w F oc p d2 mb2 mp2 x2 bv2 ((W.setCell ⟨p, 0, none⟩ (.pointer (some ⟨d2, 0, none⟩))).setCell ⟨p, 1, none⟩ (.pointer (some ⟨x2, 0, none⟩))) cv2 lv2 kv2 s2 r2 ∧ W.frozen? ⟨p, 0, none⟩ = false ∧ (W.setCell ⟨p, 0, none⟩ (.pointer (some ⟨d2, 0, none⟩))).frozen? ⟨p, 1, none⟩ = false ∧ (W.setCell ⟨p, 0, none⟩ (.pointer (some ⟨d2, 0, none⟩))).cell? ⟨p, 1, none⟩ = some (.pointer (some ⟨x, 0, none⟩)) := by
  have K : Kept (fun k => k = p) W ((W.setCell ⟨p, 0, none⟩ (.pointer (some ⟨d2, 0, none⟩))).setCell ⟨p, 1, none⟩ (.pointer (some ⟨x2, 0, none⟩))) := Kept.trans (F := fun k => k = p) (G := fun k => k = p) (kept_set W ⟨p, 0, none⟩ _ rfl) (kept_set _ ⟨p, 1, none⟩ _ rfl) (fun _ _ e => e)
  have s1 := heap_setCell_same W p 0 _ _ (.pointer (some ⟨d2, 0, none⟩)) h.mem.self
  have s2' := heap_setCell_same _ p 1 _ _ (.pointer (some ⟨x2, 0, none⟩)) s1
  obtain ⟨k1, k2⟩ := Ph.keptOf h K (fun k e => .inl e)
  have hB : w0.heap.size ≤ D := Nat.le_trans h0 hD
  have fd : ∀ k, Foot d2 mb2 mp2 cv2 k → ¬ k = p := fun k e f => by
    rw [f] at e
    exact foot_ty hd p e (by decide) (by decide) (by decide) h.mem.self
  have fr : ∀ k, RFoot x2 lv2 kv2 k → ¬ k = p := fun k e f => by
    rw [f] at e
    obtain ⟨cs, t, m, hq, ht⟩ := rfoot_ty hr p e
    rw [h.mem.self] at hq
    simp only [Option.some.injEq, Obj.cells.injEq] at hq
    rcases ht with q | q <;> rw [q] at hq <;> exact absurd hq.2.1 (by decide)
  have fb : ∀ v l, Own D W v l → ∀ k, v.ownBlock = some k → ¬ k = p := fun v l ho k e f => by
    obtain ⟨cur, hq⟩ := row_block ho e
    rw [f, h.mem.self] at hq
    simp only [Option.some.injEq, Obj.cells.injEq] at hq
    exact absurd hq.2.1 (by decide)
  have hbox : w.heap.size ≠ p := fun f => by
    have hb := h.box
    rw [f, h.mem.self] at hb
    simp only [Option.some.injEq, Obj.cells.injEq] at hb
    exact absurd hb.2.1 (by decide)
  refine ⟨⟨⟨?_, Dv.mono (hd.kept K fd) hB, Rd.mono (hr.kept K fr fb) hB, h.mem.bp⟩, k1, fun k e => ?_, ?_, k2⟩, frozen_of_row W p 0 _ _ h.mem.self, frozen_of_row _ p 1 _ _ s1, ?_⟩
  · rw [s2']; rfl
  · rcases e with e | e | e
    · exact h.foot k (.inl e)
    · exact .inr (Nat.le_trans hD (hd.foot_lt k e).1)
    · exact .inr (Nat.le_trans hD (hr.foot_lt k e).1)
  · rw [K.block _ (lt_of_heap h.box) hbox]; exact h.box
  · rw [cell_of_row _ p 1 _ _ _ s1]; rfl
end Rf
end Go.Proofs.Ytojemioophlplaa
