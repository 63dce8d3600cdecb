/-
  copy into a block that is known whole; bytesOf.
-/
import Derived.Test.YtbdlebengmbooaaDvB
namespace Go.Proofs.Ytbdlebengmbooaa
open Go.RowKit Go.Maps
theorem kept_setRow (w : World) (g : Nat) (cs : Array Value) : Kept (fun k => k = g) w (w.setRow g cs) := ⟨rfl, rfl, rfl, by simp [World.setRow], fun k _ hn => setRow_other w g k cs hn⟩
theorem run_copy_kept {w : World} (ty : TypeId) (dp sp : Option Addr) (dLen dCap sLen sCap : Nat)
    (g off : Nat) (cur : List Value) (t : TypeId) (hg : w.heap[g]? = some (.cells cur.toArray t (0, 0))) (cs : List Value) (hn : cs.length = Nat.min sLen dLen)
    (hpos : 0 < cs.length → dp = some ⟨g, off, none⟩ ∧ ∃ ad, sp = some ad ∧ ∀ j v, cs[j]? = some v → w.cell? (ad.add j) = some v)
    (hfit : off + cs.length ≤ cur.length) (h1 : ∀ v ∈ cs, v.oneCell' = true) :
    ∃ w', (Builtin.copy_ #[35, 35] ty #[.slice dp dLen dCap, .slice sp sLen sCap]).run Try.prog w = .ok (goInt cs.length) w' ∧ w'.heap[g]? = some (.cells (splice cur off cs).toArray t (0, 0)) ∧ Kept (fun k => k = g) w w' := by
  by_cases h0 : cs.length = 0
  · obtain rfl : cs = [] := List.eq_nil_of_length_eq_zero h0
    exact ⟨w, run_copy_none (P := Try.prog) w 35 35 ty 5 dp sp dLen dCap sLen sCap Try.underlying35 size_byte (by simpa using hn.symm), by simpa [splice] using hg, Kept.refl _ _⟩
  · obtain ⟨rfl, ad, rfl, hsrc⟩ := hpos (by omega)
    exact ⟨_, run_copy_row (P := Try.prog) w 35 35 ty 5 g off dLen dCap ad sLen sCap cur.toArray t cs Try.underlying35 size_byte hg hn hsrc (by simpa using hfit) h1, by simpa [splice] using setRow_heap w g _ _ t _ hg, kept_setRow _ _ _⟩
theorem copy_kept {w : World} {ops : Array Oper} {rest : List Oper} {o : Oper} {a : Act} {Q : Exit → Act → World → Prop} (hgd : o.guard = none) (d s : Operand)
    (ho : o.op = .call { callee := .builtin .copy, args := #[d, s], argTypes := #[35, 35] })
    (dp sp : Option Addr) (dLen dCap sLen sCap : Nat) (hd : a.eval d = .slice dp dLen dCap) (hs : a.eval s = .slice sp sLen sCap)
    (g off : Nat) (cur : List Value) (t : TypeId) (hg : w.heap[g]? = some (.cells cur.toArray t (0, 0))) (cs : List Value) (hn : cs.length = Nat.min sLen dLen)
    (hpos : 0 < cs.length → dp = some ⟨g, off, none⟩ ∧ ∃ ad, sp = some ad ∧ ∀ j v, cs[j]? = some v → w.cell? (ad.add j) = some v)
    (hfit : off + cs.length ≤ cur.length) (h1 : ∀ v ∈ cs, v.oneCell' = true)
    (h : ∀ w', Hid (w'.heap[g]? = some (.cells (splice cur off cs).toArray t (0, 0)) ∧ Kept (fun k => k = g) w w') → wpList Try.prog ops Q rest (a.put o.dst (goInt cs.length)) w') :
    wpList Try.prog ops Q (o :: rest) a w := by
  refine wpList_plain hgd fun K hK => ?_
  obtain ⟨w', hrun, h2, h3⟩ := run_copy_kept o.type dp sp dLen dCap sLen sCap g off cur t hg cs hn hpos hfit h1
  unfold Oper.wp
  simp [execOp, ho, resolve, invoke, builtin, hd, hs, hrun, Result.andThen]
  exact hK _ _ (h w' ⟨h2, h3⟩)
theorem step_copy_kept {w : World} {ops : Array Oper} {o : Oper} {a : Act} {K : Act → World → Prop} {Q : Exit → Act → World → Prop} {E : Prop} (hgd : o.guard = none) (d s : Operand)
    (ho : o.op = .call { callee := .builtin .copy, args := #[d, s], argTypes := #[35, 35] })
    (dp sp : Option Addr) (dLen dCap sLen sCap : Nat) (hd : a.eval d = .slice dp dLen dCap) (hs : a.eval s = .slice sp sLen sCap)
    (g off : Nat) (cur : List Value) (t : TypeId) (hg : w.heap[g]? = some (.cells cur.toArray t (0, 0))) (cs : List Value) (hn : cs.length = Nat.min sLen dLen)
    (hpos : 0 < cs.length → dp = some ⟨g, off, none⟩ ∧ ∃ ad, sp = some ad ∧ ∀ j v, cs[j]? = some v → w.cell? (ad.add j) = some v)
    (hfit : off + cs.length ≤ cur.length) (h1 : ∀ v ∈ cs, v.oneCell' = true)
    (h : ∀ w', Hid (w'.heap[g]? = some (.cells (splice cur off cs).toArray t (0, 0)) ∧ Kept (fun k => k = g) w w') → K (a.put o.dst (goInt cs.length)) w') :
    if Region.wanted o (yielded ops a.tmps) = true then Oper.wp Try.prog o a w K Q else E := by
  have hw : Region.wanted o (yielded ops a.tmps) = true := by simp [Region.wanted, hgd]
  rw [if_pos hw]
  obtain ⟨w', hrun, h2, h3⟩ := run_copy_kept o.type dp sp dLen dCap sLen sCap g off cur t hg cs hn hpos hfit h1
  unfold Oper.wp
  simp [execOp, ho, resolve, invoke, builtin, hd, hs, hrun, Result.andThen]
  exact h w' ⟨h2, h3⟩
theorem src_row {w : World} {g off : Nat} {cur cs : List Value} {t : TypeId} {fr : Nat × Nat} (hg : w.heap[g]? = some (.cells cur.toArray t fr)) (h : ∀ j, j < cs.length → cur[off + j]? = cs[j]?) : ∀ j v, cs[j]? = some v → w.cell? ((⟨g, off, none⟩ : Addr).add j) = some v := by
  intro j v hv
  have hj : j < cs.length := (List.getElem?_eq_some_iff.1 hv).1
  rw [add_plain, cell_of_row w g _ _ _ _ hg, List.getElem?_toArray, h j hj, hv]
theorem bytesOf_any (l : List UInt8) (hl : l.length = 512) (w : World) : Calls Try.prog 58 #[.agg (cells8 l).toArray] w fun e w' => e = .returned (.slice (some ⟨w.heap.size + 1, 0, none⟩) 512 512) ∧ Own w.heap.size w' (.slice (some ⟨w.heap.size + 1, 0, none⟩) 512 512) l ∧ Below w.heap.size w w' := by
  have HL := Lib.hid hl
  obtain ⟨C, hC⟩ : ∃ C, C = (cells8 l).toArray := ⟨_, rfl⟩
  rw [← hC]
  have HC := Lib.hid hC
  clear hl hC
  have hm := fun (w : World) => make_bytes w (a := 512) (b := 512) 512 512 rfl rfl (Nat.le_refl _) (by decide)
  go_enter Try.func58, Try.ntmps58
  have s1 : (w.alloc (Obj.cells C 80)).heap.size = w.heap.size + 1 := by simp
  have g1 : Hid (((w.alloc (Obj.cells C 80)).alloc (Obj.cells (madeCells #[Value.int IntKind.u8 0] 512) 5)).heap[w.heap.size + 1]? = some (.cells (madeCells #[Value.int IntKind.u8 0] 512).toList.toArray 5 (0, 0))) := Lib.hid (by rw [← s1]; exact heap_alloc_new _ _)
  have g0 : Hid (((w.alloc (Obj.cells C 80)).alloc (Obj.cells (madeCells #[Value.int IntKind.u8 0] 512) 5)).heap[w.heap.size]? = some (.cells (cells8 l).toArray 80 (0, 0))) := Lib.hid (by rw [Below.heap_alloc _ _ _ (by rw [s1]; omega), ← HC.out]; exact heap_alloc_new _ _)
  clear s1
  go_wp2_with (refine copy_kept rfl _ _ rfl _ _ _ _ _ _ rfl rfl (w.heap.size + 1) 0 _ 5 g1.out (cells8 l) (by rw [cells8_length, HL.out]; rfl) (fun _ => ⟨rfl, _, rfl, src_row g0.out (fun j _ => by rw [Nat.zero_add])⟩) (by rw [made_length, cells8_length, HL.out]; decide) (cells8_one l) ?_)
  intro w2 K2
  clear hm
  go_wp2_with fail
  go_ret
  refine ⟨rfl, ?_, ?_⟩
  · have := own_made (n := 512) (cap := 512) K2.out.1 (by rw [HL.out]; exact ⟨Nat.le_refl _, rfl, by decide⟩)
    show w2.ownsRow _ _ _ _ _ _
    rw [HL.out]
    obtain ⟨h1, h | ⟨g, cap, cur, hv, hB, hr⟩⟩ := this
    · exact ⟨h1, .inl h⟩
    · exact ⟨h1, .inr ⟨g, cap, cur, hv, by omega, hr⟩⟩
  · exact ((((Below.refl _ w).alloc (Nat.le_refl _) _).alloc (by simp) _)).trans (K2.out.2.below (by simp; omega) (fun x hx => by omega))
end Go.Proofs.Ytbdlebengmbooaa
