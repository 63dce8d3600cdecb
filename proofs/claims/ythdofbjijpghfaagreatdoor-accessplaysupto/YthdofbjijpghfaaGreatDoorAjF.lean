/-
  An append in a fence, of rows of any kind; rows of texts.
-/
import Derived.Test.YthdofbjijpghfaaGreatDoorMgD
import Derived.Test.YthdofbjijpghfaaGreatDoorScG
import Derived.Maps.OwnIn
namespace Go.Proofs.YthdofbjijpghfaaGreatDoor
open Go.RowKit
theorem app_rowIn {α : Type} {K : Kd α} (ok : K.Ok) {F : Fence} {nF : Nat} {ops : Array Oper} {rest : List Oper} {o : Oper} {a : Act} {Q : Exit → Act → World → Prop} (hgd : o.guard = none) (s y : Operand)
    (ho : o.op = .call { callee := .builtin .append, args := #[s, y], argTypes := #[K.s, K.s] })
    {B : Nat} {w0 : World} {v : Value} {xs : List α} (hs : a.eval s = v) (hown : OwnR K B w0 v xs) (hB : B ≤ w0.heap.size) (x : α) {gg : Nat} (hgg : gg = w0.heap.size) {cs : Array Value} (hcs : cs = (K.c x).toArray)
    (hy : a.eval y = .slice (some ⟨gg, 0, none⟩) 1 1) (hl : xs.length < 100000000)
    (h : ∀ v' w', OwnR K B w' v' (xs ++ [x]) → w0.grownBy w' v.ownBlock → wpListIn F nF Tryz.prog ops Q rest (a.put o.dst v') w') :
    wpListIn F nF Tryz.prog ops Q (o :: rest) a (w0.alloc (.cells cs K.t)) := by
  subst hgg hcs
  obtain ⟨zv, hinf, hzc⟩ := ok.inf
  obtain ⟨i0, hi, hz0, hz1, hz2⟩ := info_parts hinf
  have hb := ok.by0
  have hl' : (xs.length + 1) * K.b ≤ 140737488355328 := Nat.le_trans (Nat.mul_le_mul (show xs.length + 1 ≤ 100000000 by omega) ok.by0.2) (by decide)
  refine wpListIn_append_own_at _ hgd s y K.s ho B K.t i0 _ K.k K.b ok.und hi hz0 hz1 hz2 hzc ok.pos v xs.length (cellsR K xs) hs (World.ownsRow.alloc hown _) ⟨w0.heap.size, 0, none⟩ 1 1 (K.c x) hy (by rw [ok.len, Nat.one_mul]) ?_ (ok.one x) (by have := Nat.le_mul_of_pos_right (xs.length + 1) hb.1; unfold maxLen; omega) ?_ (by simp; omega) ?_
  · intro j u hj
    rw [add_plain, Nat.zero_add, World.cell?_alloc_new, ← Array.getElem?_toList]; exact hj
  · exact hl'
  · intro v' w' h1 h2 _ _
    refine h v' w' ?_ (grown_alloc h2)
    show w'.ownsRow _ _ _ _ _ _
    rw [cellsR_app, List.length_append, cellsR_single]
    exact h1
namespace Ac
/-- Texts as elements. -/
def kS : Kd ByteArray := ⟨fun x => [.string x], 1, 9, 49, 16, ⟨#[]⟩⟩
theorem okS : kS.Ok := ⟨fun _ => rfl, by decide, fun x u hu => by simp only [kS, List.mem_cons, List.not_mem_nil, or_false] at hu; rcases hu with rfl; rfl, Tryz.underlying49, ⟨_, (by kernel_rfl : (Tryz.prog.info? 9).map (fun i => (i.zero, i.size, i.bytes)) = some (some (.string ⟨#[]⟩), 1, 16)), rfl⟩, by decide⟩
/-- Reach's own memory between two rounds: the box m holds the row of what has come. -/
structure Ry (w : World) (m gz : Nat) (a : Option Addr) (c : Nat) (xs : List ByteArray) (W : World) : Prop where
  x : W.heap[m]? = some (.cells #[.slice a xs.length c] 49 (0, 0))
  o : OwnR kS gz W (.slice a xs.length c) xs
  b : Below w.heap.size w W
  gs : gz ≤ W.heap.size
  le : w.heap.size ≤ m ∧ m < gz
variable {w W W' : World} {m gz c c' : Nat} {a a' : Option Addr} {xs ys : List ByteArray}
theorem Ry.grown (h : Ry w m gz a c xs W) {row : Option Nat} {B : Nat} (hB : w.heap.size ≤ B) (hg : W.grownBy W' row) (hr : ∀ r, row = some r → B ≤ r ∧ ∃ o : Obj, W.heap[r]? = some o ∧ o.isCells = false) : Ry w m gz a c xs W' :=
  ⟨cells_same hg hr h.x, h.o.kept_ty (grown_kept hg) (fun k cs mm hk e => by
    obtain ⟨_, o, ho, hc⟩ := hr k hk.symm
    rw [e] at ho
    simp only [Option.some.injEq] at ho
    rw [← ho] at hc
    simp [Obj.isCells] at hc), h.b.trans ((Below.refl _ W).grown hg h.b.size (fun k e => Nat.le_trans hB (hr k e).1)), Nat.le_trans h.gs hg.size, h.le⟩
theorem Ry.below (h : Ry w m gz a c xs W) (hb : Below W.heap.size W W') : Ry w m gz a c xs W' :=
  h.grown (B := w.heap.size) (Nat.le_refl _) (grown_of_below hb) (fun r e => by cases e)
/-- One more has come. -/
theorem Ry.step (h : Ry w m gz a c xs W) (hg : W.grownBy W' (Value.slice a xs.length c).ownBlock) (ho : OwnR kS gz W' (.slice a' ys.length c') ys) :
    Ry w m gz a' c' ys (W'.setCell ⟨m, 0, none⟩ (.slice a' ys.length c')) ∧ Kept (fun y => y = m ∨ (Value.slice a xs.length c).ownBlock = some y) W (W'.setCell ⟨m, 0, none⟩ (.slice a' ys.length c')) := by
  have lm := lt_of_some h.x
  have nm : (Value.slice a xs.length c).ownBlock ≠ some m := fun e => by have := (h.o.lt m e).1; have := h.le; omega
  have xm : W'.heap[m]? = some (.cells #[.slice a xs.length c] 49 (0, 0)) := (hg.block m lm (fun e => nm e.symm)).trans h.x
  have k1 : Kept (fun y => y = m ∨ (Value.slice a xs.length c).ownBlock = some y) W W' := (grown_kept hg).mono (fun y _ e => Or.inr e.symm)
  have k2 : Kept (fun y => y = m) W' (W'.setCell ⟨m, 0, none⟩ (.slice a' ys.length c')) := kept_set (F := fun y => y = m) W' ⟨m, 0, none⟩ _ rfl
  have k3 := k1.trans k2 (fun _ _ e => Or.inl e)
  refine ⟨⟨?_, ho.kept k2 (fun k e q => by have := (ho.lt k e).1; have := h.le; omega), h.b.trans (k3.below h.b.size (fun y e => ?_)), Nat.le_trans h.gs k3.size, h.le⟩, k3⟩
  · rw [heap_setCell_same _ _ _ _ _ _ xm]
    rfl
  · rcases e with rfl | e
    · exact h.le.1
    · have := (h.o.lt y e).1; have := h.le; omega
/-- What the law asks of such a round. -/
theorem ry_keeps {t c1 c2 c3 : Nat} (h : Ry w m gz a c xs W) (hk : Kept (fun y => y = m ∨ (Value.slice a xs.length c).ownBlock = some y) W W') (hc : c1 < gz ∧ c2 < gz ∧ c3 < gz ∧ t < gz) (hn : t ≠ m ∧ c1 ≠ m ∧ c2 ≠ m ∧ c3 ≠ m) : KeepsFrom gz W W' ∧ Kg t c1 c2 c3 W W' := by
  have cel : ∀ y, (y = m ∨ (Value.slice a xs.length c).ownBlock = some y) → ∃ cs ty mm, W.heap[y]? = some (.cells cs ty mm) := fun y e => by
    rcases e with rfl | e
    · exact ⟨_, _, _, h.x⟩
    · obtain ⟨cs, mm, q⟩ := h.o.ty y e
      exact ⟨_, _, _, q⟩
  have not : ∀ y, y < gz → y ≠ m → ¬ (y = m ∨ (Value.slice a xs.length c).ownBlock = some y) := fun y h1 h2 e => by
    rcases e with e | e
    · exact h2 e
    · have := (h.o.lt y e).1; omega
  have gs := h.gs
  refine ⟨⟨hk.size, fun k o hB' hk' hc' => (hk.block k (lt_of_some hk') (fun e => ?_)).trans hk'⟩, ⟨hk.size, fun k o hk' ho => (hk.block k (lt_of_some hk') (fun e => ?_)).trans hk'⟩, fun y hy => hk.block y (by omega) ?_⟩
  · obtain ⟨cs, ty, mm, q⟩ := cel k e
    rw [q] at hk'
    simp only [Option.some.injEq] at hk'
    rw [← hk'] at hc'
    simp [Obj.isCells] at hc'
  · obtain ⟨cs, ty, mm, q⟩ := cel k e
    rw [q] at hk'
    simp only [Option.some.injEq] at hk'
    rw [← hk'] at ho
    simp [Obj.isWalk] at ho
  · rcases hy with rfl | rfl | rfl | rfl
    · exact not _ hc.2.2.2 hn.1
    · exact not _ hc.1 hn.2.1
    · exact not _ hc.2.1 hn.2.2.1
    · exact not _ hc.2.2.1 hn.2.2.2
end Ac
end Go.Proofs.YthdofbjijpghfaaGreatDoor
