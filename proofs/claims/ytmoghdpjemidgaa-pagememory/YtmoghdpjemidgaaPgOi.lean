/-
  seeming: of bytes that say that they are an inner page's.
-/
import Derived.Test.YtmoghdpjemidgaaPgOc
import Derived.Test.YtmoghdpjemidgaaPgCp
namespace Go.Proofs.Ytmoghdpjemidgaa
open Go.RowKit Go.Maps
theorem enters (f : FuncId) (fn : Func) (hf : Try.prog.funcs[f]? = some fn) (hn : (fn.name == "runtime.NumGoroutine") = false) (hb : fn.body.isSome = true) (args : Array Value) (w : World) : (callFunc f args).run Try.prog w = .ok (.enter f args) w := by
  obtain ⟨c, hc⟩ := Option.isSome_iff_exists.1 hb
  have hne : ¬ fn.name = "runtime.NumGoroutine" := fun e => by rw [e] at hn; simp at hn
  simp [callFunc, hf, hne, hc]
theorem cf_number (args : Array Value) (w : World) : (callFunc 38 args).run Try.prog w = .ok (.enter 38 args) w := enters _ _ Try.func38 (by kernel_rfl) (by kernel_rfl) args w
/-- A call of the reader's number as a step of a drawn region. -/
theorem step_number {ops : Array Oper} {o : Oper} {a : Act} {K : Act → World → Prop} {Q : Exit → Act → World → Prop} {E : Prop} (hgd : o.guard = none) (x y : Operand) (ts : Array TypeId)
    (ho : o.op = .call { callee := .value (.func 38), args := #[x, y], argTypes := ts })
    (gr bb oo c N : Nat) (l : List UInt8) (w : World) (hx : a.eval x = .pointer (some ⟨gr, 0, none⟩)) (hy : a.eval y = .int .i64 (N : Int)) (hr : Rd w gr l bb oo c) (hN : N ≤ 4) (A : Nat) (hA : leN (l.take N) = A)
    (h : ∀ o1 c1 w1, Hid (Rd w1 gr (l.drop N) bb o1 c1 ∧ Kept (fun y => y = gr) w w1) → K (a.put o.dst (.int .i64 (A : Int))) w1) :
    if Region.wanted o (yielded ops a.tmps) = true then Oper.wp Try.prog o a w K Q else E := by
  subst hA
  have hw : Region.wanted o (yielded ops a.tmps) = true := by simp [Region.wanted, hgd]
  rw [if_pos hw]
  have hf : a.eval (.func 38) = .func (.func 38) #[] #[] := rfl
  have hrun : (execOp a.eval o).run Try.prog w = .ok (.enter 38 #[.pointer (some ⟨gr, 0, none⟩), .int .i64 (N : Int)]) w := by
    unfold execOp
    simp only [ho, resolve, hf, hx, hy, Deferred.ofValue, List.map_toArray, List.map_cons, List.map_nil, Sem.run_bind, Sem.run_pure, Result.andThen_ok, invoke]
    exact cf_number _ w
  unfold Oper.wp
  rw [hrun, Oper.upon_enter]
  refine (number_any gr bb oo c N l w hr hN).mono ?_
  rintro e w1 ⟨o1, c1, rfl, r1, k1⟩
  exact h o1 c1 w1 (Lib.hid ⟨r1, k1⟩)
theorem cf_text (args : Array Value) (w : World) : (callFunc 39 args).run Try.prog w = .ok (.enter 39 args) w := enters _ _ Try.func39 (by kernel_rfl) (by kernel_rfl) args w
/-- A call of the reader's text as a step of a drawn region. -/
theorem step_text {ops : Array Oper} {o : Oper} {a : Act} {K : Act → World → Prop} {Q : Exit → Act → World → Prop} {E : Prop} (hgd : o.guard = none) (x y : Operand) (ts : Array TypeId)
    (ho : o.op = .call { callee := .value (.func 39), args := #[x, y], argTypes := ts })
    (gr bb oo c N : Nat) (l : List UInt8) (w : World) (hx : a.eval x = .pointer (some ⟨gr, 0, none⟩)) (hy : a.eval y = .int .i64 (N : Int)) (hr : Rd w gr l bb oo c) (hN : N < 9223372036854775808) (A : ByteArray) (hA : txt (l.take N) = A)
    (h : ∀ o1 c1 w1, Hid (Rd w1 gr (l.drop N) bb o1 c1 ∧ Kept (fun y => y = gr) w w1) → K (a.put o.dst (.string A)) w1) :
    if Region.wanted o (yielded ops a.tmps) = true then Oper.wp Try.prog o a w K Q else E := by
  subst hA
  have hw : Region.wanted o (yielded ops a.tmps) = true := by simp [Region.wanted, hgd]
  rw [if_pos hw]
  have hf : a.eval (.func 39) = .func (.func 39) #[] #[] := rfl
  have hrun : (execOp a.eval o).run Try.prog w = .ok (.enter 39 #[.pointer (some ⟨gr, 0, none⟩), .int .i64 (N : Int)]) w := by
    unfold execOp
    simp only [ho, resolve, hf, hx, hy, Deferred.ofValue, List.map_toArray, List.map_cons, List.map_nil, Sem.run_bind, Sem.run_pure, Result.andThen_ok, invoke]
    exact cf_text _ w
  unfold Oper.wp
  rw [hrun, Oper.upon_enter]
  refine (text_any gr bb oo c N l w hr hN).mono ?_
  rintro e w1 ⟨o1, c1, rfl, r1, k1⟩
  exact h o1 c1 w1 (Lib.hid ⟨r1, k1⟩)
/-- An inner page as it is read. -/
structure Si (w W : World) (gs gn gr : Nat) (vk vh : Value) (ks : List ByteArray) (hs : List Int) (l : List UInt8) (bb oo c : Nat) : Prop where
  n : W.heap[gn]? = some (.cells #[.int .i64 2, .slice none 0 0, .slice none 0 0, vk, vh, .int .i64 0, .string ⟨#[]⟩] 27 (0, 0))
  s : W.heap[gs]? = some (.cells #[.int .i64 0, .slice none 0 0, .slice none 0 0, .slice none 0 0, .slice none 0 0, .int .i64 0, .string ⟨#[]⟩] 27 (0, 0))
  r : Rd W gr l bb oo c
  k : OwnS (gr + 1) W vk ks
  h : OwnI (gr + 1) W vh hs
  o : w.heap.size ≤ gs ∧ gs < gn ∧ gn < gr ∧ bb < w.heap.size
  bl : Below w.heap.size w W
theorem Si.lt {w W : World} {gs gn gr : Nat} {vk vh : Value} {ks : List ByteArray} {hs : List Int} {l : List UInt8} {bb oo c : Nat} (h : Si w W gs gn gr vk vh ks hs l bb oo c) : gr < W.heap.size := lt_of_heap h.r.h
theorem Si.drew {w W : World} {gs gn gr : Nat} {vk vh : Value} {ks : List ByteArray} {hs : List Int} {l : List UInt8} {bb oo c : Nat} (h : Si w W gs gn gr vk vh ks hs l bb oo c) : Si w W.drew gs gn gr vk vh ks hs l bb oo c := by
  have hk : Kept (fun _ => False) W W.drew := ⟨rfl, rfl, rfl, Nat.le_refl _, fun _ _ _ => rfl⟩
  exact ⟨h.n, h.s, h.r.kept hk (fun h => h) (fun h => h), h.k.kept hk (fun _ _ h => h), h.h.kept hk (fun _ _ h => h), h.o, h.bl.trans (hk.below h.bl.size (fun _ h => h.elim))⟩
theorem Si.read {w W W' : World} {gs gn gr : Nat} {vk vh : Value} {ks : List ByteArray} {hs : List Int} {l l' : List UInt8} {bb oo c oo' c' : Nat} (h : Si w W gs gn gr vk vh ks hs l bb oo c) (hr : Rd W' gr l' bb oo' c') (hk : Kept (fun y => y = gr) W W') : Si w W' gs gn gr vk vh ks hs l' bb oo' c' :=
  ⟨by rw [hk.block _ (lt_of_heap h.n) (by have := h.o; omega)]; exact h.n, by rw [hk.block _ (lt_of_heap h.s) (by have := h.o; omega)]; exact h.s, hr, h.k.kept hk (fun g hg e => by have := (h.k.lt g hg).1; omega), h.h.kept hk (fun g hg e => by have := (h.h.lt g hg).1; omega), h.o, h.bl.trans (hk.below h.bl.size (fun x hx => by have := h.o; omega))⟩
theorem Si.key {w W W' : World} {gs gn gr : Nat} {vk vh vk' : Value} {ks ks' : List ByteArray} {hs : List Int} {l : List UInt8} {bb oo c : Nat} (h : Si w W gs gn gr vk vh ks hs l bb oo c) (he : OwnS (gr + 1) W' vk' ks') (hg : W.grownBy W' vk.ownBlock) : Si w (W'.setCell ⟨gn, 3, none⟩ vk') gs gn gr vk' vh ks' hs l bb oo c := by
  have hk := grown_kept hg
  have n0 : ∀ y, y ≤ gr → ¬ some y = vk.ownBlock := fun y hy e => by have := (h.k.lt y e.symm).1; omega
  have hn : W'.heap[gn]? = _ := (hk.block gn (lt_of_heap h.n) (n0 gn (by have := h.o; omega))).trans h.n
  have hs' := kept_set (F := fun y => y = gn) W' ⟨gn, 3, none⟩ vk' rfl
  have ho := h.o
  refine ⟨by rw [heap_setCell_same _ _ _ _ _ _ hn]; rfl, ?_, ?_, ?_, ?_, h.o, ?_⟩
  · rw [hs'.block gs (Nat.lt_of_lt_of_le (lt_of_heap h.s) hk.size) (by omega), hk.block gs (lt_of_heap h.s) (n0 gs (by omega))]; exact h.s
  · exact (h.r.kept hk (n0 gr (Nat.le_refl _)) (n0 bb (by omega))).kept hs' (by omega) (by omega)
  · exact he.kept hs' (fun g hg e => by have := (he.lt g hg).1; omega)
  · exact (h.h.kept hk (fun g hg e => ints_str_ne h.k h.h g e.symm hg)).kept hs' (fun g hg e => by have := (h.h.lt g hg).1; omega)
  · refine (h.bl.trans (hk.below h.bl.size (fun x hx => ?_))).trans (hs'.below (Nat.le_trans h.bl.size hk.size) (fun x hx => by omega))
    have := (h.k.lt x hx.symm).1; omega
theorem Si.kid {w W W' : World} {gs gn gr : Nat} {vk vh vh' : Value} {ks : List ByteArray} {hs hs' : List Int} {l : List UInt8} {bb oo c : Nat} (h : Si w W gs gn gr vk vh ks hs l bb oo c) (he : OwnI (gr + 1) W' vh' hs') (hg : W.grownBy W' vh.ownBlock) : Si w (W'.setCell ⟨gn, 4, none⟩ vh') gs gn gr vk vh' ks hs' l bb oo c := by
  have hk := grown_kept hg
  have n0 : ∀ y, y ≤ gr → ¬ some y = vh.ownBlock := fun y hy e => by have := (h.h.lt y e.symm).1; omega
  have hn : W'.heap[gn]? = _ := (hk.block gn (lt_of_heap h.n) (n0 gn (by have := h.o; omega))).trans h.n
  have hs1 := kept_set (F := fun y => y = gn) W' ⟨gn, 4, none⟩ vh' rfl
  have ho := h.o
  refine ⟨by rw [heap_setCell_same _ _ _ _ _ _ hn]; rfl, ?_, ?_, ?_, ?_, h.o, ?_⟩
  · rw [hs1.block gs (Nat.lt_of_lt_of_le (lt_of_heap h.s) hk.size) (by omega), hk.block gs (lt_of_heap h.s) (n0 gs (by omega))]; exact h.s
  · exact (h.r.kept hk (n0 gr (Nat.le_refl _)) (n0 bb (by omega))).kept hs1 (by omega) (by omega)
  · exact (h.k.kept hk (fun g hg e => ints_str_ne h.k h.h g hg e.symm)).kept hs1 (fun g hg e => by have := (h.k.lt g hg).1; omega)
  · exact he.kept hs1 (fun g hg e => by have := (he.lt g hg).1; omega)
  · refine (h.bl.trans (hk.below h.bl.size (fun x hx => ?_))).trans (hs1.below (Nat.le_trans h.bl.size hk.size) (fun x hx => by omega))
    have := (h.h.lt x hx.symm).1; omega
/-- The keys and children that are read. -/
def rdI : Nat → Nat → List ByteArray → List Int → List UInt8 → List ByteArray × List Int
  | 0, _, ks, hs, _ => (ks, hs)
  | f + 1, cnt, ks, hs, l => if ks.length < cnt ∧ 0 < l.length then rdI f cnt (ks ++ [txt ((l.drop 1).take (leN (l.take 1)))]) (hs ++ [(leN (((l.drop 1).drop (leN (l.take 1))).take 4) : Int)]) (((l.drop 1).drop (leN (l.take 1))).drop 4) else (ks, hs)
/-- The inner page that bytes seem to be. -/
def seI (b : List UInt8) : Nd := ⟨2, [], [], (rdI (leN (sub b 2 2) + 1) (leN (sub b 2 2)) [] [(leN ((b.drop 8).take 4) : Int)] ((b.drop 8).drop 4)).1, (rdI (leN (sub b 2 2) + 1) (leN (sub b 2 2)) [] [(leN ((b.drop 8).take 4) : Int)] ((b.drop 8).drop 4)).2, 0, ⟨#[]⟩⟩
end Go.Proofs.Ytmoghdpjemidgaa
