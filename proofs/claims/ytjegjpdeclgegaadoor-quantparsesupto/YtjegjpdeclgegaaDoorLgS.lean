/-
  The document's suffixes.
-/
import Derived.Test.YtjegjpdeclgegaaDoorLgT
import Derived.Maps.AppendAt
import Derived.RegionTactic
import Derived.Deep.RegionLaw
namespace Go.Proofs.YtjegjpdeclgegaaDoor
open Go.RowKit Go.Lib
open Go.Sort (grow)
namespace Lg
theorem entersL (f : FuncId) (fn : Func) (hf : Tryd.prog.funcs[f]? = some fn) (hn : (fn.name == "runtime.NumGoroutine") = false) (hb : fn.body.isSome = true) (args : Array Value) (w : World) : (callFunc f args).run Tryd.prog w = .ok (.enter f args) w := by
  obtain ⟨c, hc⟩ := Option.isSome_iff_exists.1 hb
  have hne : ¬ fn.name = "runtime.NumGoroutine" := fun e => by rw [e] at hn; simp at hn
  simp [callFunc, hf, hne, hc]
theorem cf_power (args : Array Value) (w : World) : (callFunc 26 args).run Tryd.prog w = .ok (.enter 26 args) w := entersL _ _ Tryd.func26 (by kernel_rfl) (by kernel_rfl) args w
theorem cf_long (args : Array Value) (w : World) : (callFunc 12 args).run Tryd.prog w = .ok (.enter 12 args) w := entersL _ _ Tryd.func12 (by kernel_rfl) (by kernel_rfl) args w
theorem cf_times (args : Array Value) (w : World) : (callFunc 27 args).run Tryd.prog w = .ok (.enter 27 args) w := entersL _ _ Tryd.func27 (by kernel_rfl) (by kernel_rfl) args w
/-- What a call that makes a number tells. -/
def Tells (w : World) (p : Nat) (e : Ending) (w' : World) : Prop := ∃ a n c, e = .returned (.agg #[.slice a n c]) ∧ Row kI w' (.slice a n c) (dg p) ∧ Fr w.heap.size a ∧ Below w.heap.size w w'
theorem step_power {ops : Array Oper} {o : Oper} {a : Act} {w : World} {K : Act → World → Prop} {Q : Exit → Act → World → Prop} {E : Prop} (hgd : o.guard = none) (x y : Operand) (ts : Array TypeId)
    (ho : o.op = .call { callee := .value (.func 26), args := #[x, y], argTypes := ts }) (u v : Value) (hx : a.eval x = u) (hy : a.eval y = v) (p : Nat) (hc : Calls Tryd.prog 26 #[u, v] w (Tells w p))
    (h : ∀ a' n' c' w', Hid (Row kI w' (.slice a' n' c') (dg p) ∧ Fr w.heap.size a' ∧ Below w.heap.size w w') → K (a.put o.dst (.agg #[.slice a' n' c'])) w') :
    if Region.wanted o (yielded ops a.tmps) = true then Oper.wp Tryd.prog o a w K Q else E := by
  have hw : Region.wanted o (yielded ops a.tmps) = true := by simp [Region.wanted, hgd]
  rw [if_pos hw]
  have hf : a.eval (.func 26) = .func (.func 26) #[] #[] := rfl
  have hrun : (execOp a.eval o).run Tryd.prog w = .ok (.enter 26 #[u, v]) w := by
    unfold execOp
    simp only [ho, resolve, hf, hx, hy, Deferred.ofValue, List.map_toArray, List.map_cons, List.map_nil, Sem.run_bind, Sem.run_pure, Result.andThen_ok, invoke]
    exact cf_power _ w
  unfold Oper.wp
  rw [hrun, Oper.upon_enter]
  refine hc.mono ?_
  rintro e w1 ⟨a1, n1, c1, rfl, h1, h2, h3⟩
  exact h a1 n1 c1 w1 (Lib.hid ⟨h1, h2, h3⟩)
theorem step_times {ops : Array Oper} {o : Oper} {a : Act} {w : World} {K : Act → World → Prop} {Q : Exit → Act → World → Prop} {E : Prop} (hgd : o.guard = none) (x y : Operand) (ts : Array TypeId)
    (ho : o.op = .call { callee := .value (.func 27), args := #[x, y], argTypes := ts }) (u v : Value) (hx : a.eval x = u) (hy : a.eval y = v) (p : Nat) (hc : Calls Tryd.prog 27 #[u, v] w (Tells w p))
    (h : ∀ a' n' c' w', Hid (Row kI w' (.slice a' n' c') (dg p) ∧ Fr w.heap.size a' ∧ Below w.heap.size w w') → K (a.put o.dst (.agg #[.slice a' n' c'])) w') :
    if Region.wanted o (yielded ops a.tmps) = true then Oper.wp Tryd.prog o a w K Q else E := by
  have hw : Region.wanted o (yielded ops a.tmps) = true := by simp [Region.wanted, hgd]
  rw [if_pos hw]
  have hf : a.eval (.func 27) = .func (.func 27) #[] #[] := rfl
  have hrun : (execOp a.eval o).run Tryd.prog w = .ok (.enter 27 #[u, v]) w := by
    unfold execOp
    simp only [ho, resolve, hf, hx, hy, Deferred.ofValue, List.map_toArray, List.map_cons, List.map_nil, Sem.run_bind, Sem.run_pure, Result.andThen_ok, invoke]
    exact cf_times _ w
  unfold Oper.wp
  rw [hrun, Oper.upon_enter]
  refine hc.mono ?_
  rintro e w1 ⟨a1, n1, c1, rfl, h1, h2, h3⟩
  exact h a1 n1 c1 w1 (Lib.hid ⟨h1, h2, h3⟩)
theorem step_long {ops : Array Oper} {o : Oper} {a : Act} {w : World} {K : Act → World → Prop} {Q : Exit → Act → World → Prop} {E : Prop} (hgd : o.guard = none) (x : Operand) (ts : Array TypeId)
    (ho : o.op = .call { callee := .value (.func 12), args := #[x], argTypes := ts }) (u : Value) (hx : a.eval x = u) (p : Nat) (hc : Calls Tryd.prog 12 #[u] w (Tells w p))
    (h : ∀ a' n' c' w', Hid (Row kI w' (.slice a' n' c') (dg p) ∧ Fr w.heap.size a' ∧ Below w.heap.size w w') → K (a.put o.dst (.agg #[.slice a' n' c'])) w') :
    if Region.wanted o (yielded ops a.tmps) = true then Oper.wp Tryd.prog o a w K Q else E := by
  have hw : Region.wanted o (yielded ops a.tmps) = true := by simp [Region.wanted, hgd]
  rw [if_pos hw]
  have hf : a.eval (.func 12) = .func (.func 12) #[] #[] := rfl
  have hrun : (execOp a.eval o).run Tryd.prog w = .ok (.enter 12 #[u]) w := by
    unfold execOp
    simp only [ho, resolve, hf, hx, Deferred.ofValue, List.map_toArray, List.map_cons, List.map_nil, Sem.run_bind, Sem.run_pure, Result.andThen_ok, invoke]
    exact cf_long _ w
  unfold Oper.wp
  rw [hrun, Oper.upon_enter]
  refine hc.mono ?_
  rintro e w1 ⟨a1, n1, c1, rfl, h1, h2, h3⟩
  exact h a1 n1 c1 w1 (Lib.hid ⟨h1, h2, h3⟩)
/-- A suffix in memory: its text, its factor's slice. -/
structure Su where
  t : ByteArray
  a : Option Addr
  n : Nat
  c : Nat
def kS : Kd Su := ⟨fun x => [.string x.t, .slice x.a x.n x.c], 2, 48, 43, 40, ⟨⟨#[]⟩, none, 0, 0⟩⟩
theorem okS : kS.Ok := ⟨fun _ => rfl, by decide, fun x u hu => by simp only [kS, List.mem_cons, List.not_mem_nil, or_false] at hu; rcases hu with rfl | rfl <;> rfl, Tryd.underlying43, ⟨_, (by kernel_rfl : (Tryd.prog.info? 48).map (fun i => (i.zero, i.size, i.bytes)) = some (some (.agg #[.string ⟨#[]⟩, .slice none 0 0]), 2, 40)), rfl⟩, by decide⟩
/-- The first m suffixes, in a row of the call's own, their factors apart from it. -/
structure Sf (B : Nat) (W : World) (v : Value) (m : Nat) (xs : List Su) : Prop where
  own : OwnR kS B W v xs
  len : xs.length = m
  tx : ∀ j, j < m → (xs.getD j kS.z).t = sufT j
  row : ∀ j, j < m → Row kI W (.slice (xs.getD j kS.z).a (xs.getD j kS.z).n (xs.getD j kS.z).c) (dg (sufN j))
  ap : ∀ j, j < m → ∀ ad, (xs.getD j kS.z).a = some ad → v.ownBlock ≠ some ad.block
theorem Sf.below {B m : Nat} {W W' : World} {v : Value} {xs : List Su} (h : Sf B W v m xs) (hb : Below W.heap.size W W') : Sf B W' v m xs :=
  ⟨h.own.below hb, h.len, h.tx, fun j hj => (h.row j hj).below hb, h.ap⟩
/-- A row stays, where what is not its block grows. -/
theorem row_kept {w w' : World} {F : Nat → Prop} {a : Option Addr} {n c : Nat} {d : List Nat} (H : Row kI w (.slice a n c) d) (hk : Kept F w w') (h : ∀ ad, a = some ad → ¬ F ad.block) : Row kI w' (.slice a n c) d := by
  obtain ⟨a', cap, e, h1, h2, h0, hc⟩ := H
  simp only [Value.slice.injEq] at e
  obtain ⟨rfl, rfl, rfl⟩ := e
  refine ⟨a, c, rfl, h1, h2, h0, fun k hk' => ?_⟩
  obtain ⟨b, off, ea, hcc⟩ := hc k hk'
  refine ⟨b, off, ea, fun j y hy => ?_⟩
  have q := hcc j y hy
  rw [← q]
  exact World.cell?_of_block (hk.block b (block_lt_of_cell q) (h ⟨b, off, none⟩ ea))
theorem getD_app {α : Type} (l : List α) (x d : α) (j : Nat) : (l ++ [x]).getD j d = if j = l.length then x else l.getD j d := by
  simp only [List.getD_eq_getElem?_getD]
  by_cases h : j < l.length
  · rw [List.getElem?_append_left h, if_neg (by omega)]
  · by_cases e : j = l.length
    · subst e; simp
    · rw [List.getElem?_append_right (by omega), if_neg e, List.getElem?_eq_none (by simp; omega), List.getElem?_eq_none (by omega)]
/-- One suffix more. -/
theorem Sf.more {B m : Nat} {W W' : World} {v v' : Value} {xs : List Su} (h : Sf B W v m xs) (x : Su) (ht : x.t = sufT m) (hr : Row kI W (.slice x.a x.n x.c) (dg (sufN m))) (hx : ∀ ad, x.a = some ad → v.ownBlock ≠ some ad.block ∧ ad.block < W.heap.size) (hxs : ∀ j, j < m → ∀ ad, (xs.getD j kS.z).a = some ad → ad.block < W.heap.size) (ho : OwnR kS B W' v' (xs ++ [x])) (hg : W.grownBy W' v.ownBlock) (hat : v'.ownBlock = v.ownBlock ∨ v'.ownBlock = some W.heap.size) : Sf B W' v' (m + 1) (xs ++ [x]) := by
  have kp := grown_kept hg
  refine ⟨ho, by rw [List.length_append, h.len]; rfl, fun j hj => ?_, fun j hj => ?_, fun j hj ad e => ?_⟩
  · rw [getD_app, h.len]
    split
    · rename_i e; rw [e]; exact ht
    · exact h.tx j (by omega)
  · rw [getD_app, h.len]
    split
    · rename_i e
      rw [e]
      exact row_kept hr kp (fun ad e2 q => (hx ad e2).1 q.symm)
    · exact row_kept (h.row j (by omega)) kp (fun ad e2 q => h.ap j (by omega) ad e2 q.symm)
  · rw [getD_app, h.len] at e
    have key : v.ownBlock ≠ some ad.block ∧ ad.block < W.heap.size := by
      split at e
      · exact hx ad e
      · exact ⟨h.ap j (by omega) ad e, hxs j (by omega) ad e⟩
    rcases hat with q | q
    · rw [q]; exact key.1
    · rw [q]
      intro z
      injection z with z
      omega
end Lg
end Go.Proofs.YtjegjpdeclgegaaDoor
