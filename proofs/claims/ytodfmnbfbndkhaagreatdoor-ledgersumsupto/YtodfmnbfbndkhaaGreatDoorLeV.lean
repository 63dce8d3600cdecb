/-
  What move's loops hold.
-/
import Derived.Test.YtodfmnbfbndkhaaGreatDoorLeS
import Derived.Sort.QuietIn
namespace Go.Proofs.YtodfmnbfbndkhaaGreatDoor
open Go.RowKit Go.Shelf
namespace Le
/-- The error that refuses, the sums behind it. -/
noncomputable def mvE (c : Bool) (f : Ky → Int) (o : Ob) : Int := if shE o ≠ 0 then shE o else chk c f (shR o)
open Classical in
noncomputable def mvF (c : Bool) (f : Ky → Int) (o : Ob) : Ky → Int := if mvE c f o = 0 then app c f (shR o) else f
/-- The shares' sizes; no place twice. -/
structure ShOk (l : Sh) : Prop where
  nd : (l.map Prod.fst).Nodup
  ok : ∀ e ∈ l, Okk e
  len : l.length ≤ 1000000000000
/-- Amid a loop over the shares: the ledger, the boxes. -/
structure Mv (w : World) (t b n : Nat) (D : DataW Unit) (bf : Value) (e6 : Int) (g3 g5 g6 gz : Nat) (W : World) : Prop where
  ld : Ld W t b n D
  b3 : W.heap[g3]? = some (.cells #[.pointer (some ⟨t, 0, none⟩)] 26 (0, 0))
  b5 : W.heap[g5]? = some (.cells #[bf] 72 (0, 0))
  b6 : W.heap[g6]? = some (.cells #[.int .i64 e6] 29 (0, 0))
  kp : Kept (fun y => y = b) w W
  gs : gz ≤ W.heap.size
variable {w W W' : World} {t b n : Nat} {D : DataW Unit} {bf : Value} {e6 : Int} {g3 g5 g6 gz : Nat}
theorem cells_same {W W' : World} {row : Option Nat} {B y : Nat} {cs : Array Value} {ty : TypeId} (hg : W.grownBy W' row) (hr : ∀ r, row = some r → B ≤ r ∧ ∃ o : Obj, W.heap[r]? = some o ∧ o.isCells = false) (h : W.heap[y]? = some (.cells cs ty (0, 0))) : W'.heap[y]? = some (.cells cs ty (0, 0)) :=
  (hg.block y (lt_of_some h) (fun e => by
    obtain ⟨_, o, ho, hc⟩ := hr y e.symm
    rw [h] at ho
    simp only [Option.some.injEq] at ho
    rw [← ho] at hc
    simp [Obj.isCells] at hc)).trans h
theorem Mv.grown (h : Mv w t b n D bf e6 g3 g5 g6 gz W) {row : Option Nat} {B : Nat} (hB : w.heap.size ≤ B) (hbB : b < w.heap.size) (hg : W.grownBy W' row) (hr : ∀ r, row = some r → B ≤ r ∧ ∃ o : Obj, W.heap[r]? = some o ∧ o.isCells = false) : Mv w t b n D bf e6 g3 g5 g6 gz W' := by
  refine ⟨⟨cells_same hg hr h.ld.t, own_same h.ld.m (hg.block b h.ld.m.lt (fun e => ?_))⟩, cells_same hg hr h.b3, cells_same hg hr h.b5, cells_same hg hr h.b6, h.kp.trans (grown_kept hg) (fun y hy e => ?_), Nat.le_trans h.gs hg.size⟩
  · have := (hr b e.symm).1
    omega
  · have := (hr y e.symm).1
    omega
theorem Mv.below (h : Mv w t b n D bf e6 g3 g5 g6 gz W) (hb : Below W.heap.size W W') : Mv w t b n D bf e6 g3 g5 g6 gz W' :=
  ⟨h.ld.below hb, (hb.block _ (lt_of_some h.b3)).trans h.b3, (hb.block _ (lt_of_some h.b5)).trans h.b5, (hb.block _ (lt_of_some h.b6)).trans h.b6, h.kp.trans (Below.kept hb (fun _ => False)) (fun _ _ e => e.elim), Nat.le_trans h.gs hb.size⟩
theorem results_cell0 {fn : Func} {p : Tmp} {ty : TypeId} (h : fn.results = #[.cell p ty]) (tmps : Array Value) (w : World) (ad : Addr) (x : Value)
    (hp : tmps.getD p undef = .pointer (some ad)) (hl : (loadVar ty ad).run Tryz.prog w = .ok x w) :
    (results fn tmps).run Tryz.prog w = .ok x w := by
  have hp' : tmps[p]?.getD undef = .pointer (some ad) := by simpa using hp
  simp [results, h, hp', asAddr, hl]
theorem load_err {g : Nat} {v : Int} (h : w.heap[g]? = some (.cells #[.int .i64 v] 29 (0, 0))) : (loadVar 29 ⟨g, 0, none⟩).run Tryz.prog w = .ok (.int .i64 v) w := by
  have c : w.cell? ⟨g, 0, none⟩ = some (.int .i64 v) := by rw [cell_of_row _ _ _ _ _ _ h]; rfl
  simp [loadVar, go_sem, c]
/-- No statement of these is a deferred call. -/
def noDefer (o : Oper) : Bool := match o.op with
  | .defer _ => false
  | _ => true
theorem upon_round {F : Fence} {m : Nat} {P : Program} {o : Oper} {a : Act} {K : Act → World → Prop} {Q : Exit → Act → World → Prop} {r : Result Next} (l : Nat) (h : o.uponIn F m P a K Q r) : o.uponIn (F.inRound l) m P a K Q r := by
  cases r with
  | ok x w' => cases x <;> exact h
  | halt x w' => cases x <;> exact h
theorem wpAnyIn_round {F : Fence} {m : Nat} {P : Program} {md : Region.Mode} {ops : Array Oper} {Q : Exit → Act → World → Prop} (l : Nat) (hro : F.round = none) (hd : ∀ (i : Nat) (o : Oper), ops[i]? = some o → ∀ c, o.op ≠ .defer c) :
    ∀ (fuel : Nat) (listed : Array Bool) (a : Act) (w : World), wpAnyIn F m P md ops Q fuel listed a w → wpAnyIn (F.inRound l) m P md ops Q fuel listed a w := by
  intro fuel
  induction fuel with
  | zero => intro listed a w h; exact h
  | succ fuel ih =>
    intro listed a w h
    refine ⟨h.1, fun i hi => ?_⟩
    have hh := h.2 i hi
    unfold wpOpIn at hh ⊢
    cases ho : ops[i]? with
    | none => rw [ho] at hh; exact ih _ _ _ hh
    | some o =>
      rw [ho] at hh
      simp only at hh ⊢
      split
      · rename_i hw
        rw [if_pos hw] at hh
        have h2 := Oper.wpIn_mono (fun a w => ih _ a w) hh
        unfold Oper.wpIn at h2 ⊢
        refine ⟨h2.1, ?_⟩
        have e : o.semAt (F.inRound l).round a.eval = o.semAt F.round a.eval := by
          rw [hro, Oper.semAt_none]
          exact Oper.semAt_some l _ _ (hd i o ho)
        rw [e]
        exact upon_round l h2.2
      · rename_i hw
        rw [if_neg hw] at hh
        exact ⟨hh.1, ih _ _ _ hh.2⟩
theorem kept_puts {V : World} {D1 D2 : Nat} {o1 o2 : Obj} (h : Kept (fun y => y = b) w V) (h1 : w.heap.size ≤ D1) (h2 : w.heap.size ≤ D2) : Kept (fun y => y = b) w ((V.putObj D2 o2).putObj D1 o1) := by
  refine (h.trans (grown_kept (grownBy_putObj' V D2 o2)) (fun y hy e => ?_)).trans (grown_kept (grownBy_putObj' _ D1 o1)) (fun y hy e => ?_)
  · have : y = D2 := Option.some.inj e
    omega
  · have : y = D1 := Option.some.inj e
    omega
/-- A region that draws, of operations that only read, in a round. -/
theorem region_round {F : Fence} {m id : Nat} {P : Program} {Q : Exit → Act → World → Prop} {a : Act} {w : World} {lst : List Oper} (l : Nat) (hro : F.round = none) (hm : P.follows .mixedOrders = true) (hB : Region.lexB .any lst.toArray = true) (hd : lst.all noDefer = true)
    (h : wpQuietIn F m P lst.toArray (fun w' => ∃ q, w' = w.drewN q) (fun a' => ∀ w', (∃ q, w' = w.drewN q) → Q .normal a' w') lst a) : (Code.region id lst.toArray true).wpIn (F.inRound l) m P Q a w := by
  simp only [Region.lexB, Bool.and_eq_true] at hB
  refine wpIn_region_any hm (wpAnyIn_round l hro (fun i o ho c e => ?_) _ _ _ _ (wpAnyIn_of_quiet (C := fun w' => ∃ q, w' = w.drewN q) (Q := fun a' => ∀ w', (∃ q, w' = w.drewN q) → Q .normal a' w') hro (fun _ w' hw' h => h w' hw') _ _ _ _ ⟨1, rfl⟩ ?_))
  · have h1 : o ∈ lst := by
      have := Array.mem_of_getElem? ho
      simpa using this
    have h2 := List.all_eq_true.1 hd o h1
    unfold noDefer at h2
    rw [e] at h2
    simp at h2
  · have := wpAnyQIn_lex (F := F) (n := m) (C := fun w' => ∃ q, w' = w.drewN q) (md := .any) hB.1 lst 0 (Array.replicate lst.toArray.size false) a (by simp) (by simpa using hB.2) h
    simpa using this
theorem keepsFrom_kept {B : Nat} (hk : Kept (fun y => y < B) W W') : KeepsFrom B W W' := ⟨hk.size, fun k _ hB hk' _ => (hk.block k (lt_of_some hk') (by omega)).trans hk'⟩
theorem kp_below (hb : Below W.heap.size W W') : Kp W W' := ⟨hb.size, fun y _ _ _ h => (hb.block y (lt_of_some h)).trans h⟩
/-- A round that turned the sums alone. -/
theorem kp_map {es : Array MapEntry} {ck : Nat} (hm : W.heap[b]? = some (.map es ck)) (hk : Kept (fun y => y = b) W W') : Kp W W' := by
  refine ⟨hk.size, fun y _ _ _ h => (hk.block y (lt_of_some h) (fun e => ?_)).trans h⟩
  subst e
  rw [hm] at h
  simp at h
theorem kp_trans {A B C : World} (h : Kp A B) (k : Kp B C) : Kp A C := ⟨Nat.le_trans h.1 k.1, fun y cs ty fr e => k.2 y cs ty fr (h.2 y cs ty fr e)⟩
theorem kp_put (W : World) (l : Nat) (o o' : Obj) (ho : W.heap[l]? = some o) (hc : o.isCells = false) : Kp W (W.putObj l o') := by
  refine ⟨by simp [World.putObj], fun y cs ty fr h => ?_⟩
  by_cases e : y = l
  · rw [e, ho] at h
    simp only [Option.some.injEq] at h
    rw [h] at hc
    simp [Obj.isCells] at hc
  · exact (World.putObj_heap_other e).trans h
end Le
end Go.Proofs.YtodfmnbfbndkhaaGreatDoor
