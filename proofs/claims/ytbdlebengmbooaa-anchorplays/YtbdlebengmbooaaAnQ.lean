/-
  What counts on a device; the state of Read.
-/
import Derived.Test.YtbdlebengmbooaaAnE
import Derived.Test.YtbdlebengmbooaaRdA
import Derived.Test.YtbdlebengmbooaaEdA
import Derived.Test.YtbdlebengmbooaaWrL
namespace Go.Proofs.Ytbdlebengmbooaa
open Go.RowKit Go.Maps
variable {B : Nat} {w W W' : World} {d mb mp : Nat} {cv : Value} {ds : DS}
theorem rdB_length (h : Fit ds) (b : Nat) (hb : b < ds.n) : (rdB ds b).length = 512 := by
  unfold rdB
  cases hl : lastIx b ds.cache 0 with
  | none => exact raw_length _ _ (by rw [h.len]; omega)
  | some i =>
    obtain ⟨_, _, x, hx, _⟩ := lastIx_lt b ds.cache 0 i hl
    have hx' : ds.cache[i]? = some x := by simpa using hx
    show (ds.cache.getD i (0, [])).2.length = 512
    rw [List.getD_eq_getElem?_getD, hx']
    exact (h.ok x (List.mem_of_getElem? hx')).2
/-- The device, one read on. -/
def rd1 (ds : DS) : DS := { ds with cr := up ds.cr }
theorem rdD_ok (hd : ds.down = false) (b : Nat) (hb : b < ds.n) : rdD ds (b : Int) = (rd1 ds, rdB ds b, 0) := by
  have h1 : hasB ds (b : Int) = true := by unfold hasB; rw [Bool.and_eq_true, decide_eq_true_iff, decide_eq_true_iff]; omega
  unfold rdD
  rw [if_neg (by rw [h1]; simp), if_neg (by rw [hd]; simp)]
  rfl
theorem foot_ty {g : Nat} {cs : Array Value} {t : TypeId} {fr : Nat × Nat} (h : Dv B W d mb mp cv ds) (hg : W.heap[g]? = some (.cells cs t fr)) (h1 : t ≠ 62) (h2 : t ≠ 80) (h3 : t ≠ 86) : ¬ Foot d mb mp cv g := by
  intro hf
  rcases hf with rfl | rfl | rfl | hf
  · rw [h.self] at hg; simp at hg; exact h1 hg.2.1.symm
  · rw [h.med] at hg; simp at hg; exact h2 hg.2.1.symm
  · obtain ⟨M, hM, _⟩ := h.latest
    obtain ⟨es, c, hm⟩ := map_block hM
    rw [hm] at hg; simp at hg
  · obtain ⟨cur2, hc2⟩ := row_block h.cache hf
    rw [hc2] at hg; simp at hg; exact h3 hg.2.1.symm
theorem results_cell2 {fn : Func} {p u v : Tmp} {ty : TypeId} (h : fn.results = #[.cell p ty, .tmp u, .tmp v]) (tmps : Array Value) (w : World) (ad : Addr) (x : Value)
    (hp : tmps.getD p undef = .pointer (some ad)) (hl : (loadVar ty ad).run Try.prog w = .ok x w) :
    (results fn tmps).run Try.prog w = .ok (.tuple #[x, tmps.getD u undef, tmps.getD v undef]) w := by
  have hp' : tmps[p]?.getD undef = .pointer (some ad) := by simpa using hp
  simp [results, h, hp', asAddr, hl, Result.andThen]
/-- A superblock against the one that counts so far. -/
def pickA (n k : Nat) (r : Sup × Int) (best : Sup) : Sup := if r.2 = 0 ∧ vaB r.1 (n : Int) = true ∧ r.1.gen % 2 = (k : Int) ∧ best.gen < r.1.gen then r.1 else best
/-- What counts of the first k blocks. -/
def bst (ds : DS) : Nat → Sup
  | 0 => zeroS
  | k + 1 => pickA ds.n k (decR (rdB ds k)) (bst ds k)
def rdk (ds : DS) : Nat → DS
  | 0 => ds
  | k + 1 => rd1 (rdk ds k)
/-- What Read answers of a device that is up. -/
def readU (ds : DS) : Sup × Int × Int := if (bst ds 2).gen = 0 then (zeroS, 0, 5) else (bst ds 2, (bst ds 2).gen % 2, 0)
def readR (ds : DS) : Sup × Int × Int := if ds.down = true then (zeroS, 0, 6) else readU ds
theorem va_gen {s : Sup} {n : Int} (h : vaB s n = true) : 1 ≤ s.gen ∧ s.blk = n := by
  have e : s.blk = n := by
    unfold vaB at h
    rw [Bool.and_eq_true, decide_eq_true_iff] at h
    exact h.1
  rw [← e] at h
  exact ⟨((vd_iff s).1 h).g1, e⟩
theorem bst_gen (ds : DS) : ∀ k, 0 ≤ (bst ds k).gen
  | 0 => Int.le_refl _
  | k + 1 => by
    rw [bst, pickA]
    split
    · rename_i h; have := (va_gen h.2.1).1; omega
    · exact bst_gen ds k
theorem rdk_down (h : ds.down = false) : ∀ k, (rdk ds k).down = false
  | 0 => h
  | k + 1 => by rw [rdk]; exact rdk_down h k
theorem rdk_same (ds : DS) : ∀ k b, rdB (rdk ds k) b = rdB ds b ∧ (rdk ds k).n = ds.n
  | 0, _ => ⟨rfl, rfl⟩
  | k + 1, b => by rw [rdk]; exact rdk_same ds k b
/-- In Read: the answer's box, the box of what counts so far, the device. -/
structure Rs (B : Nat) (w W : World) (d mb mp : Nat) (cv : Value) (gr gn : Nat) (t : DS) (s : Sup) : Prop where
  r : W.heap[gr]? = some (.cells zeroS.arr 34 (0, 0))
  n : W.heap[gn]? = some (.cells s.arr 34 (0, 0))
  dv : Dv B W d mb mp cv t
  kp : Kept (fun x => x = d) w W
  ne : gr ≠ gn ∧ gr ≠ d ∧ gn ≠ d ∧ w.heap.size ≤ gr ∧ w.heap.size ≤ gn
theorem Rs.below {gr gn : Nat} {t : DS} {s : Sup} (h : Rs B w W d mb mp cv gr gn t s) (hb : Below W.heap.size W W') : Rs B w W' d mb mp cv gr gn t s :=
  ⟨by rw [hb.block _ (lt_of_heap h.r)]; exact h.r, by rw [hb.block _ (lt_of_heap h.n)]; exact h.n, h.dv.below hb, h.kp.trans (Below.kept hb (fun x => x = d)) (fun _ _ q => q), h.ne⟩
theorem Rs.dev {gr gn : Nat} {t t' : DS} {s : Sup} (h : Rs B w W d mb mp cv gr gn t s) (hd : Dv B W' d mb mp cv t') (hk : Kept (fun k => k = d) W W') : Rs B w W' d mb mp cv gr gn t' s :=
  ⟨by rw [hk.block _ (lt_of_heap h.r) h.ne.2.1]; exact h.r, by rw [hk.block _ (lt_of_heap h.n) h.ne.2.2.1]; exact h.n, hd, h.kp.trans hk (fun _ _ q => q), h.ne⟩
theorem sup_foot {g : Nat} {s : Sup} (h : Dv B W d mb mp cv ds) (hg : W.heap[g]? = some (.cells s.arr 34 (0, 0))) : ¬ Foot d mb mp cv g :=
  foot_ty h hg (by decide) (by decide) (by decide)
theorem Rs.best {gr gn : Nat} {t : DS} {s : Sup} (h : Rs B w W d mb mp cv gr gn t s) (s' : Sup) : Rs B w (W.setRow gn s'.arr) d mb mp cv gr gn t s' :=
  ⟨by rw [setRow_other _ _ _ _ h.ne.1]; exact h.r, setRow_heap _ _ _ _ _ _ h.n, h.dv.kept (kept_setRow W gn _) (fun k hk e => sup_foot h.dv h.n (e ▸ hk)), h.kp.trans (kept_setRow W gn _) (fun x hx q => by have := h.ne.2.2.2.2; omega), h.ne⟩
/-- The answer's box filled. -/
theorem Rs.fill {gr gn : Nat} {t : DS} {s : Sup} (h : Rs B w W d mb mp cv gr gn t s) (s' : Sup) : (W.setRow gr s'.arr).heap[gr]? = some (.cells s'.arr 34 (0, 0)) ∧ Dv B (W.setRow gr s'.arr) d mb mp cv t ∧ Kept (fun x => x = d) w (W.setRow gr s'.arr) :=
  ⟨setRow_heap _ _ _ _ _ _ h.r, h.dv.kept (kept_setRow W gr _) (fun k hk e => sup_foot h.dv h.r (e ▸ hk)), h.kp.trans (kept_setRow W gr _) (fun x hx q => by have := h.ne.2.2.2.1; omega)⟩
theorem rd_at {gr gn k : Nat} {s : Sup} (hdn : ds.down = false) (hk : k < 2) (h : Rs B w W d mb mp cv gr gn (rdk ds k) s) :
    Calls Try.prog 42 #[.pointer (some ⟨d, 0, none⟩), .int .i64 (k : Int)] W fun e w' => ∃ v, e = .returned (.tuple #[v, .int .i64 0]) ∧ Own W.heap.size w' v (rdB ds k) ∧ Rs B w w' d mb mp cv gr gn (rdk ds (k + 1)) s := by
  have hn : k < (rdk ds k).n := by have := h.dv.fit.lo; omega
  have e := rdD_ok (rdk_down hdn k) k hn
  have hr := read_any h.dv (k : Int)
  rw [e] at hr
  refine hr.mono ?_
  rintro e w' ⟨v, rfl, ho, hd, hk2⟩
  simp only at ho hd
  rw [(rdk_same ds k k).1] at ho
  exact ⟨v, rfl, ho, h.dev hd hk2⟩
def setL : List Value → Nat → List Value → List Value
  | cur, _, [] => cur
  | cur, o, v :: r => setL (cur.set o v) (o + 1) r
theorem setCells_heap (b : Nat) (t : TypeId) : ∀ (vs : List Value) (o : Nat) (w : World) (cur : Array Value), w.heap[b]? = some (.cells cur t (0, 0)) → (w.setCells b o vs).heap[b]? = some (.cells (setL cur.toList o vs).toArray t (0, 0))
  | [], o, w, cur, h => by rw [World.setCells, h]; simp [setL]
  | v :: r, o, w, cur, h => by
    rw [World.setCells]
    have h1 : (w.setCell ⟨b, o, none⟩ v).heap[b]? = some (.cells (cur.setIfInBounds o v) t (0, 0)) := by
      rw [heap_setCell_same _ _ _ _ _ _ h]
    rw [setCells_heap b t r (o + 1) _ _ h1, setL]
    simp
theorem kept_setCells (b : Nat) : ∀ (vs : List Value) (o : Nat) (w : World), Kept (fun k => k = b) w (w.setCells b o vs)
  | [], o, w => by rw [World.setCells]; exact Kept.refl _ _
  | v :: r, o, w => by
    rw [World.setCells]
    exact (kept_set (F := fun k => k = b) w ⟨b, o, none⟩ v rfl).trans (kept_setCells b r (o + 1) _) (fun _ _ h => h)
/-- In Read's last row: the answer's box holds something. -/
structure Zs (B : Nat) (w W : World) (d mb mp : Nat) (cv : Value) (gr gn : Nat) (t : DS) (s : Sup) : Prop where
  n : W.heap[gn]? = some (.cells s.arr 34 (0, 0))
  r : ∃ z : Sup, W.heap[gr]? = some (.cells z.arr 34 (0, 0))
  dv : Dv B W d mb mp cv t
  kp : Kept (fun x => x = d) w W
  ne : gr ≠ gn ∧ w.heap.size ≤ gr
theorem Rs.zs {gr gn : Nat} {t : DS} {s : Sup} (h : Rs B w W d mb mp cv gr gn t s) : Zs B w W d mb mp cv gr gn t s := ⟨h.n, ⟨_, h.r⟩, h.dv, h.kp, h.ne.1, h.ne.2.2.2.1⟩
theorem Zs.below {gr gn : Nat} {t : DS} {s : Sup} (h : Zs B w W d mb mp cv gr gn t s) (hb : Below W.heap.size W W') : Zs B w W' d mb mp cv gr gn t s := by
  obtain ⟨h1, ⟨z, h2⟩, h3, h4, h5⟩ := h
  exact ⟨by rw [hb.block _ (lt_of_heap h1)]; exact h1, ⟨z, by rw [hb.block _ (lt_of_heap h2)]; exact h2⟩, h3.below hb, h4.trans (Below.kept hb (fun x => x = d)) (fun _ _ q => q), h5⟩
theorem Zs.drew {gr gn : Nat} {t : DS} {s : Sup} (h : Zs B w W d mb mp cv gr gn t s) : Zs B w W.drew d mb mp cv gr gn t s := h.below ⟨rfl, rfl, rfl, Nat.le_refl _, fun _ _ => rfl⟩
theorem Zs.range {gr gn : Nat} {t : DS} {s : Sup} (h : Zs B w W d mb mp cv gr gn t s) : W.rangeAt gn 0 s.arr.toList ∧ W.there gr 0 9 := by
  obtain ⟨h1, ⟨z, h2⟩, _, _, _⟩ := h
  refine ⟨?_, fun j hj => ⟨?_, frozen_of_row _ _ _ _ _ h2⟩⟩
  · intro j v hv
    rw [Nat.zero_add, cell_of_row W gn j _ _ _ h1]
    simpa using hv
  · have hz : z.arr.size = 9 := rfl
    rw [Nat.zero_add, cell_of_row W gr j _ _ _ h2, Array.getElem?_eq_getElem (by omega)]
    rfl
theorem Zs.store {gr gn : Nat} {t : DS} {s : Sup} (h : Zs B w W d mb mp cv gr gn t s) : Zs B w (W.setCells gr 0 s.arr.toList) d mb mp cv gr gn t s ∧ (W.setCells gr 0 s.arr.toList).heap[gr]? = some (.cells s.arr 34 (0, 0)) := by
  obtain ⟨h1, ⟨z, h2⟩, h3, h4, h5⟩ := h
  have hk := kept_setCells gr s.arr.toList 0 W
  have e : (W.setCells gr 0 s.arr.toList).heap[gr]? = some (.cells s.arr 34 (0, 0)) := by
    rw [setCells_heap gr _ _ 0 W _ h2]
    rfl
  exact ⟨⟨by rw [hk.block _ (lt_of_heap h1) h5.1.symm]; exact h1, ⟨s, e⟩, h3.kept hk (fun k hf q => sup_foot h3 h2 (q ▸ hf)), h4.trans hk (fun x hx q => by have := h5.2; omega), h5⟩, e⟩
theorem Zs.fill_below {gr : Nat} {s : Sup} (e : W.heap[gr]? = some (.cells s.arr 34 (0, 0))) (hb : Below W.heap.size W W') : W'.heap[gr]? = some (.cells s.arr 34 (0, 0)) := by rw [hb.block _ (lt_of_heap e)]; exact e
theorem enters (f : FuncId) (fn : Func) (hf : Try.prog.funcs[f]? = some fn) (hn : (fn.name == "runtime.NumGoroutine") = false) (hb : fn.body.isSome = true) (args : Array Value) (w : World) : (callFunc f args).run Try.prog w = .ok (.enter f args) w := by
  obtain ⟨c, hc⟩ := Option.isSome_iff_exists.1 hb
  have hne : ¬ fn.name = "runtime.NumGoroutine" := fun e => by rw [e] at hn; simp at hn
  simp [callFunc, hf, hne, hc]
theorem cf_home (args : Array Value) (w : World) : (callFunc 29 args).run Try.prog w = .ok (.enter 29 args) w := enters _ _ Try.func29 (by kernel_rfl) (by kernel_rfl) args w
/-- A call of home as a step of a drawn region. -/
theorem step_home {ops : Array Oper} {o : Oper} {a : Act} {K : Act → World → Prop} {Q : Exit → Act → World → Prop} {E : Prop} (hgd : o.guard = none) (x : Operand) (ts : Array TypeId)
    (ho : o.op = .call { callee := .value (.func 29), args := #[x], argTypes := ts }) (C : Array Value) (w : World) (hx : a.eval x = .agg C) (R : World → Prop) (r : Value)
    (hc : Calls Try.prog 29 #[.agg C] w fun e w' => e = .returned r ∧ R w') (t : Nat) (hd : o.dst = some t) (h : ∀ w1, R w1 → K (a.put (some t) r) w1) :
    if Region.wanted o (yielded ops a.tmps) = true then Oper.wp Try.prog o a w K Q else E := by
  have hw : Region.wanted o (yielded ops a.tmps) = true := by simp [Region.wanted, hgd]
  rw [if_pos hw]
  have hf : a.eval (.func 29) = .func (.func 29) #[] #[] := rfl
  have hrun : (execOp a.eval o).run Try.prog w = .ok (.enter 29 #[.agg C]) w := by
    unfold execOp
    simp only [ho, resolve, hf, hx, Deferred.ofValue, List.map_toArray, List.map_cons, List.map_nil, Sem.run_bind, Sem.run_pure, Result.andThen_ok, invoke]
    exact cf_home _ w
  unfold Oper.wp
  rw [hrun, Oper.upon_enter]
  refine hc.mono ?_
  rintro e w1 ⟨rfl, r1⟩
  rw [← hd] at h
  exact h w1 r1
end Go.Proofs.Ytbdlebengmbooaa
