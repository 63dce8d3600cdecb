/-
  SpaceGoesAgain: what is told; two rows in an array.
-/
import Derived.Test.YtfdhccanacpanaaSpH
import Derived.Deep.RegionHeldLaw
namespace Go.Proofs.Ytfdhccanacpanaa
open Go.RowKit
theorem OwnI.form {B : Nat} {w : World} {v : Value} {t : List Int} (h : OwnI B w v t) : ∃ a n c, v = .slice a n c := by
  obtain ⟨a, c, e, _⟩ := h.len
  exact ⟨a, _, c, e⟩
/-- A step's words, and the states behind it. -/
def gaS (x : OpS) (l : List UInt8) : List Int × List UInt8 :=
  if x.kind = 1 then ([(takeR 2 l).1, (takeR 2 l).2.1], (takeR 2 l).2.2) else if x.kind = 2 then ([(giveR 2 l x.block).1], (giveR 2 l x.block).2) else ([], l)
def gaR : List OpS → List UInt8 → List Int × List UInt8
  | [], l => ([], l)
  | x :: t, l => ((gaS x l).1 ++ (gaR t (gaS x l).2).1, (gaR t (gaS x l).2).2)
theorem gaR_snoc (t : List OpS) (x : OpS) (l : List UInt8) : gaR (t ++ [x]) l = ((gaR t l).1 ++ (gaS x (gaR t l).2).1, (gaS x (gaR t l).2).2) := by
  induction t generalizing l with
  | nil => simp [gaR]
  | cons y t ih =>
    simp only [List.cons_append, gaR]
    rw [ih]
    simp
theorem gaS_since {l0 l : List UInt8} (h : Since l0 l) (x : OpS) : Since l0 (gaS x l).2 := by
  unfold gaS
  split
  · exact since_take h 2
  · split
    · exact since_give h 2 _
    · exact h
theorem gaR_since {l0 l : List UInt8} (h : Since l0 l) (t : List OpS) : Since l0 (gaR t l).2 := by
  induction t generalizing l with
  | nil => exact h
  | cons x t ih => exact ih (gaS_since h x)
theorem gaS_len (x : OpS) (l : List UInt8) : (gaS x l).1.length ≤ 2 := by
  unfold gaS
  split
  · simp
  · split <;> simp
theorem gaR_len (t : List OpS) (l : List UInt8) : (gaR t l).1.length ≤ 2 * t.length := by
  induction t generalizing l with
  | nil => simp [gaR]
  | cons x t ih =>
    have h1 := gaS_len x l
    have h2 := ih (gaS x l).2
    simp only [gaR, List.length_append, List.length_cons]
    omega
/-- What a round tells. -/
def gaW (t : List OpS) (l : List UInt8) : List Int := (gaR t l).1 ++ [(freeN (gaR t l).2 : Int)] ++ those [1, 2] 2 (gaR t l).2 ++ those [3] 2 (gaR t l).2
/-- Two values, the first at r. -/
def arr2 (r : Nat) (a o : Value) : Array Value := if r = 0 then #[a, o] else #[o, a]
theorem arr2_at (r : Nat) (hr : r < 2) (a o : Value) : (arr2 r a o)[r]? = some a := by
  match r, hr with
  | 0, _ => rfl
  | 1, _ => rfl
theorem arr2_set (r : Nat) (hr : r < 2) (a o x : Value) : (arr2 r a o).setIfInBounds r x = arr2 r x o := by
  match r, hr with
  | 0, _ => rfl
  | 1, _ => rfl
structure Ga (w W : World) (d sb g : Nat) (l : List UInt8) (r : Nat) (ua uo : Value) (La Lo : List Int) : Prop where
  sp : Sp w.heap.size W d sb 2 l
  bl : Below w.heap.size w W
  arr : W.heap[g]? = some (.cells (arr2 r ua uo) 39 (0, 0))
  gb : w.heap.size ≤ g
  r2 : r < 2
  oa : OwnI w.heap.size W ua La
  oo : OwnI w.heap.size W uo Lo
  ap : ∀ k, ua.ownBlock = some k → uo.ownBlock ≠ some k
variable {w W W' : World} {d sb g r : Nat} {l l' : List UInt8} {ua uo : Value} {La Lo : List Int}
theorem Ga.below (h : Ga w W d sb g l r ua uo La Lo) (b : Below W.heap.size W W') : Ga w W' d sb g l r ua uo La Lo :=
  ⟨h.sp.below b, h.bl.trans (b.mono h.bl.size), by rw [b.block g (lt_of_heap h.arr)]; exact h.arr, h.gb, h.r2, h.oa.below b, h.oo.below b, h.ap⟩
theorem Ga.drew (h : Ga w W d sb g l r ua uo La Lo) : Ga w W.drew d sb g l r ua uo La Lo := h.below ⟨rfl, rfl, rfl, Nat.le_refl _, fun _ _ => rfl⟩
theorem Ga.gsb (h : Ga w W d sb g l r ua uo La Lo) : g ≠ sb := fun e => by
  have h1 := h.arr
  subst e
  rw [h.sp.sts] at h1
  simp at h1
theorem Ga.gd (h : Ga w W d sb g l r ua uo La Lo) : g ≠ d := fun e => by
  have h1 := h.arr
  subst e
  rw [h.sp.self] at h1
  simp at h1
theorem Ga.ga (h : Ga w W d sb g l r ua uo La Lo) : ∀ k, ua.ownBlock = some k → k ≠ g := fun k hk e => by
  obtain ⟨cur, hc⟩ := h.oa.row hk
  subst e
  rw [h.arr] at hc
  simp at hc
theorem Ga.go (h : Ga w W d sb g l r ua uo La Lo) : ∀ k, uo.ownBlock = some k → k ≠ g := fun k hk e => by
  obtain ⟨cur, hc⟩ := h.oo.row hk
  subst e
  rw [h.arr] at hc
  simp at hc
theorem Ga.step (h : Ga w W d sb g l r ua uo La Lo) (s : Sp w.heap.size W' d sb 2 l') (K : Kept (fun k => k = sb) W W') : Ga w W' d sb g l' r ua uo La Lo :=
  ⟨s, h.sp.trans h.bl K, by rw [K.block g (lt_of_heap h.arr) h.gsb]; exact h.arr, h.gb, h.r2, h.oa.sp h.sp K, h.oo.sp h.sp K, h.ap⟩
theorem Ga.cell (h : Ga w W d sb g l r ua uo La Lo) : W.cell? ⟨g, r, none⟩ = some ua := by
  rw [cell_of_row W g r _ _ _ h.arr]; exact arr2_at r h.r2 ua uo
theorem Ga.free (h : Ga w W d sb g l r ua uo La Lo) : W.frozen? ⟨g, r, none⟩ = false := frozen_of_row W g r _ _ h.arr
/-- Behind an append, ahead of the store. -/
theorem Ga.cell2 (h : Ga w W d sb g l r ua uo La Lo) (hg : W.grownBy W' ua.ownBlock) : W'.cell? ⟨g, r, none⟩ = some ua ∧ W'.frozen? ⟨g, r, none⟩ = false := by
  have e : W'.heap[g]? = some (.cells (arr2 r ua uo) 39 (0, 0)) := by
    rw [(grown_kept hg).block g (lt_of_heap h.arr) (fun e => h.ga g e.symm rfl)]; exact h.arr
  exact ⟨by rw [cell_of_row W' g r _ _ _ e]; exact arr2_at r h.r2 ua uo, frozen_of_row W' g r _ _ e⟩
theorem Ga.app {v' : Value} {m : List Int} (h : Ga w W d sb g l r ua uo La Lo) (o1 : OwnI w.heap.size W' v' (La ++ m)) (o2 : W.grownBy W' ua.ownBlock) (o3 : At ua v' W) : Ga w (W'.setCell ⟨g, r, none⟩ v') d sb g l r v' uo (La ++ m) Lo := by
  have K1 := grown_kept o2
  have K2 : Kept (fun k => k = g) W' (W'.setCell ⟨g, r, none⟩ v') := kept_set _ _ _ rfl
  have e : W'.heap[g]? = some (.cells (arr2 r ua uo) 39 (0, 0)) := by
    rw [K1.block g (lt_of_heap h.arr) (fun e => h.ga g e.symm rfl)]; exact h.arr
  have s1 : Sp w.heap.size W' d sb 2 l := h.sp.grown h.oa o2
  have bW : Below w.heap.size W W' := (Below.refl _ _).grown o2 h.bl.size fun k hk => (h.oa.lt k hk).1
  have oo1 : OwnI w.heap.size W' uo Lo := h.oo.kept K1 fun k hk e => h.ap k e.symm hk
  refine ⟨s1.kept K2 (fun e => h.gd e.symm) (fun e => h.gsb e.symm), (h.bl.trans bW).trans (K2.below (Nat.le_trans h.bl.size bW.size) (fun x hx => by rw [hx]; exact h.gb)), ?_, h.gb, h.r2, ?_, ?_, ?_⟩
  · rw [heap_setCell_same _ _ _ _ _ _ e, arr2_set r h.r2]
  · refine o1.kept K2 fun k hk e2 => ?_
    obtain ⟨cur, hc⟩ := o1.row hk
    subst e2
    rw [e] at hc
    simp at hc
  · exact oo1.kept K2 fun k hk e2 => h.go k hk e2
  · intro k hk hk2
    rcases o3 k hk.symm with q | q
    · exact h.ap k q.symm hk2
    · have := (h.oo.lt k hk2).2
      omega
/-- Numbers behind a row, as one step of a region that draws its order. -/
theorem step_app_ints {ops : Array Oper} {o : Oper} {a : Act} {w : World} {K : Act → World → Prop} {Q : Exit → Act → World → Prop} {E : Prop} (hgd : o.guard = none) (so x : Operand)
    (ho : o.op = .call { callee := .builtin .append, args := #[so, x], argTypes := #[27, 27] })
    {B : Nat} {v u : Value} {p q : List Int} (hs : a.eval so = v) (hown : OwnI B w v p) (hB : B ≤ w.heap.size) (hx : a.eval x = u) (hu : Ints w u q) (hl : p.length + q.length ≤ 1000000000) (t : Nat) (hd : o.dst = some t)
    (h : ∀ a' n' c' w', OwnI B w' (.slice a' n' c') (p ++ q) ∧ w.grownBy w' v.ownBlock ∧ At v (.slice a' n' c') w → K (a.put (some t) (.slice a' n' c')) w') :
    if Region.wanted o (yielded ops a.tmps) = true then Oper.wp Try.prog o a w K Q else E := by
  rw [← hd] at h
  have hw : Region.wanted o (yielded ops a.tmps) = true := by simp [Region.wanted, hgd]
  rw [if_pos hw]
  obtain ⟨i0, hi, hz0, hz1, hz2⟩ := info_parts info_int
  obtain ⟨ad, cap, rfl, hlc, hcm, hn, hc⟩ := hu
  cases ad with
  | none =>
    obtain rfl := hn rfl
    obtain rfl : q = [] := by simpa using hlc
    have hrun := run_append_owned_none (P := Try.prog) (w := w) B 27 o.type 3 i0 1 Try.underlying27 hi v p.length (cellsI p) hown
    unfold Oper.wp execOp
    simp only [ho, resolve, invoke, builtin, Sem.run_bind, Sem.run_pure, Result.andThen_ok, List.map_toArray, List.map_cons, List.map_nil, hs, hx]
    simp only [List.length_nil]
    rw [hrun]
    obtain ⟨a7, n7, c7, rfl⟩ := hown.form
    exact h a7 n7 c7 w ⟨by simpa using hown, ⟨rfl, rfl, rfl, Nat.le_refl _, fun _ _ _ => rfl⟩, At.refl _ _⟩
  | some ad =>
    obtain ⟨v', w', hr, h2, h3, _, h5⟩ := run_append_own_at (P := Try.prog) w B 27 o.type 3 i0 (.int .i64 0) 1 8 Try.underlying27 hi hz0 hz1 hz2 rfl (by decide) v p.length (cellsI p) hown ad q.length cap (cellsI q) (by rw [cellsI_length, Nat.mul_one]) (newsI hc) (cellsI_one q) (by unfold maxLen; omega) (by omega) hB
    unfold Oper.wp execOp
    simp only [ho, resolve, invoke, builtin, Sem.run_bind, Sem.run_pure, Result.andThen_ok, List.map_toArray, List.map_cons, List.map_nil, hs, hx, hr]
    have o2 : OwnI B w' v' (p ++ q) := by
      show w'.ownsRow _ _ _ _ _ _
      rw [cellsI_app, List.length_append]; exact h2
    obtain ⟨a7, n7, c7, rfl⟩ := o2.form
    exact h a7 n7 c7 w' ⟨o2, h3, at_of h5 (Nat.le_refl _)⟩
theorem takeH {P : Program} {ops : Array Oper} {Q : Exit → Act → World → Prop} {md : Region.Mode} {S : World → Prop} {i t : Nat} {oi : Oper} {v : Value} {fuel : Nat} {listed : Array Bool} {a : Act} {w : World} (hi : ops[i]? = some oi) (hd : oi.dst = some t)
    (hs : Region.noSelect ops = true) (hf : Region.free md ops listed i = true) (hr : (Region.ready md ops listed).contains i = true)
    (hQ : ∀ c a w, Q (.panic c) (a.put (some t) v) w → Q (.panic c) a w) (hy : YieldsIf P ops S oi v a) (hS : S w)
    (h : wpAnyH P md ops Q S fuel (listed.setIfInBounds i true) (a.put (some t) v) w) : wpAnyH P md ops Q S (fuel + 1) listed a w := by
  rw [← hd] at hQ h
  exact wpAnyH_take hi hs hf hr hQ hy hS h
end Go.Proofs.Ytfdhccanacpanaa
