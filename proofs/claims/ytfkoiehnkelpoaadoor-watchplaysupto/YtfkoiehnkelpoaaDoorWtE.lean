/-
  The hub in memory: New, Low, High, forget.
-/
import Derived.Test.YtfkoiehnkelpoaaDoorWtD
namespace Go.Proofs.YtfkoiehnkelpoaaDoor
open Go.RowKit
namespace Wt
structure Hb (w : World) (g : Nat) (v : Value) (s : St) : Prop where
  hb : w.heap[g]? = some (.cells #[.int .i64 s.lo, .int .i64 s.hi, v] 65 (0, 0))
  row : OwnR kE 0 w v s.es
def HF (g : Nat) (v : Value) (k : Nat) : Prop := k = g ∨ some k = v.ownBlock
/-- Turned since w: the hub alone. -/
def Hd (w : World) (g : Nat) (v : Value) (v' : Value) (s : St) (w' : World) : Prop := Hb w' g v' s ∧ Kept (HF g v) w w' ∧ At v v' w
variable {w w' : World} {g : Nat} {v : Value} {s : St}
theorem Hb.kept {F : Nat → Prop} (h : Hb w g v s) (hk : Kept F w w') (h1 : ∀ k, HF g v k → ¬ F k) : Hb w' g v s :=
  ⟨(hk.block g (lt_of_some h.hb) (h1 g (.inl rfl))).trans h.hb, h.row.kept hk fun k e => h1 k (.inr e.symm)⟩
theorem Hb.below (h : Hb w g v s) (hb : Below w.heap.size w w') : Hb w' g v s := h.kept (Below.kept hb (fun _ => False)) fun _ _ q => q
theorem Hb.c0 (h : Hb w g v s) : w.cell? ⟨g, 0, none⟩ = some (.int .i64 s.lo) := cell_of_row w g 0 _ _ _ h.hb
theorem Hb.c1 (h : Hb w g v s) : w.cell? ⟨g, 1, none⟩ = some (.int .i64 s.hi) := cell_of_row w g 1 _ _ _ h.hb
theorem Hb.c2 (h : Hb w g v s) : w.cell? ⟨g, 2, none⟩ = some v := cell_of_row w g 2 _ _ _ h.hb
theorem Hb.frozen (h : Hb w g v s) (i : Nat) : w.frozen? ⟨g, i, none⟩ = false := frozen_row h.hb i
theorem Hb.ne (h : Hb w g v s) : ∀ k, v.ownBlock = some k → k ≠ g := fun k hk e => by
  obtain ⟨cs, m, q⟩ := h.row.ty k hk
  rw [e, h.hb] at q
  simp only [Option.some.injEq, Obj.cells.injEq] at q
  have h2 := q.2.1
  exact absurd h2 (by decide)
theorem set_row {w : World} {g : Nat} {cs : Array Value} {t : TypeId} (h : w.heap[g]? = some (.cells cs t (0, 0))) (i : Nat) (x : Value) : (w.setCell ⟨g, i, none⟩ x).heap[g]? = some (.cells (cs.setIfInBounds i x) t (0, 0)) := by
  exact heap_setCell_same _ _ _ _ _ _ h
theorem Hb.own_set (h : Hb w g v s) (i : Nat) (x : Value) : OwnR kE 0 (w.setCell ⟨g, i, none⟩ x) v s.es := h.row.grownO (grown_set w g i x) fun k hk e => h.ne k hk (by injection e)
theorem Hb.setLo (h : Hb w g v s) (x : Int) : Hb (w.setCell ⟨g, 0, none⟩ (.int .i64 x)) g v ⟨x, s.hi, s.es⟩ := ⟨set_row h.hb 0 _, h.own_set _ _⟩
theorem Hb.setHi (h : Hb w g v s) (x : Int) : Hb (w.setCell ⟨g, 1, none⟩ (.int .i64 x)) g v ⟨s.lo, x, s.es⟩ := ⟨set_row h.hb 1 _, h.own_set _ _⟩
theorem Hb.setEs (h : w.heap[g]? = some (.cells #[.int .i64 s.lo, .int .i64 s.hi, v] 65 (0, 0))) {v' : Value} {es : List Ev} (hr : OwnR kE 0 w v' es) (hne : ∀ k, v'.ownBlock = some k → k ≠ g) : Hb (w.setCell ⟨g, 2, none⟩ v') g v' ⟨s.lo, s.hi, es⟩ :=
  ⟨set_row h 2 _, hr.grownO (grown_set w g 2 _) fun k hk e => hne k hk (by injection e)⟩
theorem own_ne (h : w.heap[g]? = some (.cells #[.int .i64 s.lo, .int .i64 s.hi, v] 65 (0, 0))) {v' : Value} {es : List Ev} (hr : OwnR kE 0 w v' es) : ∀ k, v'.ownBlock = some k → k ≠ g := fun k hk e => by
  obtain ⟨cs, m, q⟩ := hr.ty k hk
  rw [e, h] at q
  simp only [Option.some.injEq, Obj.cells.injEq] at q
  have h2 := q.2.1
  exact absurd h2 (by decide)
theorem HF.set (w : World) (g : Nat) (v : Value) (i : Nat) (x : Value) : Kept (HF g v) w (w.setCell ⟨g, i, none⟩ x) := kept_set w _ x (.inl rfl)
theorem enters (f : FuncId) (fn : Func) (hf : Tryd.prog.funcs[f]? = some fn) (hn : (fn.name == "runtime.NumGoroutine") = false) (hb : fn.body.isSome = true) (args : Array Value) (w : World) : (callFunc f args).run Tryd.prog w = .ok (.enter f args) w := by
  obtain ⟨c, hc⟩ := Option.isSome_iff_exists.1 hb
  have hne : ¬ fn.name = "runtime.NumGoroutine" := fun e => by rw [e] at hn; simp at hn
  simp [callFunc, hf, hne, hc]
/-- A call as a step of a drawn region. -/
theorem step_calls {f : FuncId} {ops : Array Oper} {o : Oper} {a : Act} {K : Act → World → Prop} {Q : Exit → Act → World → Prop} {E : Prop} (hcf : ∀ args w, (callFunc f args).run Tryd.prog w = .ok (.enter f args) w) (hgd : o.guard = none) (ys : Array Operand) (ts : Array TypeId)
    (ho : o.op = .call { callee := .value (.func f), args := ys, argTypes := ts }) {us : Array Value} {W : World} (hy : ys.map a.eval = us) {P : Value → World → Prop}
    (hc : Calls Tryd.prog f us W fun e w1 => ∃ V, e = .returned V ∧ P V w1) (h : ∀ V w1, Hid (P V w1) → K (a.put o.dst V) w1) :
    if Region.wanted o (yielded ops a.tmps) = true then Oper.wp Tryd.prog o a W K Q else E := by
  have hw : Region.wanted o (yielded ops a.tmps) = true := by simp [Region.wanted, hgd]
  rw [if_pos hw]
  have hf : a.eval (.func f) = .func (.func f) #[] #[] := rfl
  have hrun : (execOp a.eval o).run Tryd.prog W = .ok (.enter f us) W := by
    unfold execOp
    simp only [ho, resolve, hf, hy, Deferred.ofValue, Sem.run_bind, Sem.run_pure, Result.andThen_ok, invoke]
    have e : (#[] ++ us ++ #[] : Array Value) = us := by simp
    rw [e]
    exact hcf _ W
  unfold Oper.wp
  rw [hrun, Oper.upon_enter]
  refine hc.mono ?_
  rintro e w1 ⟨V, rfl, hp⟩
  exact h V w1 (Lib.hid hp)
set_option maxHeartbeats 2000000 in
theorem new_any (x : Int) (w : World) : Calls Tryd.prog 18 #[.int .i64 x] w fun e w' => e = .returned (.pointer (some ⟨w.heap.size, 0, none⟩)) ∧ Hb w' w.heap.size (.slice none 0 0) ⟨min (max x 0) 1152921504606846976, min (max x 0) 1152921504606846976, []⟩ ∧ Below w.heap.size w w' := by
  obtain ⟨y, hy⟩ : ∃ y, y = min (max x 0) 1152921504606846976 := ⟨_, rfl⟩
  rw [← hy]
  go_enter Tryd.func18, Tryd.ntmps18
  go_wp2_with fail
  all_goals go_ret
  all_goals subst hy
  all_goals refine ⟨rfl, ⟨?_, OwnR.nil _ _ _⟩, (Below.refl _ _).alloc (Nat.le_refl _) _⟩
  all_goals rw [heap_alloc_new]
set_option maxHeartbeats 2000000 in
theorem low_any (w : World) (g : Nat) (v : Value) (s : St) (H : Hb w g v s) : Calls Tryd.prog 11 #[.pointer (some ⟨g, 0, none⟩)] w fun e w' => e = .returned (.int .i64 s.lo) ∧ w' = w := by
  have c0 := H.c0
  clear H
  go_enter Tryd.func11, Tryd.ntmps11
  go_wp2_with fail
  go_ret
  exact ⟨rfl, rfl⟩
set_option maxHeartbeats 2000000 in
theorem high_any (w : World) (g : Nat) (v : Value) (s : St) (H : Hb w g v s) : Calls Tryd.prog 12 #[.pointer (some ⟨g, 0, none⟩)] w fun e w' => e = .returned (.int .i64 s.hi) ∧ w' = w := by
  have c1 := H.c1
  clear H
  go_enter Tryd.func12, Tryd.ntmps12
  go_wp2_with fail
  go_ret
  exact ⟨rfl, rfl⟩
set_option maxHeartbeats 8000000 in
set_option maxRecDepth 100000 in
theorem forget_any (E : List Ev) (lo hi : Int) (w : World) (g : Nat) (v : Value) (H : Hb w g v ⟨lo, hi, E⟩) (hs : E.Pairwise (fun a b => a.v ≤ b.v)) (hr : ∀ e ∈ E, lo < e.v ∧ e.v ≤ hi) (hb : 0 ≤ lo ∧ lo ≤ hi ∧ hi ≤ 1152921504606846976) (hl : E.length ≤ 1000) :
    Calls Tryd.prog 48 #[.pointer (some ⟨g, 0, none⟩)] w fun e w' => e = .returned (.tuple #[]) ∧ ∃ (lo' : Int) (v' : Value), Hd w g v v' ⟨lo', hi, E.filter (gt lo')⟩ w' ∧ lo ≤ lo' ∧ lo' ≤ hi ∧ (E.filter (gt lo')).length ≤ 128 ∧ (lo' = lo ∨ 128 < (E.filter (gt (lo' - 1))).length) := by
  have H' := Lib.hid H
  have HR : Hid (E.Pairwise (fun a b => a.v ≤ b.v) ∧ (∀ e ∈ E, lo < e.v ∧ e.v ≤ hi) ∧ E.length ≤ 1000) := Lib.hid ⟨hs, hr, hl⟩
  clear H hs hr hl
  obtain ⟨hb0, hb1, hb2⟩ := hb
  go_enter Tryd.func48, Tryd.ntmps48
  go_wp2_with fail
  go_loopg [] (hi - lo).toNat (fun m wr => ∃ (lo' : Int) (v' : Value), m = (hi - lo').toNat ∧ lo ≤ lo' ∧ lo' ≤ hi ∧ Hid (Hd w g v v' ⟨lo', hi, E.filter (gt lo')⟩ wr ∧ (lo' = lo ∨ 128 < (E.filter (gt (lo' - 1))).length)))
  case atStart =>
    refine ⟨lo, v, rfl, Int.le_refl _, hb1, Lib.hid ⟨⟨?_, Kept.refl _ _, At.refl _ _⟩, .inl rfl⟩⟩
    have : E.filter (gt lo) = E := List.filter_eq_self.2 fun e he => by have := (HR.out.2.1 e he).1; simpa using this
    rw [this]; exact H'.out
  case round =>
    obtain ⟨lo', v', hm, hlo, hhi, R⟩ := hrel
    have G := Lib.hid hm
    clear hm
    obtain ⟨es, hes⟩ : ∃ es, es = E.filter (gt lo') := ⟨_, rfl⟩
    have HE := Lib.hid hes
    rw [← hes] at R
    have R1 := R.out.1.1
    obtain ⟨a, cap, rfl, hlc, hcm⟩ := (R1.row.row okE).len
    unfold maxLen at hcm
    simp only at hlc
    have c2 := R1.c2
    obtain ⟨n, hn⟩ : ∃ n, n = es.length := ⟨_, rfl⟩
    simp only at c2
    rw [← hn] at c2 hlc R
    have HN := Lib.hid hn
    clear hn hes R1
    by_cases hgt : n > 128
    · have hgt' : (n : Int) > 128 := by omega
      have hlt : lo' < hi := by
        rcases Int.lt_or_le lo' hi with q | q
        · exact q
        · have hz : es = [] := by
            rw [HE.out, List.filter_eq_nil_iff]
            intro e he
            have := (HR.out.2.1 e he).2
            simp; omega
          have := HN.out
          rw [hz] at this
          simp at this; omega
      have c0 := R.out.1.1.c0
      simp only at c0
      have f0 := R.out.1.1.frozen 0
      obtain ⟨w1, hw1⟩ : ∃ w1, w1 = wr.setCell ⟨g, 0, none⟩ (.int .i64 (lo' + 1)) := ⟨_, rfl⟩
      have S1 : Hid (Hd w g v (.slice a n cap) ⟨lo' + 1, hi, es⟩ w1) := Lib.hid (by
        rw [hw1]
        exact ⟨R.out.1.1.setLo _, R.out.1.2.1.trans (HF.set wr g v 0 _) (fun _ _ q => q), R.out.1.2.2⟩)
      have hw1' := hw1.symm
      clear hw1
      have d0 : w1.drew.cell? ⟨g, 0, none⟩ = some (.int .i64 (lo' + 1)) := S1.out.1.c0
      have d2 : w1.drew.cell? ⟨g, 2, none⟩ = some (.slice a n cap) := S1.out.1.c2
      have UP : Hid (Calls Tryd.prog 30 #[.slice a n cap, .int .i64 (lo' + 1)] w1.drew fun e w' => ∃ V, e = .returned V ∧ V = .int .i64 (upN es (lo' + 1)) ∧ w' = w1.drew) := Lib.hid ((upTo_any es (lo' + 1) _ w1.drew ((S1.out.1.row.below ((Below.refl _ w1).drew)).row okE)).mono fun _ _ q => ⟨_, q.1, rfl, q.2⟩)
      have DL : Hid (Calls Tryd.prog 63 #[.slice a n cap, .int .i64 0, .int .i64 (upN es (lo' + 1))] w1.drew fun e w' => ∃ v', e = .returned v' ∧ OwnR kE 0 w' v' (es.drop (upN es (lo' + 1))) ∧ v'.ownBlock = (Value.slice a n cap).ownBlock ∧ w1.drew.grownBy w' (Value.slice a n cap).ownBlock) := Lib.hid (delete_any es _ (upN_le _ _) 0 _ w1.drew (S1.out.1.row.below ((Below.refl _ w1).drew)))
      obtain ⟨u, hu⟩ : ∃ u, u = upN es (lo' + 1) := ⟨_, rfl⟩
      have HU : Hid (es.drop u = E.filter (gt (lo' + 1))) := Lib.hid (by
        have h1 : es.Pairwise (fun a b => a.v ≤ b.v) := by rw [HE.out]; exact HR.out.1.filter _
        rw [hu, drop_upN es _ h1, HE.out, filter_gt_gt _ (by omega)])
      rw [← hu] at UP DL
      clear hu
      go_wp2_with fail
      go_region_law (first
        | (refine step_calls (enters _ _ Tryd.func30 (by kernel_rfl) (by kernel_rfl)) rfl #[.tmp 23, .tmp 27] _ rfl (us := #[.slice a n cap, .int .i64 (lo' + 1)]) (by simp only [List.map_toArray, List.map_cons, List.map_nil]; rfl) UP.out ?_; intro V1 x1 q1; obtain ⟨rfl, rfl⟩ := q1.out; clear q1)
        | (refine step_calls (enters _ _ Tryd.func63 (by kernel_rfl) (by kernel_rfl)) rfl #[.tmp 19, .const (.int .i64 0), .tmp 28] _ rfl (us := #[.slice a n cap, .int .i64 0, .int .i64 u]) (by simp only [List.map_toArray, List.map_cons, List.map_nil]; rfl) DL.out ?_; intro V2 x2 q2; obtain ⟨n2, a2, cap2, rfl⟩ : ∃ n2 a2 c2, V2 = .slice a2 n2 c2 := by (obtain ⟨a', c', e'⟩ := q2.out.1.slice; exact ⟨_, a', c', e'⟩)
           have hx2 : x2.heap[g]? = some (.cells #[.int .i64 (lo' + 1), .int .i64 hi, .slice a n cap] 65 (0, 0)) := (q2.out.2.2.block g (lt_of_some S1.out.1.hb) (fun e => S1.out.1.ne g e.symm rfl)).trans S1.out.1.hb
           have z2 : x2.cell? ⟨g, 2, none⟩ = some (.slice a n cap) := cell_of_row _ _ 2 _ _ _ hx2
           have fz := frozen_row hx2 2
           have FN : Hid (Hd w g v (.slice a2 n2 cap2) ⟨lo' + 1, hi, E.filter (gt (lo' + 1))⟩ (x2.setCell ⟨g, 2, none⟩ (.slice a2 n2 cap2))) := Lib.hid (by
             refine ⟨?_, ?_, ?_⟩
             · have h1 := Hb.setEs (s := ⟨lo' + 1, hi, []⟩) hx2 q2.out.1 (own_ne (s := ⟨lo' + 1, hi, []⟩) hx2 q2.out.1)
               rw [HU.out] at h1
               exact h1
             · refine ((S1.out.2.1.trans (Below.kept ((Below.refl _ w1).drew) (fun _ => False)) (fun _ _ q => q.elim)).trans (grown_kept q2.out.2.2) (fun x hx q => ?_)).trans (HF.set x2 g v 2 _) (fun _ _ q => q)
               rcases S1.out.2.2 x q with c | c
               · exact .inr c
               · omega
             · intro k hk
               rw [q2.out.2.1] at hk
               exact S1.out.2.2 k hk)
           clear hx2))
      all_goals
        go_wp2_with fail
        go_roundg ((hi - (lo' + 1)).toNat)
        case measure => have := G.out; omega
        case rel => exact ⟨lo' + 1, _, rfl, by omega, by omega, Lib.hid ⟨FN.out, .inr (by rw [show lo' + 1 - 1 = lo' by omega, ← HE.out, ← HN.out]; exact hgt)⟩⟩
    · go_wp2_with fail
      go_end0
      refine ⟨rfl, lo', .slice a n cap, by have := R.out.1; rw [HE.out] at this; exact this, hlo, hhi, by have h1 := HN.out; have h2 := HE.out; rw [h2] at h1; omega, R.out.2⟩
end Wt
end Go.Proofs.YtfkoiehnkelpoaaDoor
