/-
  THE DOCUMENT'S DEVICE: Write, Edit.
-/
import Derived.Test.YtbdlebengmbooaaRfD
namespace Go.Proofs.Ytbdlebengmbooaa
open Go.RowKit Go.Maps
namespace Rf
theorem step_app1 {α : Type} {K : Kd α} (ok : K.Ok) {ops : Array Oper} {o : Oper} {a : Act} {w : World} {C : Act → World → Prop} {Q : Exit → Act → World → Prop} {E : Prop} (hgd : o.guard = none) (so x : Operand)
    (ho : o.op = .call { callee := .builtin .append, args := #[so, x], argTypes := #[K.s, K.s] })
    {B : Nat} {v : Value} {L : List α} (hs : a.eval so = v) (hown : OwnR K B w v L) (hB : B ≤ w.heap.size) (y : α) {cs : Array Value} (hcs : cs = (K.c y).toArray) {g : Nat} (hg : g = w.heap.size) (hx : a.eval x = .slice (some ⟨g, 0, none⟩) 1 1) (hl : (L.length + 1) * K.b ≤ 140737488355328)
    (h : ∀ a' n' c' w', Hid (OwnR K B w' (.slice a' n' c') (L ++ [y]) ∧ (w.alloc (.cells cs K.t)).grownBy w' v.ownBlock ∧ ((Value.slice a' n' c').ownBlock = v.ownBlock ∨ (Value.slice a' n' c').ownBlock = some (w.alloc (.cells cs K.t)).heap.size)) → C (a.put o.dst (.slice a' n' c')) w') :
    if Region.wanted o (yielded ops a.tmps) = true then Oper.wp Try.prog o a (w.alloc (.cells cs K.t)) C Q else E := by
  subst hcs hg
  have hw : Region.wanted o (yielded ops a.tmps) = true := by simp [Region.wanted, hgd]
  rw [if_pos hw]
  obtain ⟨zv, hinf, hzc⟩ := ok.inf
  obtain ⟨i0, hi, hz0, hz1, hz2⟩ := info_parts hinf
  have hb := ok.by0
  obtain ⟨v', w', hr, h2, h3, _, h5⟩ := run_append_own_at (P := Try.prog) (w.alloc (.cells (K.c y).toArray K.t)) B K.s o.type K.t i0 zv K.k K.b ok.und hi hz0 hz1 hz2 hzc ok.pos v L.length (cellsR K L) (World.ownsRow.alloc hown _) ⟨w.heap.size, 0, none⟩ 1 1 (K.c y) (by rw [ok.len, Nat.one_mul]) (by
    intro j u hj
    rw [add_plain, Nat.zero_add, World.cell?_alloc_new, ← Array.getElem?_toList]; exact hj) (ok.one y) (by have := Nat.le_mul_of_pos_right (L.length + 1) hb.1; unfold maxLen; omega) hl (by simp; omega)
  unfold Oper.wp execOp
  simp only [ho, resolve, invoke, builtin, Sem.run_bind, Sem.run_pure, Result.andThen_ok, List.map_toArray, List.map_cons, List.map_nil, hs, hx, hr]
  have o2 : OwnR K B w' v' (L ++ [y]) := by
    show w'.ownsRow _ _ _ _ _ _
    rw [cellsR_app, List.length_append, cellsR_single]; exact h2
  obtain ⟨a7, c7, e7⟩ := o2.slice
  subst e7
  exact h a7 _ c7 w' (Lib.hid ⟨o2, h3, h5⟩)
theorem enters (f : FuncId) (fn : Func) (hf : Try.prog.funcs[f]? = some fn) (hn : (fn.name == "runtime.NumGoroutine") = false) (hb : fn.body.isSome = true) (args : Array Value) (w : World) : (callFunc f args).run Try.prog w = .ok (.enter f args) w := by
  obtain ⟨c, hc⟩ := Option.isSome_iff_exists.1 hb
  have hne : ¬ fn.name = "runtime.NumGoroutine" := fun e => by rw [e] at hn; simp at hn
  simp [callFunc, hf, hne, hc]
/-- A call as a step of a drawn region. -/
theorem step_calls {f : FuncId} {ops : Array Oper} {o : Oper} {a : Act} {K : Act → World → Prop} {Q : Exit → Act → World → Prop} {E : Prop} (hcf : ∀ args w, (callFunc f args).run Try.prog w = .ok (.enter f args) w) (hgd : o.guard = none) (ys : Array Operand) (ts : Array TypeId)
    (ho : o.op = .call { callee := .value (.func f), args := ys, argTypes := ts }) {us : Array Value} {W : World} (hy : ys.map a.eval = us) {P : Value → World → Prop}
    (hc : Calls Try.prog f us W fun e w1 => ∃ V, e = .returned V ∧ P V w1) (h : ∀ V w1, Hid (P V w1) → K (a.put o.dst V) w1) :
    if Region.wanted o (yielded ops a.tmps) = true then Oper.wp Try.prog o a W K Q else E := by
  have hw : Region.wanted o (yielded ops a.tmps) = true := by simp [Region.wanted, hgd]
  rw [if_pos hw]
  have hf : a.eval (.func f) = .func (.func f) #[] #[] := rfl
  have hrun : (execOp a.eval o).run Try.prog W = .ok (.enter f us) W := by
    unfold execOp
    simp only [ho, resolve, hf, hy, Deferred.ofValue, Sem.run_bind, Sem.run_pure, Result.andThen_ok, invoke]
    have e : (#[] ++ us ++ #[] : Array Value) = us := by simp
    rw [e]
    exact hcf _ W
  unfold Oper.wp
  rw [hrun, Oper.upon_enter]
  refine hc.mono ?_
  rintro e w1 ⟨V, rfl, hp⟩
  exact h V w1 (Lib.hid hp)
variable {B B' n : Nat} {w w' w1 w7 : World} {x : Nat} {bv lv kv v7 : Value} {s s' : RD} {y : Ly}
/-- What a call on it leaves. -/
def RL (B : Nat) (w : World) (x : Nat) (bv lv kv : Value) (w' : World) (s' : RD) : Prop := ∃ lv' kv', Rd B w' x bv lv' kv' s' ∧ Kept (RFoot x lv kv) w w' ∧ ∀ k, RFoot x lv' kv' k → RFoot x lv kv k ∨ w.heap.size ≤ k
theorem RL.same (h : Rd B w' x bv lv kv s) (hk : Kept (RFoot x lv kv) w w') : RL B w x bv lv kv w' s := ⟨lv, kv, h, hk, fun _ h => .inl h⟩
theorem RL.self (h : Rd B w' x bv lv kv s) (hk : Kept (fun k => k = x) w w') : RL B w x bv lv kv w' s := RL.same h (hk.mono (fun _ _ e => .inl e))
/-- One step behind another. -/
theorem RL.trans {lv' kv' : Value} (hk : Kept (RFoot x lv kv) w w1) (hf : ∀ k, RFoot x lv' kv' k → RFoot x lv kv k ∨ w.heap.size ≤ k) (h : RL B w1 x bv lv' kv' w' s) : RL B w x bv lv kv w' s := by
  obtain ⟨l2, k2, h1, h2, h3⟩ := h
  refine ⟨l2, k2, h1, ⟨h2.os.trans hk.os, h2.tape.trans hk.tape, h2.output.trans hk.output, Nat.le_trans hk.size h2.size, fun k hk1 hn => ?_⟩, fun k e => ?_⟩
  · rw [h2.block k (Nat.lt_of_lt_of_le hk1 hk.size) (fun e => by rcases hf k e with q | q; exact hn q; omega)]
    exact hk.block k hk1 hn
  · rcases h3 k e with q | q
    · exact hf k q
    · exact .inr (Nat.le_trans hk.size q)
/-- One more in the cache. -/
theorem Rd.addCache {o : Obj} (h : Rd B w1 x bv lv kv s) (hO : OwnR kLy B w7 v7 (s.cache ++ [y])) (hG : (w1.alloc o).grownBy w7 kv.ownBlock) (hA : v7.ownBlock = kv.ownBlock ∨ v7.ownBlock = some (w1.alloc o).heap.size) (hy : LyOk B w1 s.n y) :
    RL B w1 x bv lv kv (w7.setCell ⟨x, 3, none⟩ v7) { s with cache := s.cache ++ [y] } ∧ w7.cell? ⟨x, 3, none⟩ = some kv ∧ w7.frozen? ⟨x, 3, none⟩ = false := by
  have K : Kept (fun k => some k = kv.ownBlock) w1 w7 := grown_kept (grown_alloc hG)
  have hx7 : w7.heap[x]? = some (.cells (rdCells bv lv kv s) 65 (0, 0)) := by rw [K.block x (lt_of_heap h.self) (fun e => h.x_ne.2 x e.symm rfl)]; exact h.self
  have bt : ∀ v l, Own B w1 v l → ∀ k, v.ownBlock = some k → ¬ some k = kv.ownBlock := fun v l ho k hk e => h.bytes_ne ho k hk (.inr (.inr e.symm))
  have ha : At kv v7 w1 := at_of (w := w1.alloc o) hA (by simp)
  have R := h.cacheTo K hO ha (fun z hz => by
    rcases List.mem_append.1 hz with q | q
    · exact (h.lc z q).kept K bt
    · rw [List.mem_singleton.1 q]; exact hy.kept K bt)
  refine ⟨⟨lv, v7, R, Kept.trans (F := RFoot x lv kv) (G := fun k => k = x) (K.mono (fun k _ e => .inr (.inr e.symm))) (kept_set w7 _ _ rfl) (fun k _ e => .inl e), fun k hk => ?_⟩, by rw [cell_of_row w7 _ _ _ _ _ hx7]; rfl, frozen_of_row w7 _ _ _ _ hx7⟩
  rcases hk with e | e | e
  · exact .inl (.inl e)
  · exact .inl (.inr (.inl e))
  · rcases ha k e.symm with q | q
    · exact .inl (.inr (.inr q.symm))
    · exact .inr q
/-- One more on the medium. -/
theorem Rd.addLaid {o : Obj} (h : Rd B w1 x bv lv kv s) (hO : OwnR kLy B w7 v7 (s.laid ++ [y])) (hG : (w1.alloc o).grownBy w7 lv.ownBlock) (hA : v7.ownBlock = lv.ownBlock ∨ v7.ownBlock = some (w1.alloc o).heap.size) (hy : LyOk B w1 s.n y) :
    (Rd B (w7.setCell ⟨x, 2, none⟩ v7) x bv v7 kv { s with laid := s.laid ++ [y] } ∧ Kept (RFoot x lv kv) w1 (w7.setCell ⟨x, 2, none⟩ v7) ∧ ∀ k, RFoot x v7 kv k → RFoot x lv kv k ∨ w1.heap.size ≤ k) ∧ w7.cell? ⟨x, 2, none⟩ = some lv ∧ w7.frozen? ⟨x, 2, none⟩ = false := by
  have K : Kept (fun k => some k = lv.ownBlock) w1 w7 := grown_kept (grown_alloc hG)
  have hx7 : w7.heap[x]? = some (.cells (rdCells bv lv kv s) 65 (0, 0)) := by rw [K.block x (lt_of_heap h.self) (fun e => h.x_ne.1 x e.symm rfl)]; exact h.self
  have bt : ∀ v l, Own B w1 v l → ∀ k, v.ownBlock = some k → ¬ some k = lv.ownBlock := fun v l ho k hk e => h.bytes_ne ho k hk (.inr (.inl e.symm))
  have ha : At lv v7 w1 := at_of (w := w1.alloc o) hA (by simp)
  have R := h.laidTo K hO ha (fun z hz => by
    rcases List.mem_append.1 hz with q | q
    · exact (h.ll z q).kept K bt
    · rw [List.mem_singleton.1 q]; exact hy.kept K bt)
  refine ⟨⟨R, Kept.trans (F := RFoot x lv kv) (G := fun k => k = x) (K.mono (fun k _ e => .inr (.inl e.symm))) (kept_set w7 _ _ rfl) (fun k _ e => .inl e), fun k hk => ?_⟩, by rw [cell_of_row w7 _ _ _ _ _ hx7]; rfl, frozen_of_row w7 _ _ _ _ hx7⟩
  rcases hk with e | e | e
  · exact .inl (.inl e)
  · rcases ha k e.symm with q | q
    · exact .inl (.inr (.inl q.symm))
    · exact .inr q
  · exact .inl (.inr (.inr e))
theorem own_slice {v : Value} {l : List UInt8} (H : Own B w v l) : ∃ a c, v = .slice a l.length c := by
  obtain ⟨a, c, e, _⟩ := H.bytes
  exact ⟨a, c, e⟩
theorem act_keeps (s : RD) : (actR s).1.n = s.n ∧ (actR s).1.cache = s.cache ∧ (actR s).1.laid = s.laid ∧ (actR s).1.cw = s.cw ∧ (actR s).1.cf = s.cf ∧ (actR s).1.base = s.base := by
  unfold actR
  split
  · exact ⟨rfl, rfl, rfl, rfl, rfl, rfl⟩
  · split
    · exact ⟨rfl, rfl, rfl, rfl, rfl, rfl⟩
    · split <;> exact ⟨rfl, rfl, rfl, rfl, rfl, rfl⟩
/-- What Write does; y: the laying in the cache. -/
def wrR (s : RD) (i : Int) (p : List UInt8) (y : Ly) : RD × Int :=
  if hasR s i = false then (s, 60) else if p.length ≠ 512 then (s, 61) else if (actR s).2 = false then ((actR s).1, 6) else ({ (actR s).1 with cw := up s.cw, cache := s.cache ++ [y] }, 0)
set_option maxHeartbeats 8000000 in
set_option maxRecDepth 100000 in
theorem rwrite_any (h : Rd B w x bv lv kv s) (hBw : B ≤ w.heap.size) (i : Int) (v : Value) (p : List UInt8) (hv : ∀ w', Kept (fun k => k = x) w w' → Bytes w' v p) (hc : s.cache.length < 1200000000000) :
    Calls Try.prog 35 #[.pointer (some ⟨x, 0, none⟩), .int .i64 i, v] w fun e w' => ∃ y : Ly, e = .returned (.int .i64 (wrR s i p y).2) ∧ RL B w x bv lv kv w' (wrR s i p y).1 ∧ y.b = i.toNat ∧ y.a = 0 ∧ y.l = p := by
  have H := Lib.hid h
  have HV := Lib.hid hv
  obtain ⟨av, cap, e, hlc, hcm⟩ := (hv w (Kept.refl _ _)).len
  have e' := e
  subst e
  have hh := Lib.hid (there_any H.out i)
  unfold maxLen at hcm
  obtain ⟨n, hn⟩ : ∃ n, n = p.length := ⟨_, rfl⟩
  rw [← hn] at hlc ⊢
  have NN := Lib.hid hn
  clear h hv hn e'
  cases hb : hasR s i with
  | false =>
    have E : Hid (∀ y, wrR s i p y = (s, 60)) := Lib.hid (fun y => by simp [wrR, hb])
    rw [hb] at hh
    go_enter Try.func35, Try.ntmps35
    go_wp2_with fail
    refine hh.out.mono ?_
    rintro e w1 ⟨rfl, rfl⟩
    go_wp2_with fail
    go_ret
    refine ⟨⟨i.toNat, 0, none, 0, p⟩, ?_, ?_, rfl, rfl, rfl⟩
    · rw [E.out]; rfl
    · rw [E.out]; exact RL.same H.out (Kept.refl _ _)
  | true =>
    obtain ⟨k, rfl, hk⟩ := hasR_nat hb
    rw [hb] at hh
    by_cases h5 : n = 512
    · subst h5
      have g5 : (((512 : Nat) : Int) != 512) = false := rfl
      have AC := Lib.hid (ract_any H.out)
      have P5 : Hid (p.length = 512) := Lib.hid NN.out.symm
      cases ha : (actR s).2 with
      | false =>
        have E : Hid (∀ y, wrR s k p y = ((actR s).1, 6)) := Lib.hid (fun y => by unfold wrR; rw [if_neg (by rw [hb]; exact Bool.noConfusion), if_neg (by rw [P5.out]; simp), if_pos ha])
        rw [ha] at AC
        go_enter Try.func35, Try.ntmps35
        go_wp2_with fail
        refine hh.out.mono ?_
        rintro e w1 ⟨rfl, rfl⟩
        go_wp2_with fail
        refine AC.out.mono ?_
        rintro e w1 ⟨rfl, hr, hk1⟩
        have R1 := Lib.hid (And.intro hr hk1)
        clear hr hk1 AC
        go_wp2_with fail
        go_ret
        refine ⟨⟨k, 0, none, 0, p⟩, ?_, ?_, by simp, rfl, rfl⟩
        · rw [E.out]; rfl
        · rw [E.out]; exact RL.self R1.out.1 R1.out.2
      | true =>
        have E : Hid (∀ y, wrR s k p y = ({ (actR s).1 with cw := up s.cw, cache := s.cache ++ [y] }, 0)) := Lib.hid (fun y => by unfold wrR; rw [if_neg (by rw [hb]; exact Bool.noConfusion), if_neg (by rw [P5.out]; simp), if_neg (by rw [ha]; exact Bool.noConfusion)])
        rw [ha] at AC
        have AK := Lib.hid (act_keeps s)
        obtain ⟨t, ht⟩ : ∃ t, t = (actR s).1 := ⟨_, rfl⟩
        rw [← ht] at AC E AK
        clear ht ha
        have HC := Lib.hid hc
        have HB := Lib.hid hBw
        go_enter Try.func35, Try.ntmps35
        go_wp2_with fail
        refine hh.out.mono ?_
        rintro e w1 ⟨rfl, rfl⟩
        go_wp2_with fail
        refine AC.out.mono ?_
        rintro e w1 ⟨rfl, hr, hk1⟩
        have R1 := Lib.hid (And.intro hr hk1)
        have c8 : w1.cell? ⟨x, 8, none⟩ = some (.int .i64 t.cw) := hr.cell 8
        have f8 : w1.frozen? ⟨x, 8, none⟩ = false := hr.free 8
        obtain ⟨X, hX⟩ : ∃ X, X = w1.setCell ⟨x, 8, none⟩ (.int .i64 (up t.cw)) := ⟨_, rfl⟩
        have R2 : Hid (Rd B X x bv lv kv { t with cw := up t.cw } ∧ Kept (fun k => k = x) w1 X) := Lib.hid ⟨by rw [hX]; exact hr.set 8 _ _ rfl rfl rfl rfl rfl, by rw [hX]; exact kept_set w1 _ _ rfl⟩
        have hX' := hX.symm
        unfold up at hX'
        have q3 : X.cell? ⟨x, 3, none⟩ = some kv := R2.out.1.cell 3
        have CP : Hid (Calls Try.prog 41 #[.slice av 512 cap] X.drew fun e w' => ∃ V, e = .returned V ∧ ∃ ad c, V = .slice ad 512 c ∧ Own X.heap.size w' (.slice ad 512 c) p ∧ Below X.heap.size X w' ∧ w'.cell? ⟨x, 3, none⟩ = some kv) := Lib.hid (by
          have hW : Below X.heap.size X X.drew := (Below.refl _ _).drew
          have hby : Bytes X.drew (.slice av 512 cap) p := by
            have := (HV.out X (R1.out.2.trans (G := fun k => k = x) R2.out.2 (fun _ _ e => e))).below hW
            rw [← NN.out] at this
            exact this
          refine (copied_any _ p X.drew hby (by rw [P5.out]; decide)).mono ?_
          rintro e w' ⟨v', rfl, ho, hb'⟩
          obtain ⟨ad, c, rfl⟩ := own_slice ho
          rw [P5.out] at ho ⊢
          have hbb := hW.trans (hb'.mono hW.size)
          exact ⟨_, rfl, ad, c, rfl, ho.mono hW.size, hbb, (R2.out.1.below hbb).cell 3⟩)
        have SB : Hid (B ≤ X.heap.size) := Lib.hid (Nat.le_trans HB.out (Nat.le_trans R1.out.2.size R2.out.2.size))
        clear hr hk1 AC hX hb
        go_wp2_with fail
        clear hX' c8 f8
        go_region_law (first
          | (refine step_calls (enters _ _ Try.func41 (by kernel_rfl) (by kernel_rfl)) rfl #[.tmp 35] _ rfl (us := #[.slice av 512 cap]) (by simp only [List.map_toArray, List.map_cons, List.map_nil]; rfl) CP.out ?_
             intro V2 w2 q2
             obtain ⟨ad, c, rfl, ho2, hb2, y3⟩ := q2.out
             have R3 := Lib.hid (And.intro ho2 hb2)
             have y5 : (w2.alloc (.cells #[.int .i64 (k : Int), .int .i64 0, .slice ad 512 c] 77)).cell? ⟨x, 3, none⟩ = some kv := (R2.out.1.below (R3.out.2.alloc R3.out.2.size _)).cell 3
             clear ho2 hb2 q2)
          | (refine step_app1 okLy rfl (.tmp 33) (.tmp 38) rfl (B := B) (w := w2) (v := kv) (L := t.cache) rfl (R2.out.1.below R3.out.2).cache (Nat.le_trans SB.out R3.out.2.size) ⟨k, 0, ad, c, p⟩ (by show _ = #[_, _, Value.slice ad p.length c]; rw [P5.out]; rfl) rfl rfl (by rw [AK.out.2.1]; show (_ + 1) * 40 ≤ _; have := HC.out; omega) ?_
             intro a7 n7 c7 w7 q7
             have Z7 := Lib.hid ((R2.out.1.below R3.out.2).addCache q7.out.1 q7.out.2.1 q7.out.2.2 ⟨by show Own B w2 (.slice ad p.length c) p; rw [P5.out]; exact R3.out.1.mono SB.out, by show k < t.n; rw [AK.out.1]; exact hk, by show 0 + p.length ≤ 512; rw [P5.out]; decide⟩)
             have z1 := Z7.out.2.1
             have z2 := Z7.out.2.2
             clear q7))
        all_goals
          go_wp2_with fail
          go_ret
          refine ⟨⟨k, 0, ad, c, p⟩, by rw [E.out]; rfl, ?_, by simp, rfl, rfl⟩
          rw [E.out]
          have := Z7.out.1
          simp only [AK.out.2.1, AK.out.2.2.2.1] at this
          exact RL.trans (lv' := lv) (kv' := kv) ((R1.out.2.trans (G := fun k => k = x) (Kept.trans (F := fun k => k = x) (G := fun k => k = x) R2.out.2 (Below.kept R3.out.2 _) (fun _ _ e => e)) (fun _ _ e => e)).mono (fun _ _ e => .inl e)) (fun _ e => .inl e) this
    · have g5 : ((n : Int) != 512) = true := by rw [bne_iff_ne]; omega
      have E : Hid (∀ y, wrR s k p y = (s, 61)) := Lib.hid (fun y => by unfold wrR; rw [if_neg (by rw [hb]; exact Bool.noConfusion), if_pos (by rw [← NN.out]; exact h5)])
      go_enter Try.func35, Try.ntmps35
      go_wp2_with fail
      refine hh.out.mono ?_
      rintro e w1 ⟨rfl, rfl⟩
      go_wp2_with fail
      go_ret
      refine ⟨⟨k, 0, none, 0, p⟩, ?_, ?_, by simp, rfl, rfl⟩
      · rw [E.out]; rfl
      · rw [E.out]; exact RL.same H.out (Kept.refl _ _)
end Rf
end Go.Proofs.Ytbdlebengmbooaa
