/-
  Two objects joined: what they use together. An append of a whole row, as a step of a drawn region.
-/
import Derived.Test.YtibjmmfodelhjaaDoorScZ
namespace Go.Proofs.YtibjmmfodelhjaaDoor
open Go.RowKit
def noneP : Pt := ⟨⟨#[110, 111, 110, 101]⟩, [], []⟩
theorem flat_none (ps : List Pt) : (ps ++ [noneP]).flatMap ptEs = ps.flatMap ptEs := by
  rw [List.flatMap_append]
  show ps.flatMap ptEs ++ (ptEs noneP ++ []) = _
  simp [ptEs, pre, noneP]
theorem join_perm (xs ys : List Pt) : (obEs (xs ++ ys ++ [noneP])).Perm (obEs (ys ++ xs)) := by
  unfold obEs
  rw [flat_none, List.flatMap_append, List.flatMap_append]
  exact List.Perm.cons _ List.perm_append_comm
theorem oneg_app (xs ys : List Pt) : onegB (xs ++ ys) = (onegB xs || onegB ys) := by unfold onegB; rw [List.any_append]
theorem oneg_none (xs : List Pt) : onegB (xs ++ [noneP]) = onegB xs := by
  rw [oneg_app]
  have : onegB [noneP] = false := by simp [onegB, pnegB, noneP]
  rw [this, Bool.or_false]
theorem Ov_perm {es fs : List En} (h : es.Perm fs) : Ov es ↔ Ov fs :=
  ⟨fun ⟨n, q⟩ => ⟨n, by rw [← Tot_perm h]; exact q⟩, fun ⟨n, q⟩ => ⟨n, by rw [Tot_perm h]; exact q⟩⟩
theorem uses_join (xs ys : List Pt) : usesE (xs ++ ys ++ [noneP]) = usesE (ys ++ xs) ∧ usesL (xs ++ ys ++ [noneP]) = usesL (ys ++ xs) := by
  have h1 : onegB (xs ++ ys ++ [noneP]) = onegB (ys ++ xs) := by rw [oneg_none, oneg_app, oneg_app, Bool.or_comm]
  have h2 := Ov_perm (join_perm xs ys)
  have h3 := outL_perm (join_perm xs ys)
  unfold usesE usesL
  rw [h1, h3]
  by_cases hO : Ov (obEs (xs ++ ys ++ [noneP]))
  · rw [if_pos hO, if_pos hO, if_pos (h2.1 hO), if_pos (h2.1 hO)]; exact ⟨rfl, rfl⟩
  · rw [if_neg hO, if_neg hO, if_neg (fun q => hO (h2.2 q)), if_neg (fun q => hO (h2.2 q))]; exact ⟨rfl, rfl⟩
theorem uses_cases (ps : List Pt) : (usesE ps = 0 ∧ onegB ps = false ∧ ¬ Ov (obEs ps) ∧ usesL ps = outL (obEs ps)) ∨ (usesE ps = 1 ∧ onegB ps = true) ∨ (usesE ps = 7 ∧ onegB ps = false ∧ Ov (obEs ps)) := by
  unfold usesE usesL
  by_cases h1 : onegB ps = true
  · rw [if_pos h1]; exact Or.inr (Or.inl ⟨rfl, h1⟩)
  · rw [if_neg h1, if_neg h1]
    by_cases h2 : Ov (obEs ps)
    · rw [if_pos h2]; exact Or.inr (Or.inr ⟨rfl, by simpa using h1, h2⟩)
    · rw [if_neg h2, if_neg h2]; exact Or.inl ⟨rfl, by simpa using h1, h2, rfl⟩
theorem tot_le {xs ys : List Pt} (h : onegB ys = false) (n : List UInt8) : Tot (obEs xs) n ≤ Tot (obEs (xs ++ ys)) n := by
  have e : obEs (xs ++ ys) = obEs xs ++ ys.flatMap ptEs := by unfold obEs; rw [List.flatMap_append]; rfl
  rw [e, Tot_app]
  have := Tot_pos (flat_pos (neg_pos h)) n
  omega
theorem join_bad {xs ys : List Pt} (h : usesE xs ≠ 0 ∨ usesE ys ≠ 0) : usesE (xs ++ ys ++ [noneP]) ≠ 0 := by
  intro hj
  rcases uses_cases (xs ++ ys ++ [noneP]) with ⟨_, hn, ho, _⟩ | ⟨e, _⟩ | ⟨e, _⟩
  · rw [oneg_none, oneg_app, Bool.or_eq_false_iff] at hn
    rw [Ov_perm (join_perm xs ys)] at ho
    rcases h with h | h
    · rcases uses_cases xs with ⟨e, _⟩ | ⟨_, e⟩ | ⟨_, _, n, q⟩
      · exact h e
      · rw [hn.1] at e; simp at e
      · refine ho ⟨n, Int.lt_of_lt_of_le q ?_⟩
        have q1 := tot_le (xs := xs) (ys := ys ++ [noneP]) (by rw [oneg_none]; exact hn.2) n
        rw [← List.append_assoc, Tot_perm (join_perm xs ys)] at q1
        exact q1
    · rcases uses_cases ys with ⟨e, _⟩ | ⟨_, e⟩ | ⟨_, _, n, q⟩
      · exact h e
      · rw [hn.2] at e; simp at e
      · exact ho ⟨n, Int.lt_of_lt_of_le q (tot_le hn.1 n)⟩
  · omega
  · omega
theorem join_good {xs ys : List Pt} (h1 : usesE xs = 0) (h2 : usesE ys = 0) : usesE (xs ++ ys ++ [noneP]) = 0 ∨ usesE (xs ++ ys ++ [noneP]) = 7 := by
  rcases uses_cases (xs ++ ys ++ [noneP]) with ⟨e, _⟩ | ⟨_, hn⟩ | ⟨e, _⟩
  · exact Or.inl e
  · rw [oneg_none, oneg_app, Bool.or_eq_true] at hn
    rcases uses_cases xs with ⟨_, q, _⟩ | ⟨e, _⟩ | ⟨e, _⟩
    · rcases uses_cases ys with ⟨_, q', _⟩ | ⟨e, _⟩ | ⟨e, _⟩
      · rw [q, q'] at hn; simp at hn
      · omega
      · omega
    · omega
    · omega
  · exact Or.inr e
theorem flat_names {ps : List Pt} {e : En} (h : e ∈ ps.flatMap ptEs) : e.1 ≠ tCount.data.toList := by
  obtain ⟨p, _, hq⟩ := List.mem_flatMap.1 h
  intro c
  rcases List.mem_append.1 hq with q | q
  all_goals
    obtain ⟨x, _, rfl⟩ := List.mem_map.1 q
    have c2 := congrArg List.head? c
    simp [tReq, tLim, tCount] at c2
theorem tot_count (ps : List Pt) : Tot (obEs ps) tCount.data.toList = 1000 := by
  unfold obEs
  rw [Tot, if_pos rfl, Tot_none (fun h => by obtain ⟨e, he, q⟩ := List.mem_map.1 h; exact flat_names he q)]; rfl
theorem tot_join (xs ys : List Pt) (n : List UInt8) (h : tCount.data.toList ≠ n) : Tot (obEs (xs ++ ys ++ [noneP])) n = Tot (obEs xs) n + Tot (obEs ys) n := by
  unfold obEs
  rw [flat_none, List.flatMap_append, Tot, Tot, Tot, if_neg h, Tot_app]
  omega
theorem PSz.join {xs ys : List Pt} (h1 : PSz xs) (h2 : PSz ys) (n1 : (obEs xs).length ≤ 2000000) (n2 : (obEs ys).length ≤ 2000000) : PSz (xs ++ ys ++ [noneP]) ∧ PSz (ys ++ xs) := by
  have e : (obEs (ys ++ xs)).length ≤ 4000000 := by
    unfold obEs at *
    rw [List.flatMap_append]
    simp only [List.length_cons, List.length_append] at *
    omega
  refine ⟨⟨by rw [(join_perm xs ys).length_eq]; exact e, fun p hp => ?_⟩, ⟨e, fun p hp => ?_⟩⟩
  · rcases List.mem_append.1 hp with hp | hp
    · rcases List.mem_append.1 hp with hp | hp
      · exact h1.s p hp
      · exact h2.s p hp
    · rw [List.mem_singleton] at hp
      subst hp
      exact ⟨fun x hx => by simp [noneP] at hx, fun x hx => by simp [noneP] at hx⟩
  · rcases List.mem_append.1 hp with hp | hp
    · exact h2.s p hp
    · exact h1.s p hp
/-- Names rise in the list that is told. -/
theorem out_rise (es : List En) (k : Nat) (h : k + 1 < (nmsOf es).length) : (nmsOf es).getD k [] < (nmsOf es).getD (k + 1) [] := by
  rw [getD_ge _ _ _ h, getD_ge _ _ _ (by omega)]
  exact List.pairwise_iff_getElem.1 (nms_rise es) k (k + 1) (by omega) h (by omega)
theorem Nst.app {B : Nat} {w : World} {rs ss : List Pr} {ps qs : List Pt} (h : Nst B w rs ps) (g : Nst B w ss qs) : Nst B w (rs ++ ss) (ps ++ qs) := by
  refine ⟨by rw [List.length_append, List.length_append, h.1, g.1], fun k hk => ?_⟩
  rcases Nat.lt_or_ge k ps.length with q | q
  · have := h.2 k q
    rw [List.getD_eq_getElem?_getD, List.getElem?_append_left (by rw [h.1]; exact q), ← List.getD_eq_getElem?_getD, List.getD_eq_getElem?_getD (l := ps ++ qs), List.getElem?_append_left q, ← List.getD_eq_getElem?_getD]
    exact this
  · have := g.2 (k - ps.length) (by rw [List.length_append] at hk; omega)
    rw [List.getD_eq_getElem?_getD, List.getElem?_append_right (by rw [h.1]; exact q), ← List.getD_eq_getElem?_getD, List.getD_eq_getElem?_getD (l := ps ++ qs), List.getElem?_append_right q, ← List.getD_eq_getElem?_getD, h.1]
    exact this
theorem Nst.monoB {B C : Nat} {w : World} {rs : List Pr} {ps : List Pt} (h : Nst C w rs ps) (hB : B ≤ C) : Nst B w rs ps :=
  ⟨h.1, fun k hk => ⟨(h.2 k hk).1, (h.2 k hk).2.1.mono hB, (h.2 k hk).2.2.mono hB⟩⟩
theorem enters (f : FuncId) (fn : Func) (hf : Tryd.prog.funcs[f]? = some fn) (hn : (fn.name == "runtime.NumGoroutine") = false) (hb : fn.body.isSome = true) (args : Array Value) (w : World) : (callFunc f args).run Tryd.prog w = .ok (.enter f args) w := by
  obtain ⟨c, hc⟩ := Option.isSome_iff_exists.1 hb
  have hne : ¬ fn.name = "runtime.NumGoroutine" := fun e => by rw [e] at hn; simp at hn
  simp [callFunc, hf, hne, hc]
/-- A call as a step of a drawn region. -/
theorem step_call {f : FuncId} {ops : Array Oper} {o : Oper} {a : Act} {K : Act → World → Prop} {Q : Exit → Act → World → Prop} {E : Prop} (hcf : ∀ args w, (callFunc f args).run Tryd.prog w = .ok (.enter f args) w) (hgd : o.guard = none) (y : Operand) (ts : Array TypeId)
    (ho : o.op = .call { callee := .value (.func f), args := #[y], argTypes := ts }) {u : Value} {W : World} (hy : a.eval y = u) {P : Value → World → Prop}
    (hc : Calls Tryd.prog f #[u] W fun e w1 => ∃ V, e = .returned V ∧ P V w1) (h : ∀ V w1, Hid (P V w1) → K (a.put o.dst V) w1) :
    if Region.wanted o (yielded ops a.tmps) = true then Oper.wp Tryd.prog o a W K Q else E := by
  have hw : Region.wanted o (yielded ops a.tmps) = true := by simp [Region.wanted, hgd]
  rw [if_pos hw]
  have hf : a.eval (.func f) = .func (.func f) #[] #[] := rfl
  have hrun : (execOp a.eval o).run Tryd.prog W = .ok (.enter f #[u]) W := by
    unfold execOp
    simp only [ho, resolve, hf, hy, Deferred.ofValue, List.map_toArray, List.map_cons, List.map_nil, Sem.run_bind, Sem.run_pure, Result.andThen_ok, invoke]
    exact hcf _ W
  unfold Oper.wp
  rw [hrun, Oper.upon_enter]
  refine hc.mono ?_
  rintro e w1 ⟨V, rfl, hp⟩
  exact h V w1 (Lib.hid hp)
set_option maxRecDepth 100000 in
theorem field_parts (a b : ByteArray) (l : Option Addr) (n1 c1 : Nat) (x y : Int) (p : Option Addr) (n2 c2 : Nat) (z : Int) (w : World) : (Instr.field 25 (.agg #[.string a, .string b, .slice l n1 c1, .int .i64 x, .int .i64 y, .slice p n2 c2, .int .i64 z]) 5).run Tryd.prog w = .ok (.slice p n2 c2) w := by
  first | rfl | (unfold Instr.field; simp [run_underlying Tryd.underlying25, Result.andThen]; done) | (unfold Instr.field; go_simp; done) | (simp [Instr.field, run_underlying Tryd.underlying25, Result.andThen, Value.cells]; rfl)
variable {α : Type} {K : Kd α}
theorem step_rows (ok : K.Ok) {ops : Array Oper} {o : Oper} {a : Act} {KK : Act → World → Prop} {Q : Exit → Act → World → Prop} {E : Prop} (hgd : o.guard = none) (s x : Operand)
    (ho : o.op = .call { callee := .builtin .append, args := #[s, x], argTypes := #[K.s, K.s] })
    {B : Nat} {w : World} {v u : Value} {l m : List α} (hs : a.eval s = v) (hown : OwnR K B w v l) (hB : B ≤ w.heap.size) (hx : a.eval x = u) (hu : Row K w u m) (hl : (l.length + m.length) * K.b ≤ 140737488355328)
    (h : ∀ v' w', OwnR K B w' v' (l ++ m) → w.grownBy w' v.ownBlock → KK (a.put o.dst v') w') :
    if Region.wanted o (yielded ops a.tmps) = true then Oper.wp Tryd.prog o a w KK Q else E := by
  obtain ⟨zv, hinf, hzc⟩ := ok.inf
  obtain ⟨i0, hi, hz0, hz1, hz2⟩ := info_parts hinf
  have hb := ok.by0
  obtain ⟨ad, cap, rfl, hlc, hcm, hn, hc⟩ := hu
  cases ad with
  | none =>
    obtain rfl := hn rfl
    obtain rfl : m = [] := by simpa using hlc
    have hw : Region.wanted o (yielded ops a.tmps) = true := by simp [Region.wanted, hgd]
    rw [if_pos hw]
    have hrun := run_append_owned_none (P := Tryd.prog) (w := w) B K.s o.type K.t i0 K.k ok.und hi v l.length (cellsR K l) hown
    have hk := h v w (by simpa using hown) ⟨rfl, rfl, rfl, Nat.le_refl _, fun _ _ _ => rfl⟩
    unfold Oper.wp
    simp [execOp, ho, resolve, invoke, builtin, hs, hx, hrun, Result.andThen]
    exact hk
  | some ad =>
    refine step_append_own hgd s x K.s ho B K.t i0 _ K.k K.b ok.und hi hz0 hz1 hz2 hzc ok.pos v l.length (cellsR K l) hs hown ad m.length cap (cellsR K m) hx (by rw [cellsR_length ok]) ?_ (cellsR_one ok m) (by have := Nat.le_mul_of_pos_right (l.length + m.length) hb.1; unfold maxLen; omega) hl hB ?_
    · intro j y hj
      have hjl : j < m.length * K.k := by
        rcases Nat.lt_or_ge j (m.length * K.k) with q | q
        · exact q
        · rw [List.getElem?_eq_none (by rw [cellsR_length ok]; exact q)] at hj; simp at hj
      have hkp := ok.pos
      have hq : j / K.k < m.length := Nat.div_lt_of_lt_mul (by rw [Nat.mul_comm]; exact hjl)
      have hr : j % K.k < K.k := Nat.mod_lt _ hkp
      have e : j = j / K.k * K.k + j % K.k := by rw [Nat.mul_comm]; exact (Nat.div_add_mod j K.k).symm
      obtain ⟨b, off, ea, hcc⟩ := hc (j / K.k) hq
      simp only [Option.some.injEq] at ea
      subst ea
      rw [add_plain]
      rw [e, cellsR_at ok m _ hq _ hr] at hj
      have := hcc _ _ hj
      rw [e, ← Nat.add_assoc]
      exact this
    · intro v' w' h1 h2
      refine h v' w' ?_ h2
      show w'.ownsRow _ _ _ _ _ _
      rw [cellsR_app, List.length_append]; exact h1
end Go.Proofs.YtibjmmfodelhjaaDoor
