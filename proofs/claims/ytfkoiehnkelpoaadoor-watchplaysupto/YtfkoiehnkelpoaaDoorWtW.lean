/-
  Rows that are written while others stay: for WatchApart.
-/
import Derived.Test.YtfkoiehnkelpoaaDoorWtL
import Derived.Test.YtfkoiehnkelpoaaDoorWtR
import Derived.ArgAppend
namespace Go.Proofs.YtfkoiehnkelpoaaDoor
open Go.RowKit
variable {α : Type} {K : Kd α}
theorem cellsR_set (ok : K.Ok) (xs : List α) (i j : Nat) (hi : i < xs.length) (hj : j < K.k) (y : α) (v : Value) (hy : K.c y = (K.c (xs.getD i K.z)).set j v) : (cellsR K xs).set (i * K.k + j) v = cellsR K (xs.set i y) := by
  induction xs generalizing i with
  | nil => simp at hi
  | cons x r ih =>
    cases i with
    | zero =>
      rw [List.getD_cons_zero] at hy
      rw [List.set_cons_zero, cellsR, cellsR, List.flatMap_cons, List.flatMap_cons, Nat.zero_mul, Nat.zero_add, List.set_append_left _ _ (by rw [ok.len]; exact hj), hy]
    | succ i =>
      rw [List.getD_cons_succ] at hy
      have := ih i (by simpa using hi) hy
      rw [List.set_cons_succ, cellsR, cellsR, List.flatMap_cons, List.flatMap_cons, List.set_append_right _ _ (by rw [ok.len, Nat.succ_mul]; omega), ok.len, show (i + 1) * K.k + j - K.k = i * K.k + j by rw [Nat.succ_mul]; omega]
      rw [cellsR, cellsR] at this
      rw [this]
/-- One element turned, cell by cell. -/
theorem OwnR.set (ok : K.Ok) {B : Nat} {w : World} {g n cap : Nat} {xs : List α} (H : OwnR K B w (.slice (some ⟨g, 0, none⟩) n cap) xs) (i j : Nat) (hi : i < xs.length) (hj : j < K.k) (y : α) (v : Value) (hy : K.c y = (K.c (xs.getD i K.z)).set j v) : OwnR K B (w.setCell ⟨g, i * K.k + j, none⟩ v) (.slice (some ⟨g, 0, none⟩) n cap) (xs.set i y) := by
  obtain ⟨cur, rfl, hbg, hg, hnc, hcm, hsz, ht⟩ := H.parts
  have hg2 : (w.setCell ⟨g, i * K.k + j, none⟩ v).heap[g]? = some (.cells (cur.setIfInBounds (i * K.k + j) v) K.t (0, 0)) := heap_setCell_same _ _ _ _ _ _ hg
  have e : (xs.set i y).length = xs.length := by simp
  rw [← e]
  refine OwnR.ofParts ok hbg hg2 (by rw [e]; exact hnc) hcm (by simpa using hsz) ?_
  rw [e, Array.toList_setIfInBounds, List.take_set, ht]
  exact cellsR_set ok xs i j hi hj y v hy

/-- An append of a row: the old row is read as before. -/
theorem run_keep (ok : K.Ok) (ty : TypeId) {B : Nat} {w : World} {v u : Value} {l m : List α} (hown : OwnR K B w v l) (hB : B ≤ w.heap.size) (hu : Row K w u m) (hne : m ≠ []) (hl : (l.length + m.length) * K.b ≤ 140737488355328) :
    ∃ v' w', (Builtin.append_ #[K.s, K.s] ty #[v, u]).run Tryd.prog w = .ok v' w' ∧ OwnR K B w' v' (l ++ m) ∧ Row K w' v l ∧ w.grownBy w' v.ownBlock ∧ At v v' w := by
  obtain ⟨zv, hinf, hzc⟩ := ok.inf
  obtain ⟨i0, hi, hz0, hz1, hz2⟩ := info_parts hinf
  have hb0 := ok.by0
  obtain ⟨ad, cap2, rfl, hlc2, hcm2, hn2, hc2⟩ := hu
  obtain ⟨ad, rfl⟩ : ∃ x, ad = some x := by
    cases ad with
    | none =>
      have := hn2 rfl
      exact absurd (List.eq_nil_of_length_eq_zero (by omega)) hne
    | some x => exact ⟨x, rfl⟩
  have hnews : ∀ j u, (cellsR K m)[j]? = some u → w.cell? (ad.add j) = some u := fun j y hj => by
    have hjl : j < m.length * K.k := by
      rcases Nat.lt_or_ge j (m.length * K.k) with q | q
      · exact q
      · rw [List.getElem?_eq_none (by rw [cellsR_length ok]; exact q)] at hj; simp at hj
    have hkp := ok.pos
    have hq : j / K.k < m.length := Nat.div_lt_of_lt_mul (by rw [Nat.mul_comm]; exact hjl)
    have hr : j % K.k < K.k := Nat.mod_lt _ hkp
    have e : j = j / K.k * K.k + j % K.k := by rw [Nat.mul_comm]; exact (Nat.div_add_mod j K.k).symm
    obtain ⟨b, off, ea, hcc⟩ := hc2 (j / K.k) hq
    simp only [Option.some.injEq] at ea
    subst ea
    rw [add_plain]
    rw [e, cellsR_at ok m _ hq _ hr] at hj
    have := hcc _ _ hj
    rw [e, ← Nat.add_assoc]
    exact this
  have hml : (cellsR K m).length = m.length * K.k := cellsR_length ok m
  have hxl : (cellsR K l).length = l.length * K.k := cellsR_length ok l
  by_cases hv : v = .slice none 0 0
  · have hl0 : l = [] := by
      obtain ⟨a', c', e⟩ := hown.slice
      rw [hv] at e
      simp only [Value.slice.injEq] at e
      exact List.eq_nil_of_length_eq_zero e.2.1.symm
    obtain ⟨v', w', hr, h2, h3, -, h5⟩ := run_append_own_at (P := Tryd.prog) w B K.s ty K.t i0 zv K.k K.b ok.und hi hz0 hz1 hz2 hzc ok.pos v l.length (cellsR K l) hown ad m.length cap2 (cellsR K m) hml hnews (cellsR_one ok m) (by have := Nat.le_mul_of_pos_right (l.length + m.length) hb0.1; unfold maxLen; omega) hl hB
    refine ⟨v', w', hr, ?_, ?_, h3, at_of h5 (Nat.le_refl _)⟩
    · show w'.ownsRow _ _ _ _ _ _
      rw [cellsR_app, List.length_append]; exact h2
    · subst hv hl0
      exact Row.nil w'
  · obtain ⟨g, n, cap, rfl⟩ : ∃ g n cap, v = .slice (some ⟨g, 0, none⟩) n cap := by
      obtain ⟨_, ⟨q, _⟩ | ⟨g, cap, cur, q, _⟩⟩ := hown
      · exact absurd q hv
      · exact ⟨g, _, cap, q⟩
    obtain ⟨cur, rfl, hbg, hg, hnc, hcm, hsz, ht⟩ := hown.parts
    by_cases hroom : l.length + m.length ≤ cap
    · have hfit : l.length * i0.size + (cellsR K m).length ≤ cur.size := by
        rw [hz1, hml, hsz, ← Nat.add_mul]; exact Nat.mul_le_mul_right _ hroom
      have hr := run_append_room (P := Tryd.prog) (w := w) K.s ty K.t i0 ok.und hi g l.length cap cur hg ad m.length cap2 (cellsR K m) (by rw [hml, hz1]) hnews (cellsR_one ok m) hroom hfit
      obtain ⟨row, hrow⟩ : ∃ row, row = (cur.toList.take (l.length * i0.size) ++ cellsR K m ++ cur.toList.drop (l.length * i0.size + (cellsR K m).length)).toArray := ⟨_, rfl⟩
      rw [← hrow] at hr
      have hg2 := setRow_heap _ g cur row K.t (0, 0) hg
      have ht' : cur.toList.take (l.length * i0.size) = cellsR K l := by rw [hz1]; exact ht
      have hrl : row.toList = cellsR K l ++ cellsR K m ++ cur.toList.drop (l.length * i0.size + (cellsR K m).length) := by rw [hrow, ht']
      have hrs : row.size = cap * K.k := by
        have e : row.toList.length = (cellsR K l).length + (cellsR K m).length + (cur.toList.length - (l.length * i0.size + (cellsR K m).length)) := by rw [hrl, List.length_append, List.length_append, List.length_drop]
        have e1 : row.toList.length = row.size := Array.length_toList
        have e2 : cur.toList.length = cur.size := Array.length_toList
        rw [e1, e2, hxl, hz1, hsz] at e
        rw [hz1, hsz] at hfit
        omega
      have o1 : OwnR K B (w.setRow g row) (.slice (some ⟨g, 0, none⟩) l.length cap) l := OwnR.ofParts ok hbg hg2 hnc hcm hrs (by rw [hrl, List.append_assoc, ← hxl, List.take_left])
      have o2 : OwnR K B (w.setRow g row) (.slice (some ⟨g, 0, none⟩) (l ++ m).length cap) (l ++ m) := OwnR.ofParts ok hbg hg2 (by simpa using hroom) hcm hrs (by
        rw [hrl, cellsR_app]
        have e : (l ++ m).length * K.k = (cellsR K l ++ cellsR K m).length := by rw [List.length_append, List.length_append, hxl, hml, Nat.add_mul]
        rw [e, List.take_left])
      rw [List.length_append] at o2
      exact ⟨_, _, hr, o2, o1.row ok, grown_row w g row, fun k hk => .inl hk⟩
    · have hcells : ∀ j u, (cellsR K l)[j]? = some u → w.cell? ((⟨g, 0, none⟩ : Addr).add j) = some u := fun j u hj => by
        have hjl : j < l.length * K.k := by
          rcases Nat.lt_or_ge j (l.length * K.k) with q | q
          · exact q
          · rw [List.getElem?_eq_none (by rw [hxl]; exact q)] at hj; simp at hj
        rw [add_plain, Nat.zero_add, cell_of_row _ _ _ _ _ _ hg, ← Array.getElem?_toList, ← List.getElem?_take_of_lt hjl, ht]
        exact hj
      obtain ⟨v', w', hr, h2, h3⟩ := run_append_arg_grows (P := Tryd.prog) (w := w) K.s ty K.t i0 zv K.k K.b ok.und hi hz0 hz1 hz2 hzc ok.pos ⟨g, 0, none⟩ l.length cap (cellsR K l) hxl hcells ad m.length cap2 (cellsR K m) hml hnews (by omega) (by have := Nat.le_mul_of_pos_right (l.length + m.length) hb0.1; unfold maxLen; omega) hl
      have o2 : OwnR K w.heap.size w' v' (l ++ m) := by
        show w'.ownsRow _ _ _ _ _ _
        rw [cellsR_app, List.length_append]
        exact h2
      exact ⟨v', w', hr, o2.mono hB, (hown.grownO h3 (fun k _ q => by simp at q)).row ok, World.grownBy.but h3 _, fun k hk => .inr (o2.lt k hk.symm).1⟩
theorem app_keep (ok : K.Ok) {ops : Array Oper} {rest : List Oper} {o : Oper} {a : Act} {Q : Exit → Act → World → Prop} (hgd : o.guard = none) (s x : Operand)
    (ho : o.op = .call { callee := .builtin .append, args := #[s, x], argTypes := #[K.s, K.s] })
    {B : Nat} {w : World} {v u : Value} {l m : List α} (hs : a.eval s = v) (hown : OwnR K B w v l) (hB : B ≤ w.heap.size) (hx : a.eval x = u) (hu : Row K w u m) (hne : m ≠ []) (hl : (l.length + m.length) * K.b ≤ 140737488355328)
    (h : ∀ a' n' c' w', Hid (OwnR K B w' (.slice a' n' c') (l ++ m) ∧ Row K w' v l ∧ w.grownBy w' v.ownBlock ∧ At v (.slice a' n' c') w) → wpList Tryd.prog ops Q rest (a.put o.dst (.slice a' n' c')) w') :
    wpList Tryd.prog ops Q (o :: rest) a w := by
  obtain ⟨v', w', hr, h1, h2, h3, h4⟩ := run_keep ok o.type hown hB hu hne hl
  obtain ⟨a', c', e'⟩ := h1.slice
  subst e'
  refine wpList_plain hgd fun K' hK' => ?_
  unfold Oper.wp execOp
  simp only [ho, resolve, invoke, builtin, Sem.run_bind, Sem.run_pure, Result.andThen_ok, List.map_toArray, List.map_cons, List.map_nil, hs, hx, hr]
  exact hK' _ _ (h _ _ _ _ (Lib.hid ⟨h1, h2, h3, h4⟩))
theorem step_keep (ok : K.Ok) {ops : Array Oper} {o : Oper} {a : Act} {K' : Act → World → Prop} {Q : Exit → Act → World → Prop} {E : Prop} (hgd : o.guard = none) (s x : Operand)
    (ho : o.op = .call { callee := .builtin .append, args := #[s, x], argTypes := #[K.s, K.s] })
    {B : Nat} {w : World} {v u : Value} {l m : List α} (hs : a.eval s = v) (hown : OwnR K B w v l) (hB : B ≤ w.heap.size) (hx : a.eval x = u) (hu : Row K w u m) (hne : m ≠ []) (hl : (l.length + m.length) * K.b ≤ 140737488355328)
    (h : ∀ a' n' c' w', Hid (OwnR K B w' (.slice a' n' c') (l ++ m) ∧ Row K w' v l ∧ w.grownBy w' v.ownBlock ∧ At v (.slice a' n' c') w) → K' (a.put o.dst (.slice a' n' c')) w') :
    if Region.wanted o (yielded ops a.tmps) = true then Oper.wp Tryd.prog o a w K' Q else E := by
  obtain ⟨v', w', hr, h1, h2, h3, h4⟩ := run_keep ok o.type hown hB hu hne hl
  obtain ⟨a', c', e'⟩ := h1.slice
  subst e'
  have hw : Region.wanted o (yielded ops a.tmps) = true := by simp [Region.wanted, hgd]
  rw [if_pos hw]
  unfold Oper.wp execOp
  simp only [ho, resolve, invoke, builtin, Sem.run_bind, Sem.run_pure, Result.andThen_ok, List.map_toArray, List.map_cons, List.map_nil, hs, hx, hr]
  exact h _ _ _ _ (Lib.hid ⟨h1, h2, h3, h4⟩)
namespace Wt
/-- An event is laid over another. -/
theorem own_setE {B : Nat} {w : World} {g n cap : Nat} {xs : List Ev} (H : OwnR kE B w (.slice (some ⟨g, 0, none⟩) n cap) xs) (i : Nat) (hi : i < xs.length) (y : Ev) :
    OwnR kE B (((((w.setCell ⟨g, i * 5, none⟩ (.int .i64 y.v)).setCell ⟨g, i * 5 + 1, none⟩ (.int .i64 y.k)).setCell ⟨g, i * 5 + 2, none⟩ (.bool y.g)).setCell ⟨g, i * 5 + 3, none⟩ (.string y.p)).setCell ⟨g, i * 5 + 4, none⟩ (.string y.n)) (.slice (some ⟨g, 0, none⟩) n cap) (xs.set i y) := by
  obtain ⟨z, hz⟩ : ∃ z, z = xs.getD i Ev.z := ⟨_, rfl⟩
  have gs : ∀ a : Ev, (xs.set i a).getD i Ev.z = a := fun a => by rw [List.getD_eq_getElem?_getD, List.getElem?_set_self hi]; rfl
  have ln : ∀ a : Ev, i < (xs.set i a).length := fun a => by rw [List.length_set]; exact hi
  have h0 := H.set okE i 0 hi (by decide) ⟨y.v, z.k, z.g, z.p, z.n⟩ (.int .i64 y.v) (by show _ = (kE.c (xs.getD i Ev.z)).set 0 _; rw [← hz]; rfl)
  have h1 := h0.set okE i 1 (ln _) (by decide) ⟨y.v, y.k, z.g, z.p, z.n⟩ (.int .i64 y.k) (by show _ = (kE.c ((xs.set i _).getD i Ev.z)).set 1 _; rw [gs]; rfl)
  rw [List.set_set] at h1
  have h2 := h1.set okE i 2 (ln _) (by decide) ⟨y.v, y.k, y.g, z.p, z.n⟩ (.bool y.g) (by show _ = (kE.c ((xs.set i _).getD i Ev.z)).set 2 _; rw [gs]; rfl)
  rw [List.set_set] at h2
  have h3 := h2.set okE i 3 (ln _) (by decide) ⟨y.v, y.k, y.g, y.p, z.n⟩ (.string y.p) (by show _ = (kE.c ((xs.set i _).getD i Ev.z)).set 3 _; rw [gs]; rfl)
  rw [List.set_set] at h3
  have h4 := h3.set okE i 4 (ln _) (by decide) y (.string y.n) (by show _ = (kE.c ((xs.set i _).getD i Ev.z)).set 4 _; rw [gs]; rfl)
  rw [List.set_set] at h4
  exact h4
theorem own_setT {B : Nat} {w : World} {g n cap : Nat} {xs : List ByteArray} (H : OwnR kT B w (.slice (some ⟨g, 0, none⟩) n cap) xs) (i : Nat) (hi : i < xs.length) (y : ByteArray) :
    OwnR kT B (w.setCell ⟨g, i, none⟩ (.string y)) (.slice (some ⟨g, 0, none⟩) n cap) (xs.set i y) := by
  have h := H.set okT i 0 hi (by decide) y (.string y) rfl
  rw [show i * kT.k + 0 = i by show i * 1 + 0 = i; omega] at h
  exact h
/-- The first i are this one. -/
def fl {β : Type} (y : β) (xs : List β) (i : Nat) : List β := List.replicate i y ++ xs.drop i
theorem fl_len {β : Type} (y : β) (xs : List β) (i : Nat) (h : i ≤ xs.length) : (fl y xs i).length = xs.length := by unfold fl; rw [List.length_append, List.length_replicate, List.length_drop]; omega
theorem fl_set {β : Type} (y : β) (xs : List β) (i : Nat) (h : i < xs.length) : (fl y xs i).set i y = fl y xs (i + 1) := by
  unfold fl
  rw [List.set_append_right _ _ (by rw [List.length_replicate]; exact Nat.le_refl _), List.length_replicate, Nat.sub_self, List.drop_eq_getElem_cons h, List.set_cons_zero, List.replicate_succ', List.append_assoc]
  rfl
theorem fl_all {β : Type} (y : β) (xs : List β) : fl y xs xs.length = List.replicate xs.length y := by unfold fl; rw [List.drop_length, List.append_nil]
theorem rep_at {β : Type} {y d : β} {n i : Nat} (h : i < n) : (List.replicate n y).getD i d = y := by rw [List.getD_eq_getElem?_getD, List.getElem?_replicate, if_pos h]; rfl
/-- Rows and hubs where two blocks alone are turned. -/
theorem Pd.kept {w0 w w' : World} {gp g : Nat} {v vL : Value} {f : Int} {s : St} {A : List Ev} {F : Nat → Prop} (H : Pd w0 w gp g v vL f s A) (hk : Kept F w w') (hF : ∀ k, F k → w0.heap.size ≤ k) (hgp : ¬ F gp) (hh : ∀ k, HF g v k → ¬ F k) (hv : ∀ k, vL.ownBlock = some k → ¬ F k) : Pd w0 w' gp g v vL f s A :=
  ⟨(hk.block gp (lt_of_some H.p) hgp).trans H.p, ⟨H.h.h.kept hk hh, H.h.lo, H.h.be.trans (hk.below H.h.be.size hF), H.h.ok⟩, H.l.kept hk hv, H.lo, H.ap, H.pu⟩
theorem rowT_kept {w w' : World} {F : Nat → Prop} {u : Value} {l : List ByteArray} (H : Row kT w u l) (hk : Kept F w w') (hF : ∀ k, u.ownBlock = some k → ¬ F k) : Row kT w' u l := by
  obtain ⟨a, cap, e, h1, h2, h0, h3⟩ := H
  refine ⟨a, cap, e, h1, h2, h0, fun k hk' => ?_⟩
  obtain ⟨b, off, ea, hc⟩ := h3 k hk'
  refine ⟨b, off, ea, fun j y hy => ?_⟩
  have h := hc j y hy
  have hb := hk.block b (block_lt_of_cell h) (hF b (by rw [e, ea]; rfl))
  rw [World.cell?_of_block hb]
  exact h
end Wt
end Go.Proofs.YtfkoiehnkelpoaaDoor
