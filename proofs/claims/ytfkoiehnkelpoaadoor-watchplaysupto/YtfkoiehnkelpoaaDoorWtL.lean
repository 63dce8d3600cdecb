/-
  pushed.
-/
import Derived.Test.YtfkoiehnkelpoaaDoorWtK
namespace Go.Proofs.YtfkoiehnkelpoaaDoor
open Go.RowKit
namespace Wt
structure Sl where
  a : Option Addr
  n : Nat
  c : Nat
def Sl.v (s : Sl) : Value := .slice s.a s.n s.c
def kS : Kd Sl := ⟨fun x => [x.v], 1, 28, 22, 24, ⟨none, 0, 0⟩⟩
/-- The slice holds the lists of events. -/
def Nst (w : World) (v : Value) (ps : List (List Ev)) : Prop := ∃ rs : List Sl, Row kS w v rs ∧ rs.length = ps.length ∧ ∀ k, k < ps.length → Row kE w (rs.getD k kS.z).v (ps.getD k [])
theorem Nst.below {w w' : World} {v : Value} {ps : List (List Ev)} (H : Nst w v ps) (hb : Below w.heap.size w w') : Nst w' v ps := by
  obtain ⟨rs, h1, h2, h3⟩ := H
  exact ⟨rs, h1.below hb, h2, fun k hk => (h3 k hk).below hb⟩
theorem Nst.len {w : World} {v : Value} {ps : List (List Ev)} (H : Nst w v ps) : ∃ a cap, v = .slice a ps.length cap ∧ ps.length ≤ cap ∧ cap ≤ maxLen := by
  obtain ⟨rs, h1, h2, h3⟩ := H
  rw [← h2]; exact h1.len
theorem Nst.at {w : World} {a : Option Addr} {n cap : Nat} {ps : List (List Ev)} (H : Nst w (.slice a n cap) ps) (k : Nat) (hk : k < ps.length) :
    ∃ b off ra rc, a = some ⟨b, off, none⟩ ∧ w.cell? ⟨b, off + k, none⟩ = some (.slice ra (ps.getD k []).length rc) ∧ Row kE w (.slice ra (ps.getD k []).length rc) (ps.getD k []) := by
  obtain ⟨rs, h1, h2, h3⟩ := H
  obtain ⟨b, off, ea, h⟩ := h1.at k (by omega)
  have hc := h 0 _ rfl
  obtain ⟨ra, rc, e, _, _⟩ := (h3 k hk).len
  have hr := h3 k hk
  rw [e] at hc hr
  refine ⟨b, off, ra, rc, ea, ?_, hr⟩
  have : kS.k = 1 := rfl
  rw [this, Nat.mul_one, Nat.add_zero] at hc
  exact hc
/-- The events of a version. -/
def dt (x : Int) (e : Ev) : Ev := ⟨x, e.k, e.g, e.p, e.n⟩
def lst (P : List Ev) (x : Int) (j : Nat) : List Ev := ((P.take j).map (dt x)).filter rightB
theorem lst_succ (P : List Ev) (x : Int) (j : Nat) (h : j < P.length) : lst P x (j + 1) = lst P x j ++ (if rightB (dt x (P.getD j Ev.z)) = true then [dt x (P.getD j Ev.z)] else []) := by
  unfold lst
  rw [take_onez P j Ev.z h, List.map_append, List.filter_append]
  congr 1
  by_cases q : rightB (dt x (P.getD j Ev.z)) = true
  · rw [if_pos q, List.map_cons, List.map_nil, List.filter_cons_of_pos q]; rfl
  · rw [if_neg q, List.map_cons, List.map_nil, List.filter_cons_of_neg q]; rfl
theorem lst_len (P : List Ev) (x : Int) (j : Nat) : (lst P x j).length ≤ j := by
  refine Nat.le_trans (List.length_filter_le _ _) ?_
  rw [List.length_map, List.length_take]; omega
theorem lst_all (P : List Ev) (x : Int) (j : Nat) : ∀ e ∈ lst P x j, e.v = x ∧ rightB e = true := fun e he => by
  obtain ⟨h1, h2⟩ := List.mem_filter.1 he
  obtain ⟨y, _, rfl⟩ := List.mem_map.1 h1
  exact ⟨rfl, h2⟩
structure Pd (w0 w : World) (gp g : Nat) (v vL : Value) (f : Int) (s : St) (A : List Ev) : Prop where
  p : w.heap[gp]? = some (.cells #[.pointer (some ⟨g, 0, none⟩), .int .i64 f, vL] 30 (0, 0))
  h : Hl w0 w g v s
  l : OwnR kE w0.heap.size w vL A
  lo : w0.heap.size ≤ gp
  ap : ∀ k, vL.ownBlock = some k → ¬ HF g v k
  pu : Pu f s A
variable {w0 w w' : World} {gp g : Nat} {v vL : Value} {f : Int} {s : St} {A : List Ev}
theorem Pd.below (H : Pd w0 w gp g v vL f s A) (hb : Below w.heap.size w w') : Pd w0 w' gp g v vL f s A :=
  ⟨(hb.block gp (lt_of_some H.p)).trans H.p, H.h.below hb, H.l.below hb, H.lo, H.ap, H.pu⟩
theorem Pd.np (H : Pd w0 w gp g v vL f s A) : ¬ HF g v gp := by
  rintro (q | q)
  · have h1 := H.p
    rw [q, H.h.h.hb] at h1
    simp only [Option.some.injEq, Obj.cells.injEq] at h1
    exact absurd h1.2.1 (by decide)
  · obtain ⟨cs, mm, h1⟩ := H.h.h.row.ty gp q.symm
    rw [H.p] at h1
    simp only [Option.some.injEq, Obj.cells.injEq] at h1
    exact absurd h1.2.1 (by decide)
theorem Pd.nl (H : Pd w0 w gp g v vL f s A) : ∀ k, vL.ownBlock = some k → k ≠ gp := fun k hk e => by
  obtain ⟨cs, mm, h1⟩ := H.l.ty k hk
  rw [e, H.p] at h1
  simp only [Option.some.injEq, Obj.cells.injEq] at h1
  exact absurd h1.2.1 (by decide)
theorem Pd.c0 (H : Pd w0 w gp g v vL f s A) : w.cell? ⟨gp, 0, none⟩ = some (.pointer (some ⟨g, 0, none⟩)) := cell_of_row w gp 0 _ _ _ H.p
theorem Pd.c1 (H : Pd w0 w gp g v vL f s A) : w.cell? ⟨gp, 1, none⟩ = some (.int .i64 f) := cell_of_row w gp 1 _ _ _ H.p
theorem Pd.c2 (H : Pd w0 w gp g v vL f s A) : w.cell? ⟨gp, 2, none⟩ = some vL := cell_of_row w gp 2 _ _ _ H.p
/-- Behind a Push of the events of the next version: all but what it took. -/
structure Pq (w0 w : World) (gp g : Nat) (v vL : Value) (f : Int) (s : St) (A : List Ev) : Prop where
  p : w.heap[gp]? = some (.cells #[.pointer (some ⟨g, 0, none⟩), .int .i64 f, vL] 30 (0, 0))
  h : Hl w0 w g v s
  l : OwnR kE w0.heap.size w vL A
  lo : w0.heap.size ≤ gp
  ap : ∀ k, vL.ownBlock = some k → ¬ HF g v k
theorem Pd.pushed {v' : Value} {s' : St} (H : Pd w0 w gp g v vL f s A) (h : Hl w0 w' g v' s') (hk : Kept (HF g v) w w') (ha : At v v' w) : Pq w0 w' gp g v' vL f s' A :=
  ⟨(hk.block gp (lt_of_some H.p) H.np).trans H.p, h, H.l.kept hk H.ap, H.lo, fun k hk' q => by
    rcases q with q | q
    · exact H.ap k hk' (.inl q)
    · rcases ha k q with c | c
      · exact H.ap k hk' (.inr c)
      · have := (H.l.lt k hk').2; omega⟩
theorem Pq.below (H : Pq w0 w gp g v vL f s A) (hb : Below w.heap.size w w') : Pq w0 w' gp g v vL f s A :=
  ⟨(hb.block gp (lt_of_some H.p)).trans H.p, H.h.below hb, H.l.below hb, H.lo, H.ap⟩
theorem Pq.np (H : Pq w0 w gp g v vL f s A) : ¬ HF g v gp := by
  rintro (q | q)
  · have h1 := H.p
    rw [q, H.h.h.hb] at h1
    simp only [Option.some.injEq, Obj.cells.injEq] at h1
    exact absurd h1.2.1 (by decide)
  · obtain ⟨cs, mm, h1⟩ := H.h.h.row.ty gp q.symm
    rw [H.p] at h1
    simp only [Option.some.injEq, Obj.cells.injEq] at h1
    exact absurd h1.2.1 (by decide)
theorem Pq.nl (H : Pq w0 w gp g v vL f s A) : ∀ k, vL.ownBlock = some k → k ≠ gp := fun k hk e => by
  obtain ⟨cs, mm, h1⟩ := H.l.ty k hk
  rw [e, H.p] at h1
  simp only [Option.some.injEq, Obj.cells.injEq] at h1
  exact absurd h1.2.1 (by decide)
/-- p.L = append(p.L, l...) -/
theorem Pq.app {vL' : Value} {l : List Ev} (H : Pq w0 w gp g v vL f s A) (ho : OwnR kE w0.heap.size w' vL' (A ++ l)) (hg : w.grownBy w' vL.ownBlock) (ha : At vL vL' w) (hp : Pu f s (A ++ l)) :
    Pd w0 (w'.setCell ⟨gp, 2, none⟩ vL') gp g v vL' f s (A ++ l) := by
  have hk := grown_kept hg
  have hgp : w'.heap[gp]? = some (.cells #[.pointer (some ⟨g, 0, none⟩), .int .i64 f, vL] 30 (0, 0)) := (hg.block gp (lt_of_some H.p) (fun e => H.nl gp e.symm rfl)).trans H.p
  have hb : Hb w' g v s := H.h.h.kept hk fun k q c => H.ap k c.symm q
  have hne : ∀ k, vL'.ownBlock = some k → k ≠ gp := fun k hk' e => by
    obtain ⟨cs, mm, h1⟩ := ho.ty k hk'
    rw [e, hgp] at h1
    simp only [Option.some.injEq, Obj.cells.injEq] at h1
    exact absurd h1.2.1 (by decide)
  refine ⟨set_row hgp 2 _, ⟨?_, H.h.lo, ?_, H.h.ok⟩, ho.grownO (grown_set w' gp 2 _) (fun k hk' e => hne k hk' (by injection e)), H.lo, ?_, hp⟩
  · exact hb.kept (grown_kept (grown_set w' gp 2 vL')) fun k q c => by
      injection c with c
      subst c
      exact H.np q
  · exact (H.h.be.trans (Kept.below hk H.h.be.size (fun x hx => (H.l.lt x hx.symm).1))).setCell (p := ⟨gp, 2, none⟩) H.lo _
  · intro k hk' q
    rcases ha k hk'.symm with c | c
    · exact H.ap k c.symm q
    · have := H.h.h.lt k q; omega
theorem pushE_iff {l : List Ev} (hl : ∀ e ∈ l, e.v = s.hi + 1 ∧ rightB e = true) (hs : s.hi ≠ 1152921504606846976) : pushE s l = 0 ↔ (0 < l.length ∧ l.length ≤ 128) := by
  unfold pushE
  by_cases q : l.length = 0
  · rw [if_pos (.inr (.inl q))]
    exact ⟨(fun h => by cases h), fun h => by omega⟩
  · rw [if_neg (by rintro (c | c | c); exact hs c; exact q c; exact c hl)]
    by_cases d : 128 < l.length
    · rw [if_pos d]; exact ⟨(fun h => by cases h), fun h => by omega⟩
    · rw [if_neg d]; exact ⟨fun _ => ⟨by omega, by omega⟩, fun _ => rfl⟩
end Wt
end Go.Proofs.YtfkoiehnkelpoaaDoor
