/-
  LeUn, LeCl, LeRo, LeWi, LeAg, LawSums, joined.
-/
import Derived.Test.YtodfmnbfbndkhaaGreatDoorLeStp
import Derived.Lib.QuietBelow
section S0
namespace Go.Proofs.YtodfmnbfbndkhaaGreatDoor
open Go.RowKit Go.Sort
namespace Le
variable {w0 w w1 W W' : World} {bb t b n cc t' b' n' : Nat} {D D' : DataW Unit} {f g : Ky → Int} {hv hu : Value} {rs rc : List Rb}
theorem own_kept {α : Type} {K : Kd α} {B : Nat} {F : Nat → Prop} {v : Value} {l : List α} (H : OwnR K B W v l) (hk : Kept F W W') (hf : ∀ y, v.ownBlock = some y → ¬ F y) : OwnR K B W' v l := by
  obtain ⟨h1, h | ⟨g, cap, cur, hv, hB, hg, hr⟩⟩ := H
  · exact ⟨h1, .inl h⟩
  · subst hv
    exact ⟨h1, .inr ⟨g, cap, cur, rfl, hB, (hk.block g (lt_of_some hg) (hf g rfl)).trans hg, hr⟩⟩
theorem Bm.fr_ty (h : Bm w0 bb t b n D f hv rs W) {y : Nat} {cs : Array Value} {ty : TypeId} (hy : W.heap[y]? = some (.cells cs ty (0, 0))) (h1 : ty ≠ 48) (h2 : ty ≠ 25) : ¬ Fr b bb hv y := by
  rintro (e | e | e)
  · obtain ⟨es, c, q, _⟩ := h.lv.ld.m
    rw [e, q] at hy
    simp at hy
  · rw [e, h.bx] at hy
    simp only [Option.some.injEq, Obj.cells.injEq] at hy
    exact h1 hy.2.1.symm
  · obtain ⟨cs', m', q⟩ := h.ls.r.ty y e.symm
    rw [q] at hy
    simp only [Option.some.injEq, Obj.cells.injEq] at hy
    exact h2 hy.2.1.symm
theorem own_frk {α : Type} {K : Kd α} {B : Nat} {v : Value} {l : List α} (H : OwnR K B W v l) (h : Bm w0 bb t b n D f hv rs W) (hk : Kept (Fr b bb hv) W W') (h1 : K.t ≠ 48) (h2 : K.t ≠ 25) : OwnR K B W' v l :=
  own_kept H hk (fun y e => by
    obtain ⟨h1', h0 | ⟨g, cap, cur, hv', hB, hg, hr⟩⟩ := H
    · rw [h0.1] at e; exact absurd e (by simp [Value.ownBlock])
    · subst hv'
      have : g = y := Option.some.inj e
      subst this
      exact h.fr_ty hg h1 h2)
/-- What a step on the one book leaves of the other. -/
theorem Bm.other (h : Bm w0 cc t' b' n' D' g hu rc W) (k : Bm w0 bb t b n D f hv rs W) (hk : Kept (Fr b bb hv) W W') (hb : Below w0.heap.size w0 W') (nb : b' ≠ b) (nc : cc ≠ bb) (na : ∀ y, hu.ownBlock = some y → hv.ownBlock ≠ some y) : Bm w0 cc t' b' n' D' g hu rc W' := by
  have nt : ¬ Fr b bb hv t' := k.fr_ty h.lv.ld.t (by decide) (by decide)
  have nm : ¬ Fr b bb hv b' := by
    rintro (e | e | e)
    · exact nb e
    · obtain ⟨es, c, q, _⟩ := h.lv.ld.m
      rw [e, k.bx] at q
      simp at q
    · obtain ⟨es, c, q, _⟩ := h.lv.ld.m
      obtain ⟨cs', m', q'⟩ := k.ls.r.ty b' e.symm
      rw [q] at q'
      simp at q'
  have nx : ¬ Fr b bb hv cc := by
    rintro (e | e | e)
    · obtain ⟨es, c, q, _⟩ := k.lv.ld.m
      have := h.bx
      rw [e, q] at this
      simp at this
    · exact nc e
    · obtain ⟨cs', m', q'⟩ := k.ls.r.ty cc e.symm
      have := h.bx
      rw [q'] at this
      simp [kOb] at this
  refine ⟨⟨h.lv.ld.kept hk nt nm, h.lv.rep, h.lv.vf, hb, h.lv.t0, h.lv.b0, h.gl.below hb⟩, (hk.block cc (lt_of_some h.bx) nx).trans h.bx, ⟨?_, fun x hx => ?_⟩, h.bb0, h.gl⟩
  · refine own_kept h.ls.r hk (fun y e => ?_)
    rintro (q | q | q)
    · obtain ⟨es, c, r, _⟩ := k.lv.ld.m
      obtain ⟨cs', m', r'⟩ := h.ls.r.ty y e
      rw [q, r] at r'
      simp at r'
    · obtain ⟨cs', m', r'⟩ := h.ls.r.ty y e
      rw [q, k.bx] at r'
      simp [kOb] at r'
    · exact na y e q.symm
  · obtain ⟨h1, rs', h2, h3⟩ := h.ls.o x hx
    exact ⟨own_frk h1 k hk (by decide) (by decide), rs', own_frk h2 k hk (by decide) (by decide), h3.1, fun i hi => ⟨(h3.2 i hi).1, own_frk (h3.2 i hi).2.1 k hk (by decide) (by decide), own_frk (h3.2 i hi).2.2 k hk (by decide) (by decide)⟩⟩
theorem Bk.other (h : Bk w0 cc t' b' n' D' hu rc W) (k : Bk w0 bb t b n D hv rs W) (hk : Kept (Fr b bb hv) W W') (hb : Below w0.heap.size w0 W') (nb : b' ≠ b) (nc : cc ≠ bb) (na : ∀ y, hu.ownBlock = some y → hv.ownBlock ≠ some y) : Bk w0 cc t' b' n' D' hu rc W' :=
  ⟨h.m.other k.m hk hb nb nc na, h.hs, h.oz, h.len⟩
/-- Two books beside each other. -/
def Tb (w0 : World) (bb t b cc t' b' : Nat) (hs hc : List Ob) (N : Nat) (W : World) : Prop :=
  ∃ n D hv rs n' D' hu rc, Bk w0 bb t b n D hv rs W ∧ Bk w0 cc t' b' n' D' hu rc W ∧ rs.map (·.1) = hs ∧ rc.map (·.1) = hc ∧ n ≤ N ∧ n' ≤ N ∧ b' ≠ b ∧ cc ≠ bb ∧ (∀ y, hu.ownBlock = some y → hv.ownBlock ≠ some y)
theorem Tb.below {hs hc : List Ob} {N : Nat} (h : Tb w0 bb t b cc t' b' hs hc N W) (hb : Below W.heap.size W W') : Tb w0 bb t b cc t' b' hs hc N W' := by
  obtain ⟨n, D, hv, rs, n', D', hu, rc, h1, h2, h3⟩ := h
  exact ⟨n, D, hv, rs, n', D', hu, rc, h1.below hb, h2.below hb, h3⟩
theorem Tb.bel {hs hc : List Ob} {N : Nat} (h : Tb w0 bb t b cc t' b' hs hc N W) : Below w0.heap.size w0 W := by
  obtain ⟨n, D, hv, rs, n', D', hu, rc, h1, _⟩ := h
  exact h1.m.lv.bel
theorem Bm.own_lt (h : Bm w0 bb t b n D f hv rs W) {y : Nat} (e : hv.ownBlock = some y) : y < W.heap.size := by
  obtain ⟨cs, m, q⟩ := h.ls.r.ty y e
  exact lt_of_some q
theorem Tb.flip {hs hc : List Ob} {N : Nat} (h : Tb w0 bb t b cc t' b' hs hc N W) : Tb w0 cc t' b' bb t b hc hs N W := by
  obtain ⟨n, D, hv, rs, n', D', hu, rc, h1, h2, h3, h4, h5, h6, h7, h8, h9⟩ := h
  exact ⟨n', D', hu, rc, n, D, hv, rs, h2, h1, h4, h3, h6, h5, h7.symm, h8.symm, fun y e q => h9 y q e⟩
/-- A step on the first of two books. -/
theorem Tb.step {hs hc : List Ob} {N : Nat} (h : Tb w0 bb t b cc t' b' hs hc N W) (x : OpL) (ho : ObV W x.o.2.1.v x.o.2.2.v x.o.1) (hz : Ozz x.o.1) (hN : N ≤ 1500000000000) :
    Calls Tryz.prog 15 #[.pointer (some ⟨bb, 0, none⟩), .agg (OpL.c x).toArray] W fun e W' => e = .returned (.bool true) ∧ Tb w0 bb t b cc t' b' (stp hs x.k x.o.1) hc (N + 432000000) W' := by
  obtain ⟨n, D, hv, rs, n', D', hu, rc, h1, h2, rfl, h4, h5, h6, h7, h8, h9⟩ := h
  obtain ⟨a, c, rfl, _, _⟩ := (h1.m.ls.r.row okOb).len
  obtain ⟨two, kind, ⟨⟨op, on, ols, opr, odl, ops, over⟩, ⟨la, ln, lc⟩, ⟨pa, pn, pc⟩⟩, ⟨⟨zp, zn, zls, zpr, zdl, zps, zv⟩, ⟨za, zb, zc⟩, ⟨zd, ze, zf⟩⟩, sk, sa, r⟩ := x
  refine (step_any two kind op on ols opr odl ops over la ln lc pa pn pc zp zn za zb zc zpr zdl zd ze zf zv sk sa r w0 W bb t b n D a rs.length c rs h1 ho hz (by omega)).mono ?_
  rintro e W' ⟨rfl, D3, n3, hv3, rs3, z1, z2, z3, z4, z5⟩
  refine ⟨rfl, n3, D3, hv3, rs3, n', D', hu, rc, z1, h2.other h1 z4 z1.m.lv.bel h7 h8 h9, z2, h4, by omega, by omega, h7, h8, fun y e q => ?_⟩
  rcases z5 y q with k | k
  · exact h9 y e k
  · have := h2.m.own_lt e
    omega
/-- The rows of sums. -/
def SF (f : Ky → Int) (S : List Ur) : Prop := ∃ D, Li D S ∧ Rep D f
theorem SF.one {S S' : List Ur} (h : SF f S) (h' : SF f S') : S = S' := by
  obtain ⟨D, h1, h2⟩ := h
  obtain ⟨D', h3, h4⟩ := h'
  exact rows_eq h1 h3 h2 h4
/-- Two ledgers apart, behind the world w1; the rows that were told. -/
structure Uu (w0 w1 : World) (t b t' b' : Nat) (f g : Ky → Int) (N : Nat) (L : List (Value × List Ur)) (W : World) : Prop where
  l : ∃ n D, Lv w0 W t b n D f ∧ n ≤ N
  r : ∃ n D, Lv w0 W t' b' n D g ∧ n ≤ N
  ne : b ≠ b'
  kq : Kq w1 W
  rows : ∀ p ∈ L, Row kUse W p.1 p.2
variable {N : Nat} {L : List (Value × List Ur)}
theorem Uu.below (h : Uu w0 w1 t b t' b' f g N L W) (hb : Below W.heap.size W W') : Uu w0 w1 t b t' b' f g N L W' := by
  obtain ⟨⟨n, D, h1, h2⟩, ⟨n', D', h3, h4⟩, h5, h6, h7⟩ := h
  exact ⟨⟨n, D, h1.below hb, h2⟩, ⟨n', D', h3.below hb, h4⟩, h5, h6.trans (Kq.of hb), fun p hp => (h7 p hp).below hb⟩
theorem Uu.turnB (h : Uu w0 w1 t b t' b' f g N L W) {M : Nat} {f' : Ky → Int} {n : Nat} {D : DataW Unit} (hl : Lv w0 W' t b n D f') (hn : n ≤ M) (hm : N ≤ M) (hk : Kept (fun y => y = b) W W') : Uu w0 w1 t b t' b' f' g M L W' := by
  obtain ⟨⟨n1, D1, h1, h2⟩, ⟨n', D', h3, h4⟩, h5, h6, h7⟩ := h
  exact ⟨⟨n, D, hl, hn⟩, ⟨n', D', h3.other h1 hk (fun e => h5 e.symm), Nat.le_trans h4 hm⟩, h5, h6.trans (h1.kq hk), fun p hp => row_kq (h7 p hp) (h1.kq hk)⟩
theorem Uu.turnC (h : Uu w0 w1 t b t' b' f g N L W) {M : Nat} {g' : Ky → Int} {n : Nat} {D : DataW Unit} (hl : Lv w0 W' t' b' n D g') (hn : n ≤ M) (hm : N ≤ M) (hk : Kept (fun y => y = b') W W') : Uu w0 w1 t b t' b' f g' M L W' := by
  obtain ⟨⟨n1, D1, h1, h2⟩, ⟨n', D', h3, h4⟩, h5, h6, h7⟩ := h
  exact ⟨⟨n1, D1, h1.other h3 hk h5, Nat.le_trans h2 hm⟩, ⟨n, D, hl, hn⟩, h5, h6.trans (h3.kq hk), fun p hp => row_kq (h7 p hp) (h3.kq hk)⟩
theorem Uu.push (h : Uu w0 w1 t b t' b' f g N L W) {v : Value} {S : List Ur} (hr : Row kUse W v S) : Uu w0 w1 t b t' b' f g N ((v, S) :: L) W :=
  ⟨h.l, h.r, h.ne, h.kq, fun p hp => by rcases List.mem_cons.1 hp with e | e; rw [e]; exact hr; exact h.rows p e⟩
theorem rowsB (h : Uu w0 w1 t b t' b' f g N L W) (hN : N ≤ 1900000000000) : Calls Tryz.prog 12 #[.pointer (some ⟨t, 0, none⟩)] W fun e W' => ∃ v S, e = .returned v ∧ SF f S ∧ Uu w0 w1 t b t' b' f g N ((v, S) :: L) W' := by
  obtain ⟨n, D, h1, h2⟩ := h.l
  refine (rows_lv h1 (by omega)).mono ?_
  rintro e W' ⟨v, S, rfl, k1, k2, hb⟩
  exact ⟨v, S, rfl, ⟨D, k2, h1.rep⟩, (h.below hb).push k1⟩
theorem rowsC (h : Uu w0 w1 t b t' b' f g N L W) (hN : N ≤ 1900000000000) : Calls Tryz.prog 12 #[.pointer (some ⟨t', 0, none⟩)] W fun e W' => ∃ v S, e = .returned v ∧ SF g S ∧ Uu w0 w1 t b t' b' f g N ((v, S) :: L) W' := by
  obtain ⟨n, D, h1, h2⟩ := h.r
  refine (rows_lv h1 (by omega)).mono ?_
  rintro e W' ⟨v, S, rfl, k1, k2, hb⟩
  exact ⟨v, S, rfl, ⟨D, k2, h1.rep⟩, (h.below hb).push k1⟩
theorem sameU (h : Uu w0 w1 t b t' b' f g N L W) {v v' : Value} {S : List Ur} (h1 : (v, S) ∈ L) (h2 : (v', S) ∈ L) : Calls Tryz.prog 13 #[v, v'] W fun e W' => e = .returned (.bool true) ∧ Uu w0 w1 t b t' b' f g N L W' := by
  refine (sameRows_yes v v' S W (h.rows _ h1) (h.rows _ h2)).mono ?_
  rintro e W' ⟨rfl, hb⟩
  exact ⟨rfl, h.below hb⟩
variable {o p : Ob} {la pa ma qa : Option Addr} {lc pc mc qc : Nat} {ls ps : Value}
theorem chargeB (h : Uu w0 w1 t b t' b' f g N L W) (hN : N ≤ 80000000000000) (hv : ObV W ls ps o) (hz : Ozz o) : Calls Tryz.prog 11 #[.pointer (some ⟨t, 0, none⟩), o.val ls ps] W fun e W' => e = .returned (.int .i64 (mvE true f o)) ∧ Uu w0 w1 t b t' b' (mvF true f o) g (N + 144000000) L W' := by
  obtain ⟨n, D, h1, h2⟩ := h.l
  refine (charge_lvk o ls ps h1 hv hz.z hz.p (by omega)).mono ?_
  rintro e W' ⟨D', n', rfl, k2, k3, k4⟩
  exact ⟨rfl, h.turnB k2 (by have := sh_len o hz.z; omega) (by omega) k3⟩
theorem chargeC (h : Uu w0 w1 t b t' b' f g N L W) (hN : N ≤ 80000000000000) (hv : ObV W ls ps o) (hz : Ozz o) : Calls Tryz.prog 11 #[.pointer (some ⟨t', 0, none⟩), o.val ls ps] W fun e W' => e = .returned (.int .i64 (mvE true g o)) ∧ Uu w0 w1 t b t' b' f (mvF true g o) (N + 144000000) L W' := by
  obtain ⟨n, D, h1, h2⟩ := h.r
  refine (charge_lvk o ls ps h1 hv hz.z hz.p (by omega)).mono ?_
  rintro e W' ⟨D', n', rfl, k2, k3, k4⟩
  exact ⟨rfl, h.turnC k2 (by have := sh_len o hz.z; omega) (by omega) k3⟩
theorem releaseB (h : Uu w0 w1 t b t' b' f g N L W) (hN : N ≤ 80000000000000) (hv : ObV W ls ps o) (hz : Ozz o) : Calls Tryz.prog 14 #[.pointer (some ⟨t, 0, none⟩), o.val ls ps] W fun e W' => e = .returned (.int .i64 (mvE false f o)) ∧ Uu w0 w1 t b t' b' (mvF false f o) g (N + 144000000) L W' := by
  obtain ⟨n, D, h1, h2⟩ := h.l
  refine (release_lvk o ls ps h1 hv hz.z hz.p (by omega)).mono ?_
  rintro e W' ⟨D', n', rfl, k2, k3, k4⟩
  exact ⟨rfl, h.turnB k2 (by have := sh_len o hz.z; omega) (by omega) k3⟩
theorem releaseC (h : Uu w0 w1 t b t' b' f g N L W) (hN : N ≤ 80000000000000) (hv : ObV W ls ps o) (hz : Ozz o) : Calls Tryz.prog 14 #[.pointer (some ⟨t', 0, none⟩), o.val ls ps] W fun e W' => e = .returned (.int .i64 (mvE false g o)) ∧ Uu w0 w1 t b t' b' f (mvF false g o) (N + 144000000) L W' := by
  obtain ⟨n, D, h1, h2⟩ := h.r
  refine (release_lvk o ls ps h1 hv hz.z hz.p (by omega)).mono ?_
  rintro e W' ⟨D', n', rfl, k2, k3, k4⟩
  exact ⟨rfl, h.turnC k2 (by have := sh_len o hz.z; omega) (by omega) k3⟩
theorem changeB (h : Uu w0 w1 t b t' b' f g N L W) (hN : N ≤ 80000000000000) (hv : ObV W (.slice la o.ls.length lc) (.slice pa o.ps.length pc) o) (hv2 : ObV W (.slice ma p.ls.length mc) (.slice qa p.ps.length qc) p) (hz : Ozz o) (hz2 : Ozz p) :
    Calls Tryz.prog 16 #[.pointer (some ⟨t, 0, none⟩), o.val (.slice la o.ls.length lc) (.slice pa o.ps.length pc), p.val (.slice ma p.ls.length mc) (.slice qa p.ps.length qc)] W fun e W' => e = .returned (.int .i64 (chE f o p)) ∧ Uu w0 w1 t b t' b' (chG f o p) g (N + 432000000) L W' := by
  obtain ⟨n, D, h1, h2⟩ := h.l
  refine (change_lvk o p la lc pa pc ma mc qa qc h1 hv hv2 hz.z hz.p hz2.z hz2.p (by omega)).mono ?_
  rintro e W' ⟨D', n', rfl, k2, k3, k4⟩
  exact ⟨rfl, h.turnB k2 (by omega) (by omega) k3⟩
end Le
end Go.Proofs.YtodfmnbfbndkhaaGreatDoor
end S0

section S1
namespace Go.Proofs.YtodfmnbfbndkhaaGreatDoor
open Go.RowKit Go.Sort
namespace Le
variable {D : DataW Unit} {S : List Ur} {hs : List Ob} {x : Ky}
theorem tot_ne : ∀ {hs : List Ob}, tot hs x ≠ 0 → ∃ o ∈ hs, shv (shR o) x ≠ 0
  | [], h => absurd rfl h
  | o :: r, h => by
    by_cases h1 : shv (shR o) x = 0
    · rw [tot, h1, Int.zero_add] at h
      obtain ⟨y, hy, k⟩ := tot_ne h
      exact ⟨y, by simp [hy], k⟩
    · exact ⟨o, by simp, h1⟩
/-- A row of the sums. -/
structure Rok (hs : List Ob) (u : Ur) : Prop where
  e : tot hs u.1.x = u.1.v
  p : 0 < u.1.v
  m : u.1.v ≤ MX
  f : u.1.x.Fit
  s : ∃ ts, L.splitO u.1.x.p = some ts
theorem row_ok (H : Li D S) (R : Rep D (tot hs)) {u : Ur} (hu : u ∈ S) : Rok hs u := by
  have h1 := (li_mem H R u).1 hu
  have h2 := R.rng u.1.x
  have h3 := ((H.m u.1).1 ⟨u, hu, rfl⟩).2
  refine ⟨h1.1, ?_, ?_, h3, ?_⟩
  · have := h1.1; have := h1.2; omega
  · have := h1.1; omega
  · obtain ⟨o, ho, hne⟩ := tot_ne (by rw [h1.1]; exact h1.2)
    obtain ⟨ts, hs', k, hk, e⟩ := mem_line.1 (shv_at hne)
    obtain ⟨rfl', hg⟩ := L.splitO_some hs'
    exact ⟨ts.take k, by rw [e]; exact L.splitO_good (hg.take k)⟩
theorem par_size {p q : ByteArray} (h : parO p = some q) : q.size ≤ 64 := by
  cases hs : L.splitO p with
  | none => unfold parO at h; rw [hs] at h; exact absurd h (by simp)
  | some ts =>
    have hm : p ∈ lineP p := mem_line.2 ⟨ts, hs, ts.length, Nat.le_refl _, by rw [List.take_length]; exact (L.splitO_some hs).1⟩
    exact (lineP_size p).2 q (up_line h hm)
open Classical in
theorem rsum_step {j : Nat} (h : j < S.length) (x : Ky) : rsum (S.take (j + 1)) x = rsum (S.take j) x + if Cnd S[j] x then (S[j]).1.v else 0 := by
  rw [List.take_add_one, List.getElem?_eq_getElem h, rsum_app]
  simp [rsum]
theorem msum_step {hs : List Ob} {j : Nat} (h : j < hs.length) (x : Ky) : msum (hs.take (j + 1)) x = msum (hs.take j) x + mine hs[j] x := by
  rw [List.take_add_one, List.getElem?_eq_getElem h, msum_app]
  simp [msum]
/-- What the loops' sums come to. -/
structure Clm (S : List Ur) (hs : List Ob) (x : Ky) : Prop where
  t : rsum S x + msum hs x = tot hs x
  m : tot hs x ≤ MX
  r : ∀ i, 0 ≤ rsum (S.take i) x ∧ rsum (S.take i) x ≤ rsum S x
  h : ∀ i, 0 ≤ msum (hs.take i) x ∧ msum (hs.take i) x ≤ msum hs x
  n : 0 ≤ rsum S x ∧ 0 ≤ msum hs x
theorem clm_of (H : Li D S) (R : Rep D (tot hs)) (P : Hs hs) (x : Ky) : Clm S hs x := by
  have hp : ∀ u ∈ S, 0 ≤ u.1.v := fun u hu => Int.le_of_lt (row_ok H R hu).p
  exact ⟨(climb H R P).symm, (R.rng x).2, fun i => ⟨rsum_nn (fun u hu => hp u (List.mem_of_mem_take hu)), rsum_take hp x i⟩, fun i => ⟨msum_nn (fun o ho => P.z o (List.mem_of_mem_take ho)), msum_take P.z x i⟩, rsum_nn hp, msum_nn P.z⟩
/-- One book, of at most N entries. -/
def Ob1 (w0 : World) (bb t b N : Nat) (W : World) : Prop := ∃ n D hv rs, Bk w0 bb t b n D hv rs W ∧ n ≤ N
theorem Ob1.bel {w0 W : World} {bb t b N : Nat} (h : Ob1 w0 bb t b N W) : Below w0.heap.size w0 W := by
  obtain ⟨n, D, hv, rs, h1, _⟩ := h
  exact h1.m.lv.bel
theorem Ob1.step {w0 W : World} {bb t b N : Nat} (h : Ob1 w0 bb t b N W) (x : OpL) (ho : ObV W x.o.2.1.v x.o.2.2.v x.o.1) (hz : Ozz x.o.1) (hN : N ≤ 1500000000000) :
    Calls Tryz.prog 15 #[.pointer (some ⟨bb, 0, none⟩), .agg (OpL.c x).toArray] W fun e W' => e = .returned (.bool true) ∧ Ob1 w0 bb t b (N + 432000000) W' := by
  obtain ⟨n, D, hv, rs, h1, h2⟩ := h
  obtain ⟨a, c, rfl, _, _⟩ := (h1.m.ls.r.row okOb).len
  obtain ⟨two, kind, ⟨⟨op, on, ols, opr, odl, ops, over⟩, ⟨la, ln, lc⟩, ⟨pa, pn, pc⟩⟩, ⟨⟨zp, zn, zls, zpr, zdl, zps, zv⟩, ⟨za, zb, zc⟩, ⟨zd, ze, zf⟩⟩, sk, sa, r⟩ := x
  refine (step_any two kind op on ols opr odl ops over la ln lc pa pn pc zp zn za zb zc zpr zdl zd ze zf zv sk sa r w0 W bb t b n D a rs.length c rs h1 ho hz (by omega)).mono ?_
  rintro e W' ⟨rfl, D3, n3, hv3, rs3, z1, z2, z3, z4, z5⟩
  exact ⟨rfl, n3, D3, hv3, rs3, z1, by omega⟩
theorem size_op1 {x : OpL} : (Tryz.prog.info? 51).map (·.size) = some (OpL.c x).length := by kernel_rfl
end Le
end Go.Proofs.YtodfmnbfbndkhaaGreatDoor
end S1

section S2
namespace Go.Proofs.YtodfmnbfbndkhaaGreatDoor
open Go.RowKit Go.Sort
namespace Le
set_option maxHeartbeats 16000000 in
set_option maxRecDepth 100000 in
theorem row_find (xp xr : ByteArray) (xk xa : Int) (va : Option Addr) (ns vc : Nat) (S : List Ur) (w : World) (R : Row kUse w (.slice va ns vc) S) (hn : ns = S.length) (hs : ∃ u ∈ S, u.1.x = ⟨xp, xk, xa, xr⟩) :
    Calls Tryz.prog 47 #[.slice va ns vc, .string xp, .agg #[.int .i64 xk, .int .i64 xa], .string xr] w fun e w' => e = .returned (.bool true) ∧ Below w.heap.size w w' := by
  have HE := Lib.hid hs
  obtain ⟨hl3, hl4, hl0, hl1, hl2⟩ := R.len
  have NS : Hid (ns = S.length ∧ ns ≤ maxLen) := Lib.hid ⟨hn, by rw [hn]; exact Nat.le_trans hl1 hl2⟩
  have hnb : ns ≤ 9223372036854775807 := by have := NS.out.2; unfold maxLen at this; omega
  have RU : Hid (∀ W : World, Below w.heap.size w W → Row kUse W (.slice va ns vc) S) := Lib.hid fun W h => R.below h
  obtain ⟨Z, hZ⟩ : ∃ Z, Z = w.alloc (.cells #[.int .i64 xk, .int .i64 xa] 39) := ⟨_, rfl⟩
  obtain ⟨g6, hg6⟩ : ∃ g, g = w.heap.size := ⟨_, rfl⟩
  have BZ : Hid (Below w.heap.size w Z ∧ Z.heap[g6]? = some (.cells #[.int .i64 xk, .int .i64 xa] 39 (0, 0))) := Lib.hid ⟨by rw [hZ]; exact (Below.refl _ _).alloc (Nat.le_refl _) _, by rw [hZ, hg6]; exact heap_alloc_new _ _⟩
  have B0 : Hid (∀ W : World, Below Z.heap.size Z W → Below w.heap.size w W) := Lib.hid fun W h => BZ.out.1.trans (h.mono BZ.out.1.size)
  have RC : Hid (∀ W : World, Below Z.heap.size Z W → W.cell? ⟨g6, 0, none⟩ = some (.int .i64 xk) ∧ W.cell? ⟨g6, 1, none⟩ = some (.int .i64 xa)) := Lib.hid fun W h => by
    have e := (h.block _ (lt_of_some BZ.out.2)).trans BZ.out.2
    refine ⟨?_, ?_⟩ <;> rw [cell_of_row _ _ _ _ _ _ e] <;> rfl
  have hZ' := hZ.symm
  have hg6' := hg6.symm
  clear hZ hg6 hs hn R hl0 hl1 hl2
  go_enter Tryz.func47, Tryz.ntmps47
  go_wp2_with fail
  go_loopg [9] ns (fun gk s9 wr => ∃ (j : Nat), j ≤ ns ∧ gk = ns - j ∧ s9 = .int .i64 j ∧ Hid (Below Z.heap.size Z wr ∧ ∀ i (hi : i < S.length), i < j → S[i].1.x ≠ ⟨xp, xk, xa, xr⟩))
  case atStart => exact ⟨0, Nat.zero_le _, rfl, rfl, Lib.hid ⟨Below.refl _ _, fun i _ h => absurd h (by omega)⟩⟩
  case round =>
    obtain ⟨j, hj, hg, rfl, RJ⟩ := hrel
    have GJ : Hid (gk = ns - j) := Lib.hid hg
    clear hg
    have hjt : j < ns := by
      rcases Nat.lt_or_ge j ns with q | q
      · exact q
      · obtain ⟨u, hu, e⟩ := HE.out
        obtain ⟨i, hi, rfl⟩ := List.getElem_of_mem hu
        exact absurd e (RJ.out.2 i hi (by rw [← NS.out.1] at hi; omega))
    have hj' : (j : Int) < (ns : Int) := by omega
    have hjl : j < S.length := by rw [← NS.out.1]; exact hjt
    obtain ⟨gr, off, rfl, pcs⟩ := (RU.out wr (B0.out wr RJ.out.1)).at j hjl
    obtain ⟨u, hu⟩ : ∃ u, u = S[j] := ⟨_, rfl⟩
    have ex : S.getD j kUse.z = u := by rw [List.getD_eq_getElem?_getD, List.getElem?_eq_getElem hjl, hu]; rfl
    rw [ex] at pcs
    have UE : Hid (S[j].1.x = u.1.x) := Lib.hid (by rw [hu])
    clear hu ex
    obtain ⟨⟨⟨yp, yk, ya, yr⟩, yv⟩, yz⟩ := u
    have p0 : wr.cell? ⟨gr, off + j * 5, none⟩ = some (.string yp) := pcs 0 _ rfl
    have p1 : wr.cell? ⟨gr, off + j * 5 + 1, none⟩ = some (.int .i64 yk) := pcs 1 _ rfl
    have p2 : wr.cell? ⟨gr, off + j * 5 + 2, none⟩ = some (.int .i64 ya) := pcs 2 _ rfl
    have p3 : wr.cell? ⟨gr, off + j * 5 + 3, none⟩ = some (.string yr) := pcs 3 _ rfl
    obtain ⟨r0, r1⟩ := RC.out wr RJ.out.1
    obtain ⟨cb, hcb⟩ : ∃ cb : Bool, (cb = true ↔ (yp = xp ∧ yk = xk ∧ ya = xa ∧ yr = xr)) := ⟨decide (yp = xp ∧ yk = xk ∧ ya = xa ∧ yr = xr), by simp⟩
    have CBJ := Lib.hid hcb
    clear pcs hcb hZ' hg6'
    go_upto_region 4 with fail
    go_cut [40] (fun s40 wx => s40 = .bool cb ∧ Hid (Below Z.heap.size Z wx))
    case first =>
      by_cases h4 : yr = xr
      case neg =>
        have q4 := teq_no h4
        have hf : cb = false := by
          rw [Bool.eq_false_iff]
          intro z
          exact h4 (CBJ.out.1 z).2.2.2
        clear h4
        subst hf
        go_quiet (fail)
        go_wp2_with fail
        go_meet
        exact ⟨rfl, Lib.hid (RJ.out.1.trans ((below_drawn wr _).mono RJ.out.1.size))⟩
      have q4 : (yr.toList == xr.toList) = true := by rw [h4]; exact beq_self_eq_true _
      have HR := Lib.hid h4
      clear h4
      by_cases h2 : yk = xk ∧ ya = xa
      case neg =>
        have hf : cb = false := by
          rw [Bool.eq_false_iff]
          intro z
          exact h2 ⟨(CBJ.out.1 z).2.1, (CBJ.out.1 z).2.2.1⟩
        subst hf
        by_cases h3 : yk = xk
        · have q2 : (yk == xk) = true := by rw [beq_iff_eq]; exact h3
          have q3 : (ya == xa) = false := by rw [beq_eq_false_iff_ne]; exact fun z => h2 ⟨h3, z⟩
          clear h2 h3
          go_quiet (fail)
          go_wp2_with fail
          go_meet
          exact ⟨rfl, Lib.hid (RJ.out.1.trans ((below_drawn wr _).mono RJ.out.1.size))⟩
        · have q2 : (yk == xk) = false := by rw [beq_eq_false_iff_ne]; exact h3
          clear h2 h3
          go_quiet (fail)
          go_wp2_with fail
          go_meet
          exact ⟨rfl, Lib.hid (RJ.out.1.trans ((below_drawn wr _).mono RJ.out.1.size))⟩
      have q2 : (yk == xk) = true := by rw [beq_iff_eq]; exact h2.1
      have q3 : (ya == xa) = true := by rw [beq_iff_eq]; exact h2.2
      have HK := Lib.hid h2
      clear h2
      by_cases h1 : yp = xp
      case neg =>
        have q1 := teq_no h1
        have hf : cb = false := by
          rw [Bool.eq_false_iff]
          intro z
          exact h1 (CBJ.out.1 z).1
        clear h1
        subst hf
        go_quiet (fail)
        go_wp2_with fail
        go_meet
        exact ⟨rfl, Lib.hid (RJ.out.1.trans ((below_drawn wr _).mono RJ.out.1.size))⟩
      have q1 : (yp.toList == xp.toList) = true := by rw [h1]; exact beq_self_eq_true _
      have hf : cb = true := CBJ.out.2 ⟨h1, HK.out.1, HK.out.2, HR.out⟩
      clear h1
      subst hf
      go_quiet (fail)
      go_wp2_with fail
      go_meet
      exact ⟨rfl, Lib.hid (RJ.out.1.trans ((below_drawn wr _).mono RJ.out.1.size))⟩
    obtain ⟨rfl, E7⟩ := hcut
    cases cb with
    | true =>
      go_wp2_with fail
      go_ret
      exact ⟨rfl, B0.out _ E7.out⟩
    | false =>
      have NX : Hid (∀ i (hi : i < S.length), i < j + 1 → S[i].1.x ≠ ⟨xp, xk, xa, xr⟩) := Lib.hid fun i hi h => by
        rcases Nat.lt_or_ge i j with q | q
        · exact RJ.out.2 i hi q
        · obtain rfl : i = j := by omega
          rw [UE.out]
          intro z
          simp only [Ky.mk.injEq] at z
          exact absurd (CBJ.out.2 z) (by simp)
      go_wp2_with fail
      go_roundg (ns - (j + 1))
      case measure => have := GJ.out; omega
      case rel => exact ⟨j + 1, by omega, rfl, by go_num, Lib.hid ⟨E7.out, NX.out⟩⟩
end Le
end Go.Proofs.YtodfmnbfbndkhaaGreatDoor
end S2

section S3
namespace Go.Proofs.YtodfmnbfbndkhaaGreatDoor
open Go.RowKit Go.Sort
namespace Le
/-- All that lives on of a list of objects. -/
def Hld (w : World) (hva : Option Addr) (nh hvc : Nat) (rs : List Rb) : Prop := ∀ W : World, Below w.heap.size w W → L.HasM W ∧ Nms W ∧ (∀ x ∈ rs, ObV W x.2.1.v x.2.2.v x.1) ∧ Row kOb W (.slice hva nh hvc) rs
theorem Hld.below {w W : World} {hva : Option Addr} {nh hvc : Nat} {rs : List Rb} (H : Hld w hva nh hvc rs) (h : Below w.heap.size w W) : Hld W hva nh hvc rs := fun V k => H V (h.trans (k.mono h.size))
set_option maxHeartbeats 16000000 in
set_option maxRecDepth 100000 in
theorem within_any (xp xr : ByteArray) (xk xa : Int) (hva : Option Addr) (nh hvc : Nat) (rs : List Rb) (hs : List Ob) (w : World) (H : Hld w hva nh hvc rs) (hz : ∀ x ∈ rs, Ozz x.1) (he : hs = rs.map (·.1)) (hn : nh = rs.length) (h40 : nh ≤ 40) (P : Hs hs) (hm : tot hs ⟨xp, xk, xa, xr⟩ ≤ MX) :
    Calls Tryz.prog 44 #[.slice hva nh hvc, .string xp, .agg #[.int .i64 xk, .int .i64 xa], .string xr] w fun e w' => e = .returned (.tuple #[.int .i64 (tot hs ⟨xp, xk, xa, xr⟩), .bool true]) ∧ Below w.heap.size w w' := by
  have LV := Lib.hid H
  have RZ := Lib.hid hz
  have HS : Hid (hs = rs.map (·.1) ∧ nh = rs.length ∧ hs.length = nh ∧ nh ≤ 40) := Lib.hid ⟨he, hn, by rw [he, List.length_map, hn], h40⟩
  have HP : Hid (Hs hs ∧ tot hs ⟨xp, xk, xa, xr⟩ ≤ MX) := Lib.hid ⟨P, hm⟩
  obtain ⟨X, hX⟩ : ∃ X : Ky, X = ⟨xp, xk, xa, xr⟩ := ⟨_, rfl⟩
  have XE : Hid (X = ⟨xp, xk, xa, xr⟩) := Lib.hid hX
  rw [← hX] at HP ⊢
  obtain ⟨Z, hZ⟩ : ∃ Z, Z = w.alloc (.cells #[.int .i64 xk, .int .i64 xa] 39) := ⟨_, rfl⟩
  obtain ⟨g6, hg6⟩ : ∃ g, g = w.heap.size := ⟨_, rfl⟩
  have BZ : Hid (Below w.heap.size w Z ∧ Z.heap[g6]? = some (.cells #[.int .i64 xk, .int .i64 xa] 39 (0, 0))) := Lib.hid ⟨by rw [hZ]; exact (Below.refl _ _).alloc (Nat.le_refl _) _, by rw [hZ, hg6]; exact heap_alloc_new _ _⟩
  have B0 : Hid (∀ W : World, Below Z.heap.size Z W → Below w.heap.size w W) := Lib.hid fun W h => BZ.out.1.trans (h.mono BZ.out.1.size)
  have RC : Hid (∀ W : World, Below Z.heap.size Z W → W.cell? ⟨g6, 0, none⟩ = some (.int .i64 xk) ∧ W.cell? ⟨g6, 1, none⟩ = some (.int .i64 xa)) := Lib.hid fun W h => by
    have e := (h.block _ (lt_of_some BZ.out.2)).trans BZ.out.2
    refine ⟨?_, ?_⟩ <;> rw [cell_of_row _ _ _ _ _ _ e] <;> rfl
  have DR : Hid (∀ W : World, Below W.heap.size W W.drew) := Lib.hid fun W => (Below.refl _ W).drew
  have hZ' := hZ.symm
  have hg6' := hg6.symm
  clear hZ hg6 H hz he hn P hm hX
  go_enter Tryz.func44, Tryz.ntmps44
  go_wp2_with fail
  go_loopg [10, 11] nh (fun gk s10 s11 wr => ∃ (k : Nat), k ≤ nh ∧ gk = nh - k ∧ s10 = .int .i64 (tot (hs.take k) X) ∧ s11 = .int .i64 k ∧ Hid (Below Z.heap.size Z wr))
  case atStart => exact ⟨0, Nat.zero_le _, rfl, rfl, rfl, Lib.hid (Below.refl _ _)⟩
  case round =>
    obtain ⟨k, hk, hg, rfl, rfl, RK⟩ := hrel
    have GL : Hid (gk = nh - k) := Lib.hid hg
    clear hg hZ' hg6'
    by_cases hkt : k < nh
    case neg =>
      have hk' : ¬ (k : Int) < (nh : Int) := by omega
      have e : hs.take k = hs := List.take_of_length_le (by rw [HS.out.2.2.1]; omega)
      have FI : Hid (Below Z.heap.size Z wr ∧ tot (hs.take k) X = tot hs X) := Lib.hid ⟨RK.out, by rw [e]⟩
      clear e RK
      go_wp2_with fail
      go_ret2
      rw [FI.out.2]
      exact ⟨rfl, B0.out _ FI.out.1⟩
    have hk' : (k : Int) < (nh : Int) := by omega
    have hkl : k < rs.length := by rw [← HS.out.2.1]; exact hkt
    have hks : k < hs.length := by rw [HS.out.2.2.1]; exact hkt
    have nh40 : nh ≤ 40 := HS.out.2.2.2
    obtain ⟨ge, oe, rfl, _⟩ := (LV.out wr (B0.out wr RK.out)).2.2.2.at k hkl
    obtain ⟨y, hy⟩ : ∃ y, y = rs[k] := ⟨_, rfl⟩
    have YM : Hid (y ∈ rs ∧ rs.getD k kOb.z = y ∧ hs[k] = y.1) := Lib.hid ⟨by rw [hy]; exact List.getElem_mem hkl, by rw [List.getD_eq_getElem?_getD, List.getElem?_eq_getElem hkl, hy]; rfl, by rw [hy]; simp [HS.out.1]⟩
    clear hy
    have SM := Lib.hid (tot_step hks X)
    rw [YM.out.2.2] at SM
    have YE : Hid (shE y.1 = 0) := Lib.hid (by rw [← YM.out.2.2]; exact HP.out.1.e _ (List.getElem_mem hks))
    obtain ⟨⟨yp, yn, yls, ypr, ydl, yps, yvr⟩, ⟨ya, yl, yc⟩, ⟨yd, ye, yf⟩⟩ := y
    have EC : Hid (∀ W : World, Below Z.heap.size Z W → W.cell? ⟨ge, oe + k * 7, none⟩ = some (.string yp) ∧ W.cell? ⟨ge, oe + k * 7 + 1, none⟩ = some (.string yn) ∧ W.cell? ⟨ge, oe + k * 7 + 2, none⟩ = some (.slice ya yl yc) ∧ W.cell? ⟨ge, oe + k * 7 + 3, none⟩ = some (.int .i64 ypr) ∧ W.cell? ⟨ge, oe + k * 7 + 4, none⟩ = some (.int .i64 ydl) ∧ W.cell? ⟨ge, oe + k * 7 + 5, none⟩ = some (.slice yd ye yf) ∧ W.cell? ⟨ge, oe + k * 7 + 6, none⟩ = some (.int .i64 yvr)) := Lib.hid fun W h => by
      obtain ⟨b', off', e', pc⟩ := (LV.out W (B0.out W h)).2.2.2.at k hkl
      simp only [Option.some.injEq, Addr.mk.injEq, and_true] at e'
      obtain ⟨rfl, rfl⟩ := e'
      rw [YM.out.2.1] at pc
      exact ⟨pc 0 _ rfl, pc 1 _ rfl, pc 2 _ rfl, pc 3 _ rfl, pc 4 _ rfl, pc 5 _ rfl, pc 6 _ rfl⟩
    obtain ⟨ho, hho⟩ : ∃ o : Ob, o = ⟨yp, yn, yls, ypr, ydl, yps, yvr⟩ := ⟨_, rfl⟩
    have HE : Hid (ho = ⟨yp, yn, yls, ypr, ydl, yps, yvr⟩) := Lib.hid hho
    have YZ : Hid (Ozz ho) := Lib.hid (by rw [hho]; exact RZ.out _ YM.out.1)
    have UE0 : Hid (usesE ho.ps = 0) := Lib.hid (by
      have q := YE.out
      unfold shE at q
      split at q
      · exact absurd q (by decide)
      · rw [hho]; exact q)
    have OWY : Hid (∀ W : World, Below Z.heap.size Z W → Calls Tryz.prog 10 #[.agg #[.string yp, .string yn, .slice ya yl yc, .int .i64 ypr, .int .i64 ydl, .slice yd ye yf, .int .i64 yvr]] W fun e w' => ∃ xa' xc' xb' xd', e = .returned (.agg #[.string yp, .string yn, .slice xa' yls.length xc', .int .i64 ypr, .int .i64 ydl, .slice xb' yps.length xd', .int .i64 yvr]) ∧ Hid (ObV w' (.slice xa' yls.length xc') (.slice xb' yps.length xd') ho ∧ Below W.heap.size W w')) := Lib.hid fun W h => by
      have q := own_any ⟨yp, yn, yls, ypr, ydl, yps, yvr⟩ _ _ W ((LV.out W (B0.out W h)).2.2.1 _ YM.out.1) (RZ.out _ YM.out.1).s
      refine Calls.mono q ?_
      rintro e w' ⟨xa', xc', zb', zc', rfl, h1, h2⟩
      exact ⟨xa', xc', zb', zc', rfl, Lib.hid ⟨by rw [hho]; exact h1.obv, h2⟩⟩
    obtain ⟨ib, hib⟩ : ∃ b : Bool, b = inB ho xk xa := ⟨_, rfl⟩
    obtain ⟨ub, hub⟩ : ∃ b : Bool, b = L.underB yp xp := ⟨_, rfl⟩
    have UNY : Hid (∀ W : World, Below Z.heap.size Z W → Calls Tryz.prog 48 #[.string yp, .string xp] W fun e w' => e = .returned (.bool ub) ∧ Below W.heap.size W w') := Lib.hid fun W h => by
      rw [hub]
      exact L.under_any yp xp W (LV.out W (B0.out W h)).1
    have INY : Hid (∀ (W : World) (za : Option Addr) (zc : Nat) (zb : Option Addr) (zd : Nat), Below Z.heap.size Z W → ObV W (.slice za yls.length zc) (.slice zb yps.length zd) ho → Calls Tryz.prog 20 #[.agg #[.string yp, .string yn, .slice za yls.length zc, .int .i64 ypr, .int .i64 ydl, .slice zb yps.length zd, .int .i64 yvr], .agg #[.int .i64 xk, .int .i64 xa]] W fun e w' => e = .returned (.bool ib) ∧ Below W.heap.size W w') := Lib.hid fun W za zc zb zd h hv => by
      have q := in_any ho za yls.length zc zb yps.length zd xk xa W (LV.out W (B0.out W h)).2.1 hv.p
      rw [hib]
      rw [hho] at q ⊢
      exact q
    have USY : Hid (∀ (W : World) (za : Option Addr) (zc : Nat) (zb : Option Addr) (zd : Nat), ObV W (.slice za yls.length zc) (.slice zb yps.length zd) ho → Calls Tryz.prog 21 #[.agg #[.string yp, .string yn, .slice za yls.length zc, .int .i64 ypr, .int .i64 ydl, .slice zb yps.length zd, .int .i64 yvr]] W fun e w' => ∃ a n c, e = .returned (.tuple #[.slice a n c, .int .i64 0]) ∧ Hid (Row kAm w' (.slice a n c) (usesL ho.ps) ∧ Below W.heap.size W w')) := Lib.hid fun W za zc zb zd hv => by
      have q := uses_any ho _ _ W hv YZ.out.z
      rw [UE0.out] at q
      rw [hho] at q ⊢
      refine Calls.mono q ?_
      rintro e w' ⟨a, n, c, rfl, h1, h2⟩
      exact ⟨a, n, c, rfl, Lib.hid ⟨h1.row okAm, h2⟩⟩
    obtain ⟨A, hA⟩ : ∃ A, A = tot (hs.take k) X := ⟨_, rfl⟩
    have AE : Hid (A = tot (hs.take k) X ∧ tot (hs.take (k + 1)) X = A + shv (shR ho) X) := Lib.hid ⟨hA, by rw [SM.out, ← hA, hho]⟩
    obtain ⟨cb, hcb⟩ : ∃ cb : Bool, cb = (ub && ib) := ⟨_, rfl⟩
    have MI : Hid (shv (shR ho) X = if cb = true then amt (usesL ho.ps) xr else 0) := Lib.hid (by
      have e1 : ho.p = yp := by rw [hho]
      have e2 : xp ∈ lineP yp ↔ ub = true := by rw [hub]; exact line_under yp xp
      rw [shv_eq YZ.out.z, XE.out, e1, hcb, hib, in_can]
      simp only
      by_cases c1 : xp ∈ lineP yp
      · by_cases c2 : (xk, xa) ∈ canS ho
        · rw [if_pos ⟨c1, c2⟩, if_pos (by rw [e2.1 c1, decide_eq_true c2]; rfl)]
        · rw [if_neg (fun z => c2 z.2), if_neg (by rw [decide_eq_false c2, Bool.and_false]; decide)]
      · have e3 : ub = false := by rw [Bool.eq_false_iff]; exact fun z => c1 (e2.2 z)
        rw [if_neg (fun z => c1 z.1), if_neg (by rw [e3, Bool.false_and]; decide)])
    have CBE : Hid (cb = (ub && ib)) := Lib.hid hcb
    rw [← hA]
    clear hho hib hub hA hcb SM YE
    go_upto_region 5 with fail
    go_cut [38] (fun s38 wx => s38 = .bool (!cb) ∧ Hid (Below Z.heap.size Z wx))
    case first =>
      have D7 : Hid (Below Z.heap.size Z wr.drew) := Lib.hid (RK.out.trans ((DR.out wr).mono RK.out.size))
      obtain ⟨r0a, r1a⟩ := RC.out wr.drew D7.out
      obtain ⟨e0a, e1a, e2a, e3a, e4a, e5a, e6a⟩ := EC.out wr.drew D7.out
      cases ub with
      | false =>
        have hf : cb = false := by rw [CBE.out]; rfl
        subst hf
        obtain ⟨e0, e1, e2, e3, e4, e5, e6⟩ := EC.out wr RK.out
        have c0 : ∀ (dq : Nat) (os : Array Obj), (Go.Sort.grow (redrawn wr dq) os).cell? ⟨ge, oe + k * 7, none⟩ = some (.string yp) := fun dq os => cell_regrown e0 dq os
        have UQ : Hid (∀ (dq : Nat) (os : Array Obj), Calls Tryz.prog 48 #[.string yp, .string xp] (Go.Sort.grow (redrawn wr dq) os) fun e w'' => e = .returned (.bool false) ∧ ∃ p : Regrown, w'' = Go.Sort.grow (redrawn wr p.d) p.os) := Lib.hid (fun dq os => Calls.regrown_of (UNY.out _ (RK.out.trans ((below_regrown wr dq os).mono RK.out.size))))
        clear e0 e1 e2 e3 e4 e5 e6 r0a r1a e0a e1a e2a e3a e4a e5a e6a
        refine wp_region_quiet_below (by kernel_rfl) (by kernel_rfl) ?_
        repeat (go_big_quiet_step (with_reducible exact UQ.out _ _))
        refine wpQuiet_nil ?_
        intro w6 hw6
        have E3 : Hid (Below Z.heap.size Z w6) := Lib.hid (by
          obtain ⟨⟨dq, osq⟩, rfl⟩ := hw6
          exact RK.out.trans ((below_regrown _ _ _).mono RK.out.size))
        clear hw6
        go_wp2_with fail
        go_meet
        exact ⟨rfl, E3⟩
      | true =>
        have hf : cb = ib := by rw [CBE.out, Bool.true_and]
        subst hf
        go_region_held3 (fun W : World => W.cell? ⟨g6, 0, none⟩ = some (.int .i64 xk) ∧ W.cell? ⟨g6, 1, none⟩ = some (.int .i64 xa) ∧ W.cell? ⟨ge, oe + k * 7, none⟩ = some (.string yp) ∧ W.cell? ⟨ge, oe + k * 7 + 1, none⟩ = some (.string yn) ∧ W.cell? ⟨ge, oe + k * 7 + 2, none⟩ = some (.slice ya yl yc) ∧ W.cell? ⟨ge, oe + k * 7 + 3, none⟩ = some (.int .i64 ypr) ∧ W.cell? ⟨ge, oe + k * 7 + 4, none⟩ = some (.int .i64 ydl) ∧ W.cell? ⟨ge, oe + k * 7 + 5, none⟩ = some (.slice yd ye yf) ∧ W.cell? ⟨ge, oe + k * 7 + 6, none⟩ = some (.int .i64 yvr)) (first | exact ⟨by assumption, by assumption, by assumption, by assumption, by assumption, by assumption, by assumption, by assumption, by assumption⟩ | go_keep) (first
          | (go_at_call 48
             refine (UNY.out _ D7.out).mono ?_
             rintro e y1 ⟨rfl, h1⟩
             have E1 : Hid (Below Z.heap.size Z y1) := Lib.hid (D7.out.trans (h1.mono D7.out.size))
             obtain ⟨r0b, r1b⟩ := RC.out y1 E1.out
             obtain ⟨e0b, e1b, e2b, e3b, e4b, e5b, e6b⟩ := EC.out y1 E1.out
             clear h1)
          | (go_at_call 10
             refine (OWY.out _ E1.out).mono ?_
             rintro e y2 ⟨za, zc, zb, zd, rfl, h2⟩
             have R2 := Lib.hid h2.out.1
             have E2 : Hid (Below Z.heap.size Z y2) := Lib.hid (E1.out.trans (h2.out.2.mono E1.out.size))
             obtain ⟨r0c, r1c⟩ := RC.out y2 E2.out
             obtain ⟨e0c, e1c, e2c, e3c, e4c, e5c, e6c⟩ := EC.out y2 E2.out
             clear h2)
          | (go_at_call 20
             refine (INY.out _ za zc zb zd E2.out R2.out).mono ?_
             rintro e y3 ⟨rfl, h3⟩
             have E3 : Hid (Below Z.heap.size Z y3) := Lib.hid (E2.out.trans (h3.mono E2.out.size))
             obtain ⟨r0d, r1d⟩ := RC.out y3 E3.out
             obtain ⟨e0d, e1d, e2d, e3d, e4d, e5d, e6d⟩ := EC.out y3 E3.out
             clear h3))
        go_wp2_with fail
        go_meet
        exact ⟨rfl, E3⟩
    obtain ⟨rfl, E7⟩ := hcut
    clear RK
    cases cb with
    | false =>
      have NX : Hid (tot (hs.take (k + 1)) X = A) := Lib.hid (by rw [AE.out.2, MI.out]; simp)
      go_wp2_with fail
      go_roundg (nh - (k + 1))
      case measure => have := GL.out; omega
      case rel => exact ⟨k + 1, by omega, rfl, by rw [NX.out], by go_num, E7⟩
    | true =>
      obtain ⟨us, hus⟩ : ∃ us, us = usesL ho.ps := ⟨_, rfl⟩
      have NX : Hid (tot (hs.take (k + 1)) X = A + amt us xr ∧ (∀ q, 0 ≤ amt (us.take q) xr ∧ amt (us.take q) xr ≤ amt us xr) ∧ us.length ≤ 4000000 ∧ 0 ≤ A ∧ A + amt us xr ≤ MX) := Lib.hid (by
        have uo := uses_ok YZ.out.z
        rw [← hus] at uo
        have e1 : tot (hs.take (k + 1)) X = A + amt us xr := by rw [AE.out.2, MI.out, if_pos rfl, hus]
        refine ⟨e1, fun q => ⟨amt_nn (fun u hu => (uo.2 u (List.mem_of_mem_take hu)).2.1) _, amt_take (fun u hu => (uo.2 u hu).2.1) _ q⟩, uo.1, ?_, ?_⟩
        · rw [AE.out.1]; exact tot_nn (fun o ho => HP.out.1.z o (List.mem_of_mem_take ho)) X
        · rw [← e1]
          exact Int.le_trans (tot_le HP.out.1.z X (k + 1)) HP.out.2)
      have OC := Lib.hid (OWY.out _ E7.out)
      obtain ⟨e0a, e1a, e2a, e3a, e4a, e5a, e6a⟩ := EC.out _ E7.out
      go_wp2_with fail
      refine OC.out.mono ?_
      rintro e y1 ⟨za, zc, zb, zd, rfl, h1⟩
      have R1 := Lib.hid h1.out.1
      have E1 : Hid (Below Z.heap.size Z y1) := Lib.hid (E7.out.trans (h1.out.2.mono E7.out.size))
      have UC := Lib.hid (USY.out y1 za zc zb zd R1.out)
      clear h1 OC e0a e1a e2a e3a e4a e5a e6a
      go_wp2_with fail
      refine UC.out.mono ?_
      rintro e y2 ⟨ua, un, uc, rfl, h2⟩
      have R2 := Lib.hid h2.out.1
      rw [← hus] at R2
      have E2 : Hid (Below Z.heap.size Z y2) := Lib.hid (E1.out.trans (h2.out.2.mono E1.out.size))
      obtain ⟨ua', uc', eu, _, _⟩ := R2.out.len
      simp only [Value.slice.injEq] at eu
      have UN : Hid (un = us.length) := Lib.hid eu.2.1
      have unb : un ≤ 4000000 := by rw [UN.out]; exact NX.out.2.2.1
      clear eu h2 UC hus
      go_wp2_with fail
      go_loopg [10, 14] un (fun gk s10 s14 wr => ∃ (q : Nat), q ≤ un ∧ gk = un - q ∧ s10 = .int .i64 (A + amt (us.take q) xr) ∧ s14 = .int .i64 q ∧ Hid (Below y2.heap.size y2 wr))
      case atStart => exact ⟨0, Nat.zero_le _, rfl, by simp [amt], rfl, Lib.hid (Below.refl _ _)⟩
      case round =>
        obtain ⟨q, hq, hg, rfl, rfl, RQ⟩ := hrel
        have GQ : Hid (gk = un - q) := Lib.hid hg
        clear hg
        by_cases hqt : q < un
        case neg =>
          have hq' : ¬ (q : Int) < (un : Int) := by omega
          have e : us.take q = us := List.take_of_length_le (by rw [← UN.out]; omega)
          have FI : Hid (Below Z.heap.size Z wr ∧ amt (us.take q) xr = amt us xr) := Lib.hid ⟨E2.out.trans (RQ.out.mono E2.out.size), by rw [e]⟩
          clear e RQ
          go_wp2_with fail
          go_roundg (nh - (k + 1))
          case measure => have := GL.out; omega
          case rel => exact ⟨k + 1, by omega, rfl, by rw [NX.out.1, FI.out.2], by go_num, Lib.hid FI.out.1⟩
        have hq' : (q : Int) < (un : Int) := by omega
        have hql : q < us.length := by rw [← UN.out]; exact hqt
        obtain ⟨gu, ou, rfl, pcs⟩ := (R2.out.below RQ.out).at q hql
        have SQ := Lib.hid (amt_snoc hql xr)
        obtain ⟨u, hu⟩ : ∃ u, u = us[q] := ⟨_, rfl⟩
        have ex : us.getD q kAm.z = u := by rw [List.getD_eq_getElem?_getD, List.getElem?_eq_getElem hql, hu]; rfl
        rw [ex] at pcs
        rw [← hu] at SQ
        obtain ⟨un', uv⟩ := u
        have c0 : wr.cell? ⟨gu, ou + q * 2, none⟩ = some (.string un') := pcs 0 _ rfl
        have c1 : wr.cell? ⟨gu, ou + q * 2 + 1, none⟩ = some (.int .i64 uv) := pcs 1 _ rfl
        obtain ⟨T, hT⟩ : ∃ T, T = amt (us.take q) xr := ⟨_, rfl⟩
        have TE : Hid (T = amt (us.take q) xr) := Lib.hid hT
        rw [← hT]
        clear hu ex pcs hT
        by_cases h1 : un' = xr
        case neg =>
          have q1 := teq_no h1
          have NQ : Hid (amt (us.take (q + 1)) xr = T) := Lib.hid (by rw [SQ.out, if_neg h1, TE.out]; simp)
          clear h1
          go_wp2_with fail
          go_roundg (un - (q + 1))
          case measure => have := GQ.out; omega
          case rel => exact ⟨q + 1, by omega, rfl, by rw [NQ.out], by go_num, RQ⟩
        have q1 : (un'.toList == xr.toList) = true := by rw [h1]; exact beq_self_eq_true _
        have NQ : Hid (amt (us.take (q + 1)) xr = T + uv) := Lib.hid (by rw [SQ.out, if_pos h1, TE.out])
        clear h1
        have a1 := NX.out.2.1 (q + 1)
        have a2 := NX.out.2.2.2.1
        have a3 := NX.out.2.2.2.2
        have a4 := NX.out.2.1 q
        rw [← TE.out] at a4
        rw [NQ.out] at a1
        unfold MX at a3
        have wv : IntKind.i64.wrap (A + T + uv) = A + (T + uv) := by
          rw [IntKind.wrap_i64]
          omega
        have wv2 : wrap64 (A + T + uv) = A + (T + uv) := by unfold wrap64; rw [IntKind.wrap_i64] at wv; exact wv
        have ws : IntKind.i64.wrap (9223372036854775807 - (A + T)) = 9223372036854775807 - (A + T) := by
          rw [IntKind.wrap_i64]
          omega
        have ws2 : wrap64 (9223372036854775807 - (A + T)) = 9223372036854775807 - (A + T) := by unfold wrap64; rw [IntKind.wrap_i64] at ws; exact ws
        have wg : decide (9223372036854775807 - (A + T) < uv) = false := decide_eq_false (by omega)
        have wg2 : ¬ 9223372036854775807 - (A + T) < uv := by omega
        clear a1 a2 a3 a4
        go_wp2_with fail
        go_roundg (un - (q + 1))
        case measure => have := GQ.out; omega
        case rel => exact ⟨q + 1, by omega, rfl, by rw [NQ.out], by go_num, RQ⟩
end Le
end Go.Proofs.YtodfmnbfbndkhaaGreatDoor
end S3

section S4
namespace Go.Proofs.YtodfmnbfbndkhaaGreatDoor
open Go.RowKit Go.Sort
namespace Le
theorem sh_le {hs : List Ob} (P : Hs hs) {o : Ob} (ho : o ∈ hs) (y : Ky) : shv (shR o) y ≤ tot hs y := by
  obtain ⟨i, hi, rfl⟩ := List.getElem_of_mem ho
  have h1 := tot_del_at hs i hi y
  have h2 := tot_nn (P.del i).z y
  omega
/-- A sum that is not 0 has a row. -/
theorem row_ex {D : DataW Unit} {S : List Ur} {hs : List Ob} (H : Li D S) (R : Rep D (tot hs)) (P : Hs hs) {o : Ob} (ho : o ∈ hs) {p : ByteArray} (hp : p ∈ lineP o.p) {s : Int × Int} (hc : s ∈ canS o) {u : Am} (hu : u ∈ usesL o.ps) (h0 : 0 < u.v) : ∃ y ∈ S, y.1.x = ⟨p, s.1, s.2, u.n⟩ := by
  have h1 := sh_le P ho ⟨p, s.1, s.2, u.n⟩
  rw [shv_eq (P.z o ho), if_pos ⟨hp, hc⟩] at h1
  simp only at h1
  rw [amt_at (uses_nodup o.ps) hu] at h1
  obtain ⟨y, hy, e⟩ := (H.m ⟨⟨p, s.1, s.2, u.n⟩, tot hs ⟨p, s.1, s.2, u.n⟩⟩).2 ((in_iff R _).2 ⟨rfl, by simp only; omega⟩)
  exact ⟨y, hy, by rw [e]⟩
/-- How many lie under a path. -/
def undC (p : ByteArray) : List Ob → Int
  | [] => 0
  | o :: r => (if L.underB o.p p = true then 1 else 0) + undC p r
theorem undC_app (p : ByteArray) : ∀ a b : List Ob, undC p (a ++ b) = undC p a + undC p b
  | [], b => by simp [undC]
  | o :: r, b => by rw [List.cons_append, undC, undC, undC_app p r b]; omega
theorem undC_step {hs : List Ob} {j : Nat} (h : j < hs.length) (p : ByteArray) : undC p (hs.take (j + 1)) = undC p (hs.take j) + if L.underB (hs[j]).p p = true then 1 else 0 := by
  rw [List.take_add_one, List.getElem?_eq_getElem h, undC_app]
  simp [undC]
theorem undC_le (p : ByteArray) : ∀ l : List Ob, 0 ≤ undC p l ∧ undC p l ≤ l.length
  | [] => by simp [undC]
  | o :: r => by
    have := undC_le p r
    rw [undC, List.length_cons]
    split <;> omega
theorem und_tot (p : ByteArray) : ∀ {l : List Ob}, (∀ o ∈ l, PSz o.ps ∧ shE o = 0) → tot l ⟨p, 0, 0, tCnt⟩ = 1000 * undC p l
  | [], _ => rfl
  | o :: r, h => by
    have hz := (h o (by simp)).1
    have he := (h o (by simp)).2
    have hu : usesE o.ps = 0 := by
      unfold shE at he
      split at he
      · exact absurd he (by decide)
      · exact he
    have ha : amt (usesL o.ps) tCnt = 1000 := amt_at (uses_nodup o.ps) (count_use hu)
    rw [tot, und_tot p (fun x hx => h x (by simp [hx])), undC, shv_eq hz]
    simp only
    rw [ha]
    by_cases q : p ∈ lineP o.p
    · rw [if_pos ⟨q, by simp [canS]⟩, if_pos ((line_under _ _).1 q)]; omega
    · rw [if_neg (fun z => q z.1), if_neg (fun z => q ((line_under _ _).2 z))]; omega
set_option maxHeartbeats 16000000 in
set_option maxRecDepth 100000 in
theorem agrees_any {w0 w : World} {bb t b n : Nat} {D : DataW Unit} {hv : Value} {rs : List Rb} (B : Bk w0 bb t b n D hv rs w) (hn : n ≤ 1500000000000) :
    Calls Tryz.prog 22 #[.pointer (some ⟨bb, 0, none⟩)] w fun e w' => e = .returned (.bool true) ∧ Below w.heap.size w w' := by
  obtain ⟨hs, hhs⟩ : ∃ l, l = rs.map (·.1) := ⟨_, rfl⟩
  obtain ⟨hva, hvc, hhv, _, _⟩ := (B.m.ls.r.row okOb).len
  obtain ⟨nh, hnh⟩ : ∃ k, k = rs.length := ⟨_, rfl⟩
  rw [← hnh] at hhv
  subst hhv
  have HS : Hid (hs = rs.map (·.1) ∧ nh = rs.length ∧ hs.length = nh ∧ nh ≤ 40) := Lib.hid ⟨hhs, hnh, by rw [hhs, List.length_map, hnh], by rw [hnh]; exact B.len⟩
  have REP : Hid (Rep D (tot hs) ∧ Hs hs) := Lib.hid ⟨by rw [hhs]; exact B.m.lv.rep, by rw [hhs]; exact B.hs⟩
  have CF : Hid (∀ W : World, Below w.heap.size w W → W.cell? ⟨bb, 0, none⟩ = some (.pointer (some ⟨t, 0, none⟩)) ∧ W.cell? ⟨bb, 1, none⟩ = some (.slice hva nh hvc)) := Lib.hid fun W h => by
    have q := B.m.below h
    exact ⟨q.c0, q.c1⟩
  have LD : Hid (∀ W : World, Below w.heap.size w W → Ld W t b n D) := Lib.hid fun W h => (B.m.below h).lv.ld
  have HL : Hid (Hld w hva nh hvc rs) := Lib.hid fun W h => by
    have q := B.m.below h
    exact ⟨q.lv.gl.hm, q.lv.gl.nm, fun x hx => (q.ls.o x hx).obv, q.ls.r.row okOb⟩
  have RZ : Hid (∀ x ∈ rs, Ozz x.1) := Lib.hid B.oz
  have RW := Lib.hid (rows_lv B.m.lv (by omega))
  clear hhs hnh B hn
  obtain ⟨k0, k1⟩ := CF.out w (Below.refl _ _)
  go_enter Tryz.func22, Tryz.ntmps22
  go_wp2_with fail
  refine RW.out.mono ?_
  rintro e w2 ⟨vr, S, rfl, h1, h2, hb2⟩
  obtain ⟨va, vc, rfl, hvl, hvm⟩ := h1.len
  obtain ⟨ns, hns⟩ : ∃ k, k = S.length := ⟨_, rfl⟩
  have NS : Hid (ns = S.length ∧ ns ≤ maxLen) := Lib.hid ⟨hns, by rw [hns]; exact Nat.le_trans hvl hvm⟩
  have hnb : ns ≤ 9223372036854775807 := by have := NS.out.2; unfold maxLen at this; omega
  have hnh40 : nh ≤ 40 := HS.out.2.2.2
  have RU : Hid (∀ W : World, Below w2.heap.size w2 W → Row kUse W (.slice va ns vc) S) := Lib.hid fun W h => by rw [hns]; exact h1.below h
  have SO : Hid (∀ u ∈ S, Rok hs u) := Lib.hid fun u hu => row_ok h2 REP.out.1 hu
  have RX : Hid (∀ o ∈ hs, ∀ p ∈ lineP o.p, ∀ s ∈ canS o, ∀ u ∈ usesL o.ps, 0 < u.v → ∃ y ∈ S, y.1.x = ⟨p, s.1, s.2, u.n⟩) := Lib.hid fun o ho p hp s hc u hu h0 => row_ex h2 REP.out.1 REP.out.2 ho hp hc hu h0
  have B0 : Hid (∀ W : World, Below w2.heap.size w2 W → Below w.heap.size w W) := Lib.hid fun W h => hb2.trans (h.mono hb2.size)
  have DR : Hid (∀ W : World, Below W.heap.size W W.drew) := Lib.hid fun W => (Below.refl _ W).drew
  rw [← hns]
  clear h1 h2 hb2 RW hvl hvm hns k0 k1
  go_upto_block 0 with fail
  go_cut [] (fun wx => Hid (Below w2.heap.size w2 wx))
  case first => as_aux_lemma =>
    go_wp2_with fail
    go_loopg [4] ns (fun gk s4 wr => ∃ (i : Nat), i ≤ ns ∧ gk = ns - i ∧ s4 = .int .i64 i ∧ Hid (Below w2.heap.size w2 wr))
    case atStart => exact ⟨0, Nat.zero_le _, rfl, rfl, Lib.hid (Below.refl _ _)⟩
    case round =>
      obtain ⟨i, hi, hg, rfl, R⟩ := hrel
      have GK : Hid (gk = ns - i) := Lib.hid hg
      clear hg
      by_cases hlt : i < ns
      case neg =>
        have hl' : ¬ (i : Int) < (ns : Int) := by omega
        go_wp2_with fail
        go_meet
        exact R
      have hl' : (i : Int) < (ns : Int) := by omega
      have hil : i < S.length := by rw [← NS.out.1]; exact hlt
      obtain ⟨gr, off, rfl, _⟩ := (RU.out wr R.out).at i hil
      obtain ⟨u, hu⟩ : ∃ u, u = S[i] := ⟨_, rfl⟩
      have ex : S.getD i kUse.z = u := by rw [List.getD_eq_getElem?_getD, List.getElem?_eq_getElem hil, hu]; rfl
      have UO : Hid (Rok hs u) := Lib.hid (SO.out u (by rw [hu]; exact List.getElem_mem hil))
      clear hu
      obtain ⟨⟨⟨xp, xk, xa, xr⟩, xv⟩, xz⟩ := u
      have RC : Hid (∀ W : World, Below w2.heap.size w2 W → W.cell? ⟨gr, off + i * 5, none⟩ = some (.string xp) ∧ W.cell? ⟨gr, off + i * 5 + 1, none⟩ = some (.int .i64 xk) ∧ W.cell? ⟨gr, off + i * 5 + 2, none⟩ = some (.int .i64 xa) ∧ W.cell? ⟨gr, off + i * 5 + 3, none⟩ = some (.string xr) ∧ W.cell? ⟨gr, off + i * 5 + 4, none⟩ = some (.int .i64 xv)) := Lib.hid fun W h => by
        obtain ⟨b', off', e', pc⟩ := (RU.out W h).at i hil
        simp only [Option.some.injEq, Addr.mk.injEq, and_true] at e'
        obtain ⟨rfl, rfl⟩ := e'
        rw [ex] at pc
        exact ⟨pc 0 _ rfl, pc 1 _ rfl, pc 2 _ rfl, pc 3 _ rfl, pc 4 _ rfl⟩
      have TE : Hid (tot hs ⟨xp, xk, xa, xr⟩ = xv ∧ 0 < xv ∧ xv ≤ MX) := Lib.hid ⟨UO.out.e, UO.out.p, UO.out.m⟩
      have WI : Hid (∀ W : World, Below w2.heap.size w2 W → Calls Tryz.prog 44 #[.slice hva nh hvc, .string xp, .agg #[.int .i64 xk, .int .i64 xa], .string xr] W fun e w' => e = .returned (.tuple #[.int .i64 xv, .bool true]) ∧ Below W.heap.size W w') := Lib.hid fun W h => by
        have q := within_any xp xr xk xa hva nh hvc rs hs W (HL.out.below (B0.out W h)) RZ.out HS.out.1 HS.out.2.1 HS.out.2.2.2 REP.out.2 (by rw [TE.out.1]; exact TE.out.2.2)
        rw [TE.out.1] at q
        exact q
      have UD : Hid (∀ W : World, Below w2.heap.size w2 W → Calls Tryz.prog 18 #[.pointer (some ⟨t, 0, none⟩), .string xp, .agg #[.int .i64 xk, .int .i64 xa], .string xr] W fun e w' => e = .returned (.int .i64 xv) ∧ Below W.heap.size W w') := Lib.hid fun W h => by
        have q := used_any (w := W) ⟨xp, xk, xa, xr⟩ (LD.out W (B0.out W h)) REP.out.1 UO.out.f
        rw [TE.out.1] at q
        exact q
      clear ex
      have q1 : (xv != xv) = false := bne_self_eq_false _
      have q2 : (xv == 0) = false := by rw [beq_eq_false_iff_ne]; have := TE.out.2.1; omega
      have D5 : Hid (Below w2.heap.size w2 wr.drew) := Lib.hid (R.out.trans ((DR.out wr).mono R.out.size))
      go_upto_region 5 with fail
      obtain ⟨k0, k1⟩ := CF.out _ (B0.out _ D5.out)
      obtain ⟨r0, r1, r2, r3, r4⟩ := RC.out _ D5.out
      go_region_held3 (fun W : World => W.cell? ⟨bb, 0, none⟩ = some (.pointer (some ⟨t, 0, none⟩)) ∧ W.cell? ⟨bb, 1, none⟩ = some (.slice hva nh hvc) ∧ W.cell? ⟨gr, off + i * 5, none⟩ = some (.string xp) ∧ W.cell? ⟨gr, off + i * 5 + 1, none⟩ = some (.int .i64 xk) ∧ W.cell? ⟨gr, off + i * 5 + 2, none⟩ = some (.int .i64 xa) ∧ W.cell? ⟨gr, off + i * 5 + 3, none⟩ = some (.string xr) ∧ W.cell? ⟨gr, off + i * 5 + 4, none⟩ = some (.int .i64 xv)) (first | exact ⟨by assumption, by assumption, by assumption, by assumption, by assumption, by assumption, by assumption⟩ | go_keep) (first
        | (go_at_call 44
           refine (WI.out _ D5.out).mono ?_
           rintro e y1 ⟨rfl, h1⟩
           have E1 : Hid (Below w2.heap.size w2 y1) := Lib.hid (D5.out.trans (h1.mono D5.out.size))
           obtain ⟨ka0, ka1⟩ := CF.out _ (B0.out _ E1.out)
           obtain ⟨ra0, ra1, ra2, ra3, ra4⟩ := RC.out _ E1.out
           clear h1))
      clear k0 k1 r0 r1 r2 r3 r4 ka0 ka1 ra0 ra1 ra2 ra3 ra4
      go_upto_region 6 with fail
      have D6 : Hid (Below w2.heap.size w2 y1.drew) := Lib.hid (E1.out.trans ((DR.out y1).mono E1.out.size))
      obtain ⟨k0, k1⟩ := CF.out _ (B0.out _ D6.out)
      obtain ⟨r0, r1, r2, r3, r4⟩ := RC.out _ D6.out
      go_region_held3 (fun W : World => W.cell? ⟨bb, 0, none⟩ = some (.pointer (some ⟨t, 0, none⟩)) ∧ W.cell? ⟨bb, 1, none⟩ = some (.slice hva nh hvc) ∧ W.cell? ⟨gr, off + i * 5, none⟩ = some (.string xp) ∧ W.cell? ⟨gr, off + i * 5 + 1, none⟩ = some (.int .i64 xk) ∧ W.cell? ⟨gr, off + i * 5 + 2, none⟩ = some (.int .i64 xa) ∧ W.cell? ⟨gr, off + i * 5 + 3, none⟩ = some (.string xr) ∧ W.cell? ⟨gr, off + i * 5 + 4, none⟩ = some (.int .i64 xv)) (first | exact ⟨by assumption, by assumption, by assumption, by assumption, by assumption, by assumption, by assumption⟩ | go_keep) (first
        | (go_at_call 18
           refine (UD.out _ D6.out).mono ?_
           rintro e y2 ⟨rfl, h2⟩
           have E2 : Hid (Below w2.heap.size w2 y2) := Lib.hid (D6.out.trans (h2.mono D6.out.size))
           obtain ⟨ka0, ka1⟩ := CF.out _ (B0.out _ E2.out)
           obtain ⟨ra0, ra1, ra2, ra3, ra4⟩ := RC.out _ E2.out
           clear h2))
      go_wp2_with fail
      go_roundg (ns - (i + 1))
      case measure => have := GK.out; omega
      case rel => exact ⟨i + 1, by omega, rfl, by go_num, E2⟩
  have M1 := hcut
  clear hcut SO
  go_upto_block 2 with fail
  go_cut [] (fun wx => Hid (Below w2.heap.size w2 wx))
  case first => as_aux_lemma =>
    go_wp2_with fail
    go_loopg [7] nh (fun gk s7 wr => ∃ (k : Nat), k ≤ nh ∧ gk = nh - k ∧ s7 = .int .i64 k ∧ Hid (Below w2.heap.size w2 wr))
    case atStart => exact ⟨0, Nat.zero_le _, rfl, rfl, M1⟩
    case round =>
      obtain ⟨k, hk, hg, rfl, R⟩ := hrel
      have GK : Hid (gk = nh - k) := Lib.hid hg
      clear hg M1
      by_cases hkt : k < nh
      case neg =>
        have hk' : ¬ (k : Int) < (nh : Int) := by omega
        obtain ⟨k0, k1⟩ := CF.out _ (B0.out _ R.out)
        go_wp2_with fail
        go_meet
        exact R
      have hk' : (k : Int) < (nh : Int) := by omega
      have hkl : k < rs.length := by rw [← HS.out.2.1]; exact hkt
      have hks : k < hs.length := by rw [HS.out.2.2.1]; exact hkt
      obtain ⟨ge, oe, rfl, _⟩ := (HL.out wr (B0.out wr R.out)).2.2.2.at k hkl
      obtain ⟨y, hy⟩ : ∃ y, y = rs[k] := ⟨_, rfl⟩
      have YM : Hid (y ∈ rs ∧ rs.getD k kOb.z = y ∧ hs[k] = y.1) := Lib.hid ⟨by rw [hy]; exact List.getElem_mem hkl, by rw [List.getD_eq_getElem?_getD, List.getElem?_eq_getElem hkl, hy]; rfl, by rw [hy]; simp [HS.out.1]⟩
      clear hy
      obtain ⟨⟨yp, yn, yls, ypr, ydl, yps, yvr⟩, ⟨ya, yl, yc⟩, ⟨yd, ye, yf⟩⟩ := y
      have EC : Hid (∀ W : World, Below w2.heap.size w2 W → W.cell? ⟨ge, oe + k * 7, none⟩ = some (.string yp) ∧ W.cell? ⟨ge, oe + k * 7 + 1, none⟩ = some (.string yn) ∧ W.cell? ⟨ge, oe + k * 7 + 2, none⟩ = some (.slice ya yl yc) ∧ W.cell? ⟨ge, oe + k * 7 + 3, none⟩ = some (.int .i64 ypr) ∧ W.cell? ⟨ge, oe + k * 7 + 4, none⟩ = some (.int .i64 ydl) ∧ W.cell? ⟨ge, oe + k * 7 + 5, none⟩ = some (.slice yd ye yf) ∧ W.cell? ⟨ge, oe + k * 7 + 6, none⟩ = some (.int .i64 yvr)) := Lib.hid fun W h => by
        obtain ⟨b', off', e', pc⟩ := (HL.out W (B0.out W h)).2.2.2.at k hkl
        simp only [Option.some.injEq, Addr.mk.injEq, and_true] at e'
        obtain ⟨rfl, rfl⟩ := e'
        rw [YM.out.2.1] at pc
        exact ⟨pc 0 _ rfl, pc 1 _ rfl, pc 2 _ rfl, pc 3 _ rfl, pc 4 _ rfl, pc 5 _ rfl, pc 6 _ rfl⟩
      obtain ⟨ho, hho⟩ : ∃ o : Ob, o = ⟨yp, yn, yls, ypr, ydl, yps, yvr⟩ := ⟨_, rfl⟩
      have HE : Hid (ho = ⟨yp, yn, yls, ypr, ydl, yps, yvr⟩) := Lib.hid hho
      have YH2 : Hid (hs[k] = ho) := Lib.hid (by rw [YM.out.2.2, hho])
      have YH : Hid (ho ∈ hs) := Lib.hid (by rw [← YH2.out]; exact List.getElem_mem hks)
      have YZ : Hid (Ozz ho) := Lib.hid (by rw [hho]; exact RZ.out _ YM.out.1)
      have UE0 : Hid (usesE ho.ps = 0) := Lib.hid (by
        have q := REP.out.2.e ho YH.out
        unfold shE at q
        split at q
        · exact absurd q (by decide)
        · exact q)
      have SE0 : Hid (L.splitE yp = 0) := Lib.hid (by
        have q := REP.out.2.e ho YH.out
        unfold shE at q
        split at q
        · exact absurd q (by decide)
        · rename_i z
          rw [hho] at z
          simpa using z)
      have OWY : Hid (∀ W : World, Below w2.heap.size w2 W → Calls Tryz.prog 10 #[.agg #[.string yp, .string yn, .slice ya yl yc, .int .i64 ypr, .int .i64 ydl, .slice yd ye yf, .int .i64 yvr]] W fun e w' => ∃ xa' xc' xb' xd', e = .returned (.agg #[.string yp, .string yn, .slice xa' yls.length xc', .int .i64 ypr, .int .i64 ydl, .slice xb' yps.length xd', .int .i64 yvr]) ∧ Hid (ObV w' (.slice xa' yls.length xc') (.slice xb' yps.length xd') ho ∧ Below W.heap.size W w')) := Lib.hid fun W h => by
        have q := own_any ⟨yp, yn, yls, ypr, ydl, yps, yvr⟩ _ _ W ((HL.out W (B0.out W h)).2.2.1 _ YM.out.1) (RZ.out _ YM.out.1).s
        refine Calls.mono q ?_
        rintro e w' ⟨xa', xc', zb', zc', rfl, h1, h2⟩
        exact ⟨xa', xc', zb', zc', rfl, Lib.hid ⟨by rw [hho]; exact h1.obv, h2⟩⟩
      obtain ⟨us, hus⟩ : ∃ us, us = usesL ho.ps := ⟨_, rfl⟩
      obtain ⟨ln, hln⟩ : ∃ l, l = lineP yp := ⟨_, rfl⟩
      obtain ⟨sc, hsc⟩ : ∃ l, l = canS ho := ⟨_, rfl⟩
      have UL : Hid (us.length ≤ 4000000) := Lib.hid (by rw [hus]; exact (uses_ok YZ.out.z).1)
      have RY : Hid (∀ p ∈ ln, ∀ s ∈ sc, ∀ u ∈ us, 0 < u.v → ∃ y ∈ S, y.1.x = ⟨p, s.1, s.2, u.n⟩) := Lib.hid fun p hp s hc u hu h0 => RX.out ho YH.out p (by rw [HE.out]; rw [← hln]; exact hp) s (by rw [← hsc]; exact hc) u (by rw [← hus]; exact hu) h0
      have LI : Hid (∀ W : World, Below w2.heap.size w2 W → Calls Tryz.prog 45 #[.string yp] W fun e w' => ∃ a m c, e = .returned (.tuple #[.slice a m c, .int .i64 0]) ∧ Hid (L.Strs w' (.slice a m c) ln ∧ Below W.heap.size W w')) := Lib.hid fun W h => by
        have q := line_all yp W (HL.out W (B0.out W h)).1
        rw [SE0.out] at q
        rw [hln]
        refine Calls.mono q ?_
        rintro e w' ⟨a, m, c, rfl, h1, h2⟩
        exact ⟨a, m, c, rfl, Lib.hid ⟨h1, h2⟩⟩
      have OFY : Hid (∀ (W : World) (za : Option Addr) (zc : Nat) (zb : Option Addr) (zd : Nat), Below w2.heap.size w2 W → ObV W (.slice za yls.length zc) (.slice zb yps.length zd) ho → Calls Tryz.prog 46 #[.agg #[.string yp, .string yn, .slice za yls.length zc, .int .i64 ypr, .int .i64 ydl, .slice zb yps.length zd, .int .i64 yvr]] W fun e w' => ∃ a m c, e = .returned (.slice a m c) ∧ Hid (Row kSc w' (.slice a m c) sc ∧ Below W.heap.size W w')) := Lib.hid fun W za zc zb zd h hv => by
        have q := of_any ho za yls.length zc zb yps.length zd W (HL.out W (B0.out W h)).2.1 hv.p
        rw [hsc]
        rw [hho] at q ⊢
        refine Calls.mono q ?_
        rintro e w' ⟨a, m, c, rfl, h1, h2⟩
        exact ⟨a, m, c, rfl, Lib.hid ⟨h1.row okSc, h2⟩⟩
      have USY : Hid (∀ (W : World) (za : Option Addr) (zc : Nat) (zb : Option Addr) (zd : Nat), ObV W (.slice za yls.length zc) (.slice zb yps.length zd) ho → Calls Tryz.prog 21 #[.agg #[.string yp, .string yn, .slice za yls.length zc, .int .i64 ypr, .int .i64 ydl, .slice zb yps.length zd, .int .i64 yvr]] W fun e w' => ∃ a m c, e = .returned (.tuple #[.slice a m c, .int .i64 0]) ∧ Hid (Row kAm w' (.slice a m c) us ∧ Below W.heap.size W w')) := Lib.hid fun W za zc zb zd hv => by
        have q := uses_any ho _ _ W hv YZ.out.z
        rw [UE0.out] at q
        rw [hus]
        rw [hho] at q ⊢
        refine Calls.mono q ?_
        rintro e w' ⟨a, m, c, rfl, h1, h2⟩
        exact ⟨a, m, c, rfl, Lib.hid ⟨h1.row okAm, h2⟩⟩
      have C1 := Lib.hid (LI.out wr R.out)
      clear hus hln hsc hho
      obtain ⟨k0, k1⟩ := CF.out _ (B0.out _ R.out)
      obtain ⟨e0, e1, e2, e3, e4, e5, e6⟩ := EC.out _ R.out
      go_wp2_with fail
      refine C1.out.mono ?_
      rintro e z1 ⟨la, lm, lc, rfl, h1⟩
      have L1 := Lib.hid h1.out.1
      have E1 : Hid (Below w2.heap.size w2 z1) := Lib.hid (R.out.trans (h1.out.2.mono R.out.size))
      have C2 := Lib.hid (OWY.out z1 E1.out)
      clear h1 C1 k0 k1 e0 e1 e2 e3 e4 e5 e6
      obtain ⟨k0, k1⟩ := CF.out _ (B0.out _ E1.out)
      obtain ⟨e0, e1, e2, e3, e4, e5, e6⟩ := EC.out _ E1.out
      go_wp2_with fail
      refine C2.out.mono ?_
      rintro e z2 ⟨za, zc, zb, zd, rfl, h1⟩
      have E2 : Hid (Below w2.heap.size w2 z2) := Lib.hid (E1.out.trans (h1.out.2.mono E1.out.size))
      have B21 : Hid (Below z1.heap.size z1 z2) := Lib.hid h1.out.2
      have C3 := Lib.hid (OFY.out z2 za zc zb zd E2.out h1.out.1)
      clear h1 C2 k0 k1 e0 e1 e2 e3 e4 e5 e6
      go_wp2_with fail
      refine C3.out.mono ?_
      rintro e z3 ⟨sa, sm, scp, rfl, h1⟩
      have S1 := Lib.hid h1.out.1
      have E3 : Hid (Below w2.heap.size w2 z3) := Lib.hid (E2.out.trans (h1.out.2.mono E2.out.size))
      have B31 : Hid (Below z1.heap.size z1 z3) := Lib.hid (B21.out.trans (h1.out.2.mono B21.out.size))
      have C4 := Lib.hid (OWY.out z3 E3.out)
      clear h1 C3
      obtain ⟨k0, k1⟩ := CF.out _ (B0.out _ E3.out)
      obtain ⟨e0, e1, e2, e3, e4, e5, e6⟩ := EC.out _ E3.out
      go_wp2_with fail
      refine C4.out.mono ?_
      rintro e z4 ⟨za2, zc2, zb2, zd2, rfl, h1⟩
      have E4 : Hid (Below w2.heap.size w2 z4) := Lib.hid (E3.out.trans (h1.out.2.mono E3.out.size))
      have B43 : Hid (Below z3.heap.size z3 z4) := Lib.hid h1.out.2
      have C5 := Lib.hid (USY.out z4 za2 zc2 zb2 zd2 h1.out.1)
      clear h1 C4 k0 k1 e0 e1 e2 e3 e4 e5 e6
      go_wp2_with fail
      refine C5.out.mono ?_
      rintro e z5 ⟨ua, um, uc, rfl, h1⟩
      have U1 := Lib.hid h1.out.1
      have E5 : Hid (Below w2.heap.size w2 z5) := Lib.hid (E4.out.trans (h1.out.2.mono E4.out.size))
      have B53 : Hid (Below z3.heap.size z3 z5) := Lib.hid (B43.out.trans (h1.out.2.mono B43.out.size))
      have B51 : Hid (Below z1.heap.size z1 z5) := Lib.hid (B31.out.trans (B53.out.mono B31.out.size))
      clear h1 C5 B43 B21
      obtain ⟨la', lc', le, ll1, ll2⟩ := L1.out.len
      simp only [Value.slice.injEq] at le
      have LN : Hid (lm = ln.length ∧ lm ≤ maxLen) := Lib.hid ⟨le.2.1, by rw [le.2.1]; exact Nat.le_trans ll1 ll2⟩
      obtain ⟨sa', sc', se, sl1, sl2⟩ := S1.out.len
      simp only [Value.slice.injEq] at se
      have SN : Hid (sm = sc.length ∧ sm ≤ maxLen) := Lib.hid ⟨se.2.1, by rw [se.2.1]; exact Nat.le_trans sl1 sl2⟩
      obtain ⟨ua', uc', ue, ul1, ul2⟩ := U1.out.len
      simp only [Value.slice.injEq] at ue
      have UN : Hid (um = us.length ∧ um ≤ maxLen) := Lib.hid ⟨ue.2.1, by rw [ue.2.1]; exact Nat.le_trans ul1 ul2⟩
      have lmb : lm ≤ 9223372036854775807 := by have := LN.out.2; unfold maxLen at this; omega
      have smb : sm ≤ 9223372036854775807 := by have := SN.out.2; unfold maxLen at this; omega
      have umb : um ≤ 9223372036854775807 := by have := UN.out.2; unfold maxLen at this; omega
      have LR : Hid (∀ W : World, Below z5.heap.size z5 W → L.Strs W (.slice la lm lc) ln) := Lib.hid fun W h => L1.out.below (B51.out.trans (h.mono B51.out.size))
      have SR : Hid (∀ W : World, Below z5.heap.size z5 W → Row kSc W (.slice sa sm scp) sc) := Lib.hid fun W h => S1.out.below (B53.out.trans (h.mono B53.out.size))
      have UR : Hid (∀ W : World, Below z5.heap.size z5 W → Row kAm W (.slice ua um uc) us) := Lib.hid fun W h => U1.out.below h
      have BB : Hid (∀ W : World, Below z5.heap.size z5 W → Below w2.heap.size w2 W) := Lib.hid fun W h => E5.out.trans (h.mono E5.out.size)
      clear le se ue L1 S1 U1 B31 B53 B51 E1 E2 E3 E4 E5 R ll1 ll2 sl1 sl2 ul1 ul2
      go_wp2_with fail
      go_loopg [13] lm (fun gk s13 wr => ∃ (j : Nat), j ≤ lm ∧ gk = lm - j ∧ s13 = .int .i64 j ∧ Hid (Below z5.heap.size z5 wr))
      case atStart => exact ⟨0, Nat.zero_le _, rfl, rfl, Lib.hid (Below.refl _ _)⟩
      case round =>
        obtain ⟨j, hj, hg, rfl, RJ⟩ := hrel
        have GJ : Hid (gk = lm - j) := Lib.hid hg
        clear hg
        by_cases hjt : j < lm
        case neg =>
          have hj' : ¬ (j : Int) < (lm : Int) := by omega
          go_wp2_with fail
          go_roundg (nh - (k + 1))
          case measure => have := GK.out; omega
          case rel => exact ⟨k + 1, by omega, rfl, by go_num, Lib.hid (BB.out _ RJ.out)⟩
        have hj' : (j : Int) < (lm : Int) := by omega
        go_wp2_with fail
        go_loopg [14] sm (fun gk s14 wr => ∃ (m : Nat), m ≤ sm ∧ gk = sm - m ∧ s14 = .int .i64 m ∧ Hid (Below z5.heap.size z5 wr))
        case atStart => exact ⟨0, Nat.zero_le _, rfl, rfl, RJ⟩
        case round =>
          obtain ⟨m, hm, hg, rfl, RM⟩ := hrel
          have GM : Hid (gk = sm - m) := Lib.hid hg
          clear hg RJ
          by_cases hmt : m < sm
          case neg =>
            have hm' : ¬ (m : Int) < (sm : Int) := by omega
            go_wp2_with fail
            go_roundg (lm - (j + 1))
            case measure => have := GJ.out; omega
            case rel => exact ⟨j + 1, by omega, rfl, by go_num, RM⟩
          have hm' : (m : Int) < (sm : Int) := by omega
          go_wp2_with fail
          go_loopg [15] um (fun gk s15 wr => ∃ (q : Nat), q ≤ um ∧ gk = um - q ∧ s15 = .int .i64 q ∧ Hid (Below z5.heap.size z5 wr))
          case atStart => exact ⟨0, Nat.zero_le _, rfl, rfl, RM⟩
          case round =>
            obtain ⟨q, hq, hg, rfl, RQ⟩ := hrel
            have GQ : Hid (gk = um - q) := Lib.hid hg
            clear hg RM
            by_cases hqt : q < um
            case neg =>
              have hq' : ¬ (q : Int) < (um : Int) := by omega
              go_wp2_with fail
              go_roundg (sm - (m + 1))
              case measure => have := GM.out; omega
              case rel => exact ⟨m + 1, by omega, rfl, by go_num, RQ⟩
            have hq' : (q : Int) < (um : Int) := by omega
            have hjl : j < ln.length := by rw [← LN.out.1]; exact hjt
            have hml : m < sc.length := by rw [← SN.out.1]; exact hmt
            have hql : q < us.length := by rw [← UN.out.1]; exact hqt
            obtain ⟨lp, hlp⟩ : ∃ p, p = ln[j] := ⟨_, rfl⟩
            obtain ⟨ss, hss⟩ : ∃ s, s = sc[m] := ⟨_, rfl⟩
            obtain ⟨uu, huu⟩ : ∃ u, u = us[q] := ⟨_, rfl⟩
            have x1 : ln.getD j ⟨#[]⟩ = lp := by rw [List.getD_eq_getElem?_getD, List.getElem?_eq_getElem hjl, hlp]; rfl
            have x2 : sc.getD m kSc.z = ss := by rw [List.getD_eq_getElem?_getD, List.getElem?_eq_getElem hml, hss]; rfl
            have x3 : us.getD q kAm.z = uu := by rw [List.getD_eq_getElem?_getD, List.getElem?_eq_getElem hql, huu]; rfl
            have RE := Lib.hid (RY.out lp (by rw [hlp]; exact List.getElem_mem hjl) ss (by rw [hss]; exact List.getElem_mem hml) uu (by rw [huu]; exact List.getElem_mem hql))
            clear hlp hss huu
            obtain ⟨sk, sa2⟩ := ss
            obtain ⟨un', uv⟩ := uu
            obtain ⟨gl, ol, rfl, _⟩ := (LR.out wr RQ.out).at j hjl
            obtain ⟨gs, os, rfl, _⟩ := (SR.out wr RQ.out).at m hml
            obtain ⟨gu, ou, rfl, _⟩ := (UR.out wr RQ.out).at q hql
            have LC : Hid (∀ W : World, Below z5.heap.size z5 W → W.cell? ⟨gl, ol + j, none⟩ = some (.string lp) ∧ W.cell? ⟨gs, os + m * 2, none⟩ = some (.int .i64 sk) ∧ W.cell? ⟨gs, os + m * 2 + 1, none⟩ = some (.int .i64 sa2) ∧ W.cell? ⟨gu, ou + q * 2, none⟩ = some (.string un') ∧ W.cell? ⟨gu, ou + q * 2 + 1, none⟩ = some (.int .i64 uv)) := Lib.hid fun W h => by
              obtain ⟨b1, o1, e1, p1⟩ := (LR.out W h).at j hjl
              obtain ⟨b2, o2, e2, p2⟩ := (SR.out W h).at m hml
              obtain ⟨b3, o3, e3, p3⟩ := (UR.out W h).at q hql
              simp only [Option.some.injEq, Addr.mk.injEq, and_true] at e1 e2 e3
              obtain ⟨rfl, rfl⟩ := e1
              obtain ⟨rfl, rfl⟩ := e2
              obtain ⟨rfl, rfl⟩ := e3
              rw [x1] at p1
              rw [x2] at p2
              rw [x3] at p3
              exact ⟨p1, p2 0 _ rfl, p2 1 _ rfl, p3 0 _ rfl, p3 1 _ rfl⟩
            clear x1 x2 x3
            go_upto_region 23 with fail
            go_cut [174] (fun s174 wx => s174 = .bool false ∧ Hid (Below z5.heap.size z5 wx))
            case first =>
              by_cases h0 : 0 < uv
              case neg =>
                have q1 : decide (0 < uv) = false := decide_eq_false h0
                obtain ⟨c0, c1, c2, c3, c4⟩ := LC.out wr RQ.out
                clear h0
                go_quiet (fail)
                go_wp2_with fail
                go_meet
                exact ⟨rfl, Lib.hid (RQ.out.trans ((below_drawn wr _).mono RQ.out.size))⟩
              have q1 : decide (0 < uv) = true := decide_eq_true h0
              have ROW : Hid (∀ W : World, Below z5.heap.size z5 W → Calls Tryz.prog 47 #[.slice va ns vc, .string lp, .agg #[.int .i64 sk, .int .i64 sa2], .string un'] W fun e w' => e = .returned (.bool true) ∧ Below W.heap.size W w') := Lib.hid fun W h => row_find lp un' sk sa2 va ns vc S W (RU.out W (BB.out W h)) NS.out.1 (RE.out h0)
              clear h0
              have D7 : Hid (Below z5.heap.size z5 wr.drew) := Lib.hid (RQ.out.trans ((DR.out wr).mono RQ.out.size))
              obtain ⟨c0, c1, c2, c3, c4⟩ := LC.out wr.drew D7.out
              go_region_held3 (fun W : World => W.cell? ⟨gl, ol + j, none⟩ = some (.string lp) ∧ W.cell? ⟨gs, os + m * 2, none⟩ = some (.int .i64 sk) ∧ W.cell? ⟨gs, os + m * 2 + 1, none⟩ = some (.int .i64 sa2) ∧ W.cell? ⟨gu, ou + q * 2, none⟩ = some (.string un') ∧ W.cell? ⟨gu, ou + q * 2 + 1, none⟩ = some (.int .i64 uv)) (first | exact ⟨by assumption, by assumption, by assumption, by assumption, by assumption⟩ | go_keep) (first
                | (go_at_call 47
                   refine (ROW.out _ D7.out).mono ?_
                   rintro e y1 ⟨rfl, h1⟩
                   have F1 : Hid (Below z5.heap.size z5 y1) := Lib.hid (D7.out.trans (h1.mono D7.out.size))
                   obtain ⟨d0, d1, d2, d3, d4⟩ := LC.out y1 F1.out
                   clear h1))
              go_wp2_with fail
              go_meet
              exact ⟨rfl, F1⟩
            obtain ⟨rfl, F7⟩ := hcut
            go_wp2_with fail
            go_roundg (um - (q + 1))
            case measure => have := GQ.out; omega
            case rel => exact ⟨q + 1, by omega, rfl, by go_num, F7⟩
  have M2 := hcut
  clear hcut RX M1 RU
  obtain ⟨nu, hnu⟩ : ∃ c, c = undC ⟨#[47, 97]⟩ hs := ⟨_, rfl⟩
  have NU : Hid (nu = undC ⟨#[47, 97]⟩ hs) := Lib.hid hnu
  clear hnu
  go_upto_block 10 with fail
  go_cut [16] (fun s16 wx => s16 = .int .i64 nu ∧ Hid (Below w2.heap.size w2 wx))
  case first => as_aux_lemma =>
    go_wp2_with fail
    go_loopg [16, 17] nh (fun gk s16 s17 wr => ∃ (k : Nat), k ≤ nh ∧ gk = nh - k ∧ s16 = .int .i64 (undC ⟨#[47, 97]⟩ (hs.take k)) ∧ s17 = .int .i64 k ∧ Hid (Below w2.heap.size w2 wr))
    case atStart => exact ⟨0, Nat.zero_le _, rfl, rfl, rfl, M2⟩
    case round =>
      obtain ⟨k, hk, hg, rfl, rfl, R⟩ := hrel
      have GK : Hid (gk = nh - k) := Lib.hid hg
      clear hg M2
      by_cases hkt : k < nh
      case neg =>
        have hk' : ¬ (k : Int) < (nh : Int) := by omega
        obtain ⟨k0, k1⟩ := CF.out _ (B0.out _ R.out)
        have e : undC ⟨#[47, 97]⟩ (hs.take k) = nu := by rw [NU.out, List.take_of_length_le (by rw [HS.out.2.2.1]; omega)]
        have FI := Lib.hid e
        clear e
        go_wp2_with fail
        go_meet
        rw [FI.out]
        exact ⟨rfl, R⟩
      have hk' : (k : Int) < (nh : Int) := by omega
      have hkl : k < rs.length := by rw [← HS.out.2.1]; exact hkt
      have hks : k < hs.length := by rw [HS.out.2.2.1]; exact hkt
      obtain ⟨ge, oe, rfl, _⟩ := (HL.out wr (B0.out wr R.out)).2.2.2.at k hkl
      obtain ⟨y, hy⟩ : ∃ y, y = rs[k] := ⟨_, rfl⟩
      have YM : Hid (y ∈ rs ∧ rs.getD k kOb.z = y ∧ hs[k] = y.1) := Lib.hid ⟨by rw [hy]; exact List.getElem_mem hkl, by rw [List.getD_eq_getElem?_getD, List.getElem?_eq_getElem hkl, hy]; rfl, by rw [hy]; simp [HS.out.1]⟩
      clear hy
      obtain ⟨⟨yp, yn, yls, ypr, ydl, yps, yvr⟩, ⟨ya, yl, yc⟩, ⟨yd, ye, yf⟩⟩ := y
      have EC : Hid (∀ W : World, Below w2.heap.size w2 W → W.cell? ⟨ge, oe + k * 7, none⟩ = some (.string yp) ∧ W.cell? ⟨ge, oe + k * 7 + 1, none⟩ = some (.string yn) ∧ W.cell? ⟨ge, oe + k * 7 + 2, none⟩ = some (.slice ya yl yc) ∧ W.cell? ⟨ge, oe + k * 7 + 3, none⟩ = some (.int .i64 ypr) ∧ W.cell? ⟨ge, oe + k * 7 + 4, none⟩ = some (.int .i64 ydl) ∧ W.cell? ⟨ge, oe + k * 7 + 5, none⟩ = some (.slice yd ye yf) ∧ W.cell? ⟨ge, oe + k * 7 + 6, none⟩ = some (.int .i64 yvr)) := Lib.hid fun W h => by
        obtain ⟨b', off', e', pc⟩ := (HL.out W (B0.out W h)).2.2.2.at k hkl
        simp only [Option.some.injEq, Addr.mk.injEq, and_true] at e'
        obtain ⟨rfl, rfl⟩ := e'
        rw [YM.out.2.1] at pc
        exact ⟨pc 0 _ rfl, pc 1 _ rfl, pc 2 _ rfl, pc 3 _ rfl, pc 4 _ rfl, pc 5 _ rfl, pc 6 _ rfl⟩
      obtain ⟨ho, hho⟩ : ∃ o : Ob, o = ⟨yp, yn, yls, ypr, ydl, yps, yvr⟩ := ⟨_, rfl⟩
      have HE : Hid (ho = ⟨yp, yn, yls, ypr, ydl, yps, yvr⟩) := Lib.hid hho
      have YH2 : Hid (hs[k] = ho) := Lib.hid (by rw [YM.out.2.2, hho])
      have YH : Hid (ho ∈ hs) := Lib.hid (by rw [← YH2.out]; exact List.getElem_mem hks)
      have YZ : Hid (Ozz ho) := Lib.hid (by rw [hho]; exact RZ.out _ YM.out.1)
      have UE0 : Hid (usesE ho.ps = 0) := Lib.hid (by
        have q := REP.out.2.e ho YH.out
        unfold shE at q
        split at q
        · exact absurd q (by decide)
        · exact q)
      have SE0 : Hid (L.splitE yp = 0) := Lib.hid (by
        have q := REP.out.2.e ho YH.out
        unfold shE at q
        split at q
        · exact absurd q (by decide)
        · rename_i z
          rw [hho] at z
          simpa using z)
      have OWY : Hid (∀ W : World, Below w2.heap.size w2 W → Calls Tryz.prog 10 #[.agg #[.string yp, .string yn, .slice ya yl yc, .int .i64 ypr, .int .i64 ydl, .slice yd ye yf, .int .i64 yvr]] W fun e w' => ∃ xa' xc' xb' xd', e = .returned (.agg #[.string yp, .string yn, .slice xa' yls.length xc', .int .i64 ypr, .int .i64 ydl, .slice xb' yps.length xd', .int .i64 yvr]) ∧ Hid (ObV w' (.slice xa' yls.length xc') (.slice xb' yps.length xd') ho ∧ Below W.heap.size W w')) := Lib.hid fun W h => by
        have q := own_any ⟨yp, yn, yls, ypr, ydl, yps, yvr⟩ _ _ W ((HL.out W (B0.out W h)).2.2.1 _ YM.out.1) (RZ.out _ YM.out.1).s
        refine Calls.mono q ?_
        rintro e w' ⟨xa', xc', zb', zc', rfl, h1, h2⟩
        exact ⟨xa', xc', zb', zc', rfl, Lib.hid ⟨by rw [hho]; exact h1.obv, h2⟩⟩
      obtain ⟨ub, hub⟩ : ∃ c : Bool, c = L.underB yp ⟨#[47, 97]⟩ := ⟨_, rfl⟩
      have UC := Lib.hid (L.under_any yp ⟨#[47, 97]⟩ wr (HL.out wr (B0.out wr R.out)).1)
      rw [← hub] at UC
      have SU := Lib.hid (undC_step hks ⟨#[47, 97]⟩)
      rw [YH2.out, hho] at SU
      simp only at SU
      rw [← hub] at SU
      obtain ⟨A, hA⟩ : ∃ A, A = undC ⟨#[47, 97]⟩ (hs.take k) := ⟨_, rfl⟩
      rw [← hA] at SU ⊢
      have AB : Hid (0 ≤ A ∧ A ≤ 40) := Lib.hid (by
        have q := undC_le ⟨#[47, 97]⟩ (hs.take k)
        have q2 : (hs.take k).length ≤ k := by rw [List.length_take]; omega
        rw [hA]
        omega)
      clear hA hub hho
      obtain ⟨k0, k1⟩ := CF.out _ (B0.out _ R.out)
      obtain ⟨e0, e1, e2, e3, e4, e5, e6⟩ := EC.out _ R.out
      go_wp2_with fail
      refine UC.out.mono ?_
      rintro e y1 ⟨rfl, h1⟩
      have E1 : Hid (Below w2.heap.size w2 y1) := Lib.hid (R.out.trans (h1.mono R.out.size))
      clear h1 UC k0 k1 e0 e1 e2 e3 e4 e5 e6
      cases ub with
      | false =>
        have NX : Hid (undC ⟨#[47, 97]⟩ (hs.take (k + 1)) = A) := Lib.hid (by rw [SU.out]; simp)
        go_wp2_with fail
        go_roundg (nh - (k + 1))
        case measure => have := GK.out; omega
        case rel => exact ⟨k + 1, by omega, rfl, by rw [NX.out], by go_num, E1⟩
      | true =>
        have NX : Hid (undC ⟨#[47, 97]⟩ (hs.take (k + 1)) = A + 1) := Lib.hid (by rw [SU.out]; simp)
        have wv : IntKind.i64.wrap (A + 1) = A + 1 := by
          rw [IntKind.wrap_i64]
          have := AB.out
          omega
        have wv2 : wrap64 (A + 1) = A + 1 := by unfold wrap64; rw [IntKind.wrap_i64] at wv; exact wv
        go_wp2_with fail
        go_roundg (nh - (k + 1))
        case measure => have := GK.out; omega
        case rel => exact ⟨k + 1, by omega, rfl, by rw [NX.out], by go_num, E1⟩
  obtain ⟨rfl, M3⟩ := hcut
  have CR : Hid (∀ W : World, Below w2.heap.size w2 W → Calls Tryz.prog 19 #[.pointer (some ⟨t, 0, none⟩), .string ⟨#[47]⟩] W fun e w' => e = .returned (.int .i64 (nh : Int)) ∧ Below W.heap.size W w') := Lib.hid fun W h => by
    have q := count_any ⟨#[47]⟩ (LD.out W (B0.out W h)) REP.out.1 (by decide)
    rw [root_tot (fun o ho => ⟨REP.out.2.z o ho, REP.out.2.e o ho⟩), HS.out.2.2.1, Int.mul_ediv_cancel_left _ (by decide)] at q
    exact q
  have CA : Hid (∀ W : World, Below w2.heap.size w2 W → Calls Tryz.prog 19 #[.pointer (some ⟨t, 0, none⟩), .string ⟨#[47, 97]⟩] W fun e w' => e = .returned (.int .i64 nu) ∧ Below W.heap.size W w') := Lib.hid fun W h => by
    have q := count_any ⟨#[47, 97]⟩ (LD.out W (B0.out W h)) REP.out.1 (by decide)
    rw [und_tot _ (fun o ho => ⟨REP.out.2.z o ho, REP.out.2.e o ho⟩), ← NU.out, Int.mul_ediv_cancel_left _ (by decide)] at q
    exact q
  have q1 : ((nh : Int) == (nh : Int)) = true := beq_self_eq_true _
  have q2 : (nu == nu) = true := beq_self_eq_true _
  have D5 : Hid (Below w2.heap.size w2 wc.drew) := Lib.hid (M3.out.trans ((DR.out wc).mono M3.out.size))
  go_upto_region 31 with fail
  obtain ⟨k0, k1⟩ := CF.out _ (B0.out _ D5.out)
  have X1 : True := trivial
  have X2 : True := trivial
  go_region_held3 (fun W : World => W.cell? ⟨bb, 0, none⟩ = some (.pointer (some ⟨t, 0, none⟩)) ∧ W.cell? ⟨bb, 1, none⟩ = some (.slice hva nh hvc)) (first | exact ⟨by assumption, by assumption⟩ | go_keep) (first
    | (go_at_call 19
       clear X1
       refine (CR.out _ D5.out).mono ?_
       rintro e y1 ⟨rfl, h1⟩
       have E1 : Hid (Below w2.heap.size w2 y1) := Lib.hid (D5.out.trans (h1.mono D5.out.size))
       obtain ⟨ka0, ka1⟩ := CF.out _ (B0.out _ E1.out)
       clear h1)
    | (go_at_call 19
       clear X2
       refine (CA.out _ E1.out).mono ?_
       rintro e y2 ⟨rfl, h2⟩
       have E2 : Hid (Below w2.heap.size w2 y2) := Lib.hid (E1.out.trans (h2.mono E1.out.size))
       obtain ⟨kb0, kb1⟩ := CF.out _ (B0.out _ E2.out)
       clear h2))
  go_wp2_with fail
  go_ret
  exact ⟨rfl, B0.out _ E2.out⟩
end Le
end Go.Proofs.YtodfmnbfbndkhaaGreatDoor
end S4

section S5
namespace Go.Proofs.YtodfmnbfbndkhaaGreatDoor
open Go.RowKit Go.Sort
namespace Le
theorem Ob1.agrees {w0 W : World} {bb t b N : Nat} (h : Ob1 w0 bb t b N W) (hN : N ≤ 1500000000000) :
    Calls Tryz.prog 22 #[.pointer (some ⟨bb, 0, none⟩)] W fun e W' => e = .returned (.bool true) ∧ Ob1 w0 bb t b N W' := by
  obtain ⟨n, D, hv, rs, h1, h2⟩ := h
  refine (agrees_any h1 (by omega)).mono ?_
  rintro e W' ⟨rfl, hb⟩
  exact ⟨rfl, n, D, hv, rs, h1.below hb, h2⟩
set_option maxHeartbeats 16000000 in
set_option maxRecDepth 100000 in
theorem sums_walk (v : Value) (l : List OpL) (w : World) (G : Gl w) (HO : OpsAt w v l) (HZ : OzO l) :
    Calls Tryz.prog 6 #[v] w fun e w' => e = .returned (.bool true) ∧ Below w.heap.size w w' := by
  have GG := Lib.hid G
  have OB := Lib.hid HO
  have OZ := Lib.hid HZ
  obtain ⟨sa, sc, rfl, hls, hcs⟩ := HO.r.len
  obtain ⟨m, hm⟩ : ∃ m, m = l.length := ⟨_, rfl⟩
  have M := Lib.hid hm
  rw [← hm] at OB hls ⊢
  have ML : Hid (m ≤ maxLen) := Lib.hid (Nat.le_trans hls hcs)
  have LA := Lib.hid (lives_any w G)
  clear G HO HZ hm hls hcs
  go_enter Tryz.func6, Tryz.ntmps6
  go_wp2_with fail
  refine LA.out.mono ?_
  rintro e w1 ⟨t, b, n0, D0, rfl, A1, A1n⟩
  obtain ⟨bb, hbb⟩ : ∃ c, c = w1.heap.size := ⟨_, rfl⟩
  obtain ⟨Y1, hY1⟩ : ∃ Y, Y = w1.alloc (.cells #[.pointer (some ⟨t, 0, none⟩), .slice none 0 0] 48) := ⟨_, rfl⟩
  have T1 : Hid (Ob1 w bb t b 48 Y1 ∧ Y1.cell? ⟨bb, 0, none⟩ = some (.pointer (some ⟨t, 0, none⟩))) := Lib.hid (by
    have b1 : Below w1.heap.size w1 Y1 := by rw [hY1]; exact (Below.refl _ _).alloc (Nat.le_refl _) _
    have k : Bk w bb t b n0 D0 (.slice none 0 0) [] Y1 := ⟨⟨A1.below b1, by rw [hY1, hbb]; exact heap_alloc_new _ _, LsAt.nil, by rw [hbb]; exact A1.bel.size, GG.out⟩, Hs.nil, fun x hx => by simp at hx, by simp⟩
    exact ⟨⟨_, _, _, _, k, A1n⟩, k.m.c0⟩)
  have hY1' := hY1.symm
  have hbb' := hbb.symm
  clear hY1 hbb A1 A1n LA
  have d1 := T1.out.2
  go_upto_block 0 with fail
  clear hY1' hbb' d1
  go_wp2_with fail
  go_loopg [4] m (fun gk s4 wr => ∃ (k : Nat), k ≤ m ∧ gk = m - k ∧ s4 = .int .i64 k ∧ k ≤ 30 ∧ Hid (∃ N, Ob1 w bb t b N wr ∧ N ≤ 48 + k * 432000000))
  case atStart => exact ⟨0, Nat.zero_le _, rfl, rfl, by omega, Lib.hid ⟨48, T1.out.1, by omega⟩⟩
  case round =>
    obtain ⟨k, hk, hg, rfl, hk30, R⟩ := hrel
    have GK : Hid (gk = m - k) := Lib.hid hg
    clear hg T1
    by_cases hgo : k < m ∧ k < 30
    case pos =>
      have h1 : decide ((k : Int) < (m : Int)) = true := decide_eq_true (by omega)
      have h2 : decide ((k : Int) < 30) = true := decide_eq_true (by omega)
      have h3 : (k : Int) < (m : Int) := by omega
      have hkl : k < l.length := by rw [← M.out]; exact hgo.1
      obtain ⟨N, RT, RN⟩ := R.out
      obtain ⟨gb, off, rfl, pcs⟩ := OB.out.r.at k hkl
      obtain ⟨x, hx⟩ : ∃ x, x = l[k] := ⟨_, rfl⟩
      have ex : l.getD k kOpL.z = x := by rw [List.getD_eq_getElem?_getD, List.getElem?_eq_getElem hkl, hx]; rfl
      rw [ex] at pcs
      have XM : x ∈ l := by rw [hx]; exact List.getElem_mem hkl
      have PC : Hid (wr.rangeAt gb (off + k * 19) (OpL.c x)) := Lib.hid fun j y hy => (RT.bel.cell (block_lt_of_cell (pcs j y hy))).trans (pcs j y hy)
      have ST := Lib.hid (RT.step x ((OB.out.o x XM).below RT.bel) (OZ.out.o x XM) (by omega))
      have NK : Hid (N ≤ 48 + k * 432000000 ∧ N + 432000000 ≤ 1500000000000) := Lib.hid ⟨RN, by omega⟩
      clear pcs R RT RN hx ex XM
      go_wp2_with (refine wpList_load_mid rfl 51 (.tmp 27) rfl gb (off + k * 19) rfl (OpL.c x) _ PC.out Tryz.underlying51 rfl size_op1 ?_)
      refine ST.out.mono ?_
      rintro e w4 ⟨rfl, h4⟩
      have T4 := Lib.hid h4
      have AG := Lib.hid (h4.agrees NK.out.2)
      clear h4 ST PC
      go_wp2_with fail
      refine AG.out.mono ?_
      rintro e w5 ⟨rfl, h5⟩
      have T5 := Lib.hid h5
      clear h5 AG
      go_wp2_with fail
      go_roundg (m - (k + 1))
      case measure => have := GK.out; omega
      case rel => exact ⟨k + 1, by omega, rfl, by go_num, by omega, Lib.hid ⟨_, T5.out, by have := NK.out.1; omega⟩⟩
    case neg =>
      obtain ⟨N, RT, RN⟩ := R.out
      have FI : Hid (Below w.heap.size w wr) := Lib.hid RT.bel
      clear RT RN R
      by_cases hkm : k < m
      · have h1 : decide ((k : Int) < (m : Int)) = true := decide_eq_true (by omega)
        have h2 : decide ((k : Int) < 30) = false := decide_eq_false (by omega)
        go_wp2_with fail
        go_ret
        exact ⟨rfl, FI.out⟩
      · have h1 : decide ((k : Int) < (m : Int)) = false := decide_eq_false (by omega)
        go_wp2_with fail
        go_ret
        exact ⟨rfl, FI.out⟩
end Le
theorem ledgerSums_walk (v : Value) (l : List Le.OpL) (w : World) (G : Le.Gl w) (b0 : Le.OpsAt w v l) (s0 : Le.OzO l) :
    Calls Tryz.prog 6 #[v] w fun e w' => e = .returned (.bool true) ∧ Below w.heap.size w w' := Le.sums_walk v l w G b0 s0
end Go.Proofs.YtodfmnbfbndkhaaGreatDoor
end S5
