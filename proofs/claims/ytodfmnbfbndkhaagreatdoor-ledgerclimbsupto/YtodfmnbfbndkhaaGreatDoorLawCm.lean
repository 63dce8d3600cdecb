/-
  LeUn, LeCl, LawClimbs, joined.
-/
import Derived.Test.YtodfmnbfbndkhaaGreatDoorLeStp
import Derived.Lib.QuietBelow
section S0
namespace Go.Proofs.YtodfmnbfbndkhaaGreatDoor
open Go.RowKit Go.Sort
namespace Le
variable {w0 w w1 W W' : World} {bb t b n cc t' b' n' : Nat} {D D' : DataW Unit} {f g : Ky → Int} {hv hu : Value} {rs rc : List Rb}
theorem own_kept {α : Type} {K : Kd α} {B : Nat} {F : Nat → Prop} {v : Value} {l : List α} (H : OwnR K B W v l) (hk : Kept F W W') (hf : ∀ y, v.ownBlock = some y → ¬ F y) : OwnR K B W' v l := by
  obtain ⟨h1, h | ⟨g, cap, cur, hv, hB, hg, hr⟩⟩ := H
  · exact ⟨h1, .inl h⟩
  · subst hv
    exact ⟨h1, .inr ⟨g, cap, cur, rfl, hB, (hk.block g (lt_of_some hg) (hf g rfl)).trans hg, hr⟩⟩
theorem Bm.fr_ty (h : Bm w0 bb t b n D f hv rs W) {y : Nat} {cs : Array Value} {ty : TypeId} (hy : W.heap[y]? = some (.cells cs ty (0, 0))) (h1 : ty ≠ 48) (h2 : ty ≠ 25) : ¬ Fr b bb hv y := by
  rintro (e | e | e)
  · obtain ⟨es, c, q, _⟩ := h.lv.ld.m
    rw [e, q] at hy
    simp at hy
  · rw [e, h.bx] at hy
    simp only [Option.some.injEq, Obj.cells.injEq] at hy
    exact h1 hy.2.1.symm
  · obtain ⟨cs', m', q⟩ := h.ls.r.ty y e.symm
    rw [q] at hy
    simp only [Option.some.injEq, Obj.cells.injEq] at hy
    exact h2 hy.2.1.symm
theorem own_frk {α : Type} {K : Kd α} {B : Nat} {v : Value} {l : List α} (H : OwnR K B W v l) (h : Bm w0 bb t b n D f hv rs W) (hk : Kept (Fr b bb hv) W W') (h1 : K.t ≠ 48) (h2 : K.t ≠ 25) : OwnR K B W' v l :=
  own_kept H hk (fun y e => by
    obtain ⟨h1', h0 | ⟨g, cap, cur, hv', hB, hg, hr⟩⟩ := H
    · rw [h0.1] at e; exact absurd e (by simp [Value.ownBlock])
    · subst hv'
      have : g = y := Option.some.inj e
      subst this
      exact h.fr_ty hg h1 h2)
/-- What a step on the one book leaves of the other. -/
theorem Bm.other (h : Bm w0 cc t' b' n' D' g hu rc W) (k : Bm w0 bb t b n D f hv rs W) (hk : Kept (Fr b bb hv) W W') (hb : Below w0.heap.size w0 W') (nb : b' ≠ b) (nc : cc ≠ bb) (na : ∀ y, hu.ownBlock = some y → hv.ownBlock ≠ some y) : Bm w0 cc t' b' n' D' g hu rc W' := by
  have nt : ¬ Fr b bb hv t' := k.fr_ty h.lv.ld.t (by decide) (by decide)
  have nm : ¬ Fr b bb hv b' := by
    rintro (e | e | e)
    · exact nb e
    · obtain ⟨es, c, q, _⟩ := h.lv.ld.m
      rw [e, k.bx] at q
      simp at q
    · obtain ⟨es, c, q, _⟩ := h.lv.ld.m
      obtain ⟨cs', m', q'⟩ := k.ls.r.ty b' e.symm
      rw [q] at q'
      simp at q'
  have nx : ¬ Fr b bb hv cc := by
    rintro (e | e | e)
    · obtain ⟨es, c, q, _⟩ := k.lv.ld.m
      have := h.bx
      rw [e, q] at this
      simp at this
    · exact nc e
    · obtain ⟨cs', m', q'⟩ := k.ls.r.ty cc e.symm
      have := h.bx
      rw [q'] at this
      simp [kOb] at this
  refine ⟨⟨h.lv.ld.kept hk nt nm, h.lv.rep, h.lv.vf, hb, h.lv.t0, h.lv.b0, h.gl.below hb⟩, (hk.block cc (lt_of_some h.bx) nx).trans h.bx, ⟨?_, fun x hx => ?_⟩, h.bb0, h.gl⟩
  · refine own_kept h.ls.r hk (fun y e => ?_)
    rintro (q | q | q)
    · obtain ⟨es, c, r, _⟩ := k.lv.ld.m
      obtain ⟨cs', m', r'⟩ := h.ls.r.ty y e
      rw [q, r] at r'
      simp at r'
    · obtain ⟨cs', m', r'⟩ := h.ls.r.ty y e
      rw [q, k.bx] at r'
      simp [kOb] at r'
    · exact na y e q.symm
  · obtain ⟨h1, rs', h2, h3⟩ := h.ls.o x hx
    exact ⟨own_frk h1 k hk (by decide) (by decide), rs', own_frk h2 k hk (by decide) (by decide), h3.1, fun i hi => ⟨(h3.2 i hi).1, own_frk (h3.2 i hi).2.1 k hk (by decide) (by decide), own_frk (h3.2 i hi).2.2 k hk (by decide) (by decide)⟩⟩
theorem Bk.other (h : Bk w0 cc t' b' n' D' hu rc W) (k : Bk w0 bb t b n D hv rs W) (hk : Kept (Fr b bb hv) W W') (hb : Below w0.heap.size w0 W') (nb : b' ≠ b) (nc : cc ≠ bb) (na : ∀ y, hu.ownBlock = some y → hv.ownBlock ≠ some y) : Bk w0 cc t' b' n' D' hu rc W' :=
  ⟨h.m.other k.m hk hb nb nc na, h.hs, h.oz, h.len⟩
/-- Two books beside each other. -/
def Tb (w0 : World) (bb t b cc t' b' : Nat) (hs hc : List Ob) (N : Nat) (W : World) : Prop :=
  ∃ n D hv rs n' D' hu rc, Bk w0 bb t b n D hv rs W ∧ Bk w0 cc t' b' n' D' hu rc W ∧ rs.map (·.1) = hs ∧ rc.map (·.1) = hc ∧ n ≤ N ∧ n' ≤ N ∧ b' ≠ b ∧ cc ≠ bb ∧ (∀ y, hu.ownBlock = some y → hv.ownBlock ≠ some y)
theorem Tb.below {hs hc : List Ob} {N : Nat} (h : Tb w0 bb t b cc t' b' hs hc N W) (hb : Below W.heap.size W W') : Tb w0 bb t b cc t' b' hs hc N W' := by
  obtain ⟨n, D, hv, rs, n', D', hu, rc, h1, h2, h3⟩ := h
  exact ⟨n, D, hv, rs, n', D', hu, rc, h1.below hb, h2.below hb, h3⟩
theorem Tb.bel {hs hc : List Ob} {N : Nat} (h : Tb w0 bb t b cc t' b' hs hc N W) : Below w0.heap.size w0 W := by
  obtain ⟨n, D, hv, rs, n', D', hu, rc, h1, _⟩ := h
  exact h1.m.lv.bel
theorem Bm.own_lt (h : Bm w0 bb t b n D f hv rs W) {y : Nat} (e : hv.ownBlock = some y) : y < W.heap.size := by
  obtain ⟨cs, m, q⟩ := h.ls.r.ty y e
  exact lt_of_some q
theorem Tb.flip {hs hc : List Ob} {N : Nat} (h : Tb w0 bb t b cc t' b' hs hc N W) : Tb w0 cc t' b' bb t b hc hs N W := by
  obtain ⟨n, D, hv, rs, n', D', hu, rc, h1, h2, h3, h4, h5, h6, h7, h8, h9⟩ := h
  exact ⟨n', D', hu, rc, n, D, hv, rs, h2, h1, h4, h3, h6, h5, h7.symm, h8.symm, fun y e q => h9 y q e⟩
/-- A step on the first of two books. -/
theorem Tb.step {hs hc : List Ob} {N : Nat} (h : Tb w0 bb t b cc t' b' hs hc N W) (x : OpL) (ho : ObV W x.o.2.1.v x.o.2.2.v x.o.1) (hz : Ozz x.o.1) (hN : N ≤ 1500000000000) :
    Calls Tryz.prog 15 #[.pointer (some ⟨bb, 0, none⟩), .agg (OpL.c x).toArray] W fun e W' => e = .returned (.bool true) ∧ Tb w0 bb t b cc t' b' (stp hs x.k x.o.1) hc (N + 432000000) W' := by
  obtain ⟨n, D, hv, rs, n', D', hu, rc, h1, h2, rfl, h4, h5, h6, h7, h8, h9⟩ := h
  obtain ⟨a, c, rfl, _, _⟩ := (h1.m.ls.r.row okOb).len
  obtain ⟨two, kind, ⟨⟨op, on, ols, opr, odl, ops, over⟩, ⟨la, ln, lc⟩, ⟨pa, pn, pc⟩⟩, ⟨⟨zp, zn, zls, zpr, zdl, zps, zv⟩, ⟨za, zb, zc⟩, ⟨zd, ze, zf⟩⟩, sk, sa, r⟩ := x
  refine (step_any two kind op on ols opr odl ops over la ln lc pa pn pc zp zn za zb zc zpr zdl zd ze zf zv sk sa r w0 W bb t b n D a rs.length c rs h1 ho hz (by omega)).mono ?_
  rintro e W' ⟨rfl, D3, n3, hv3, rs3, z1, z2, z3, z4, z5⟩
  refine ⟨rfl, n3, D3, hv3, rs3, n', D', hu, rc, z1, h2.other h1 z4 z1.m.lv.bel h7 h8 h9, z2, h4, by omega, by omega, h7, h8, fun y e q => ?_⟩
  rcases z5 y q with k | k
  · exact h9 y e k
  · have := h2.m.own_lt e
    omega
/-- The rows of sums. -/
def SF (f : Ky → Int) (S : List Ur) : Prop := ∃ D, Li D S ∧ Rep D f
theorem SF.one {S S' : List Ur} (h : SF f S) (h' : SF f S') : S = S' := by
  obtain ⟨D, h1, h2⟩ := h
  obtain ⟨D', h3, h4⟩ := h'
  exact rows_eq h1 h3 h2 h4
/-- Two ledgers apart, behind the world w1; the rows that were told. -/
structure Uu (w0 w1 : World) (t b t' b' : Nat) (f g : Ky → Int) (N : Nat) (L : List (Value × List Ur)) (W : World) : Prop where
  l : ∃ n D, Lv w0 W t b n D f ∧ n ≤ N
  r : ∃ n D, Lv w0 W t' b' n D g ∧ n ≤ N
  ne : b ≠ b'
  kq : Kq w1 W
  rows : ∀ p ∈ L, Row kUse W p.1 p.2
variable {N : Nat} {L : List (Value × List Ur)}
theorem Uu.below (h : Uu w0 w1 t b t' b' f g N L W) (hb : Below W.heap.size W W') : Uu w0 w1 t b t' b' f g N L W' := by
  obtain ⟨⟨n, D, h1, h2⟩, ⟨n', D', h3, h4⟩, h5, h6, h7⟩ := h
  exact ⟨⟨n, D, h1.below hb, h2⟩, ⟨n', D', h3.below hb, h4⟩, h5, h6.trans (Kq.of hb), fun p hp => (h7 p hp).below hb⟩
theorem Uu.turnB (h : Uu w0 w1 t b t' b' f g N L W) {M : Nat} {f' : Ky → Int} {n : Nat} {D : DataW Unit} (hl : Lv w0 W' t b n D f') (hn : n ≤ M) (hm : N ≤ M) (hk : Kept (fun y => y = b) W W') : Uu w0 w1 t b t' b' f' g M L W' := by
  obtain ⟨⟨n1, D1, h1, h2⟩, ⟨n', D', h3, h4⟩, h5, h6, h7⟩ := h
  exact ⟨⟨n, D, hl, hn⟩, ⟨n', D', h3.other h1 hk (fun e => h5 e.symm), Nat.le_trans h4 hm⟩, h5, h6.trans (h1.kq hk), fun p hp => row_kq (h7 p hp) (h1.kq hk)⟩
theorem Uu.turnC (h : Uu w0 w1 t b t' b' f g N L W) {M : Nat} {g' : Ky → Int} {n : Nat} {D : DataW Unit} (hl : Lv w0 W' t' b' n D g') (hn : n ≤ M) (hm : N ≤ M) (hk : Kept (fun y => y = b') W W') : Uu w0 w1 t b t' b' f g' M L W' := by
  obtain ⟨⟨n1, D1, h1, h2⟩, ⟨n', D', h3, h4⟩, h5, h6, h7⟩ := h
  exact ⟨⟨n1, D1, h1.other h3 hk h5, Nat.le_trans h2 hm⟩, ⟨n, D, hl, hn⟩, h5, h6.trans (h3.kq hk), fun p hp => row_kq (h7 p hp) (h3.kq hk)⟩
theorem Uu.push (h : Uu w0 w1 t b t' b' f g N L W) {v : Value} {S : List Ur} (hr : Row kUse W v S) : Uu w0 w1 t b t' b' f g N ((v, S) :: L) W :=
  ⟨h.l, h.r, h.ne, h.kq, fun p hp => by rcases List.mem_cons.1 hp with e | e; rw [e]; exact hr; exact h.rows p e⟩
theorem rowsB (h : Uu w0 w1 t b t' b' f g N L W) (hN : N ≤ 1900000000000) : Calls Tryz.prog 12 #[.pointer (some ⟨t, 0, none⟩)] W fun e W' => ∃ v S, e = .returned v ∧ SF f S ∧ Uu w0 w1 t b t' b' f g N ((v, S) :: L) W' := by
  obtain ⟨n, D, h1, h2⟩ := h.l
  refine (rows_lv h1 (by omega)).mono ?_
  rintro e W' ⟨v, S, rfl, k1, k2, hb⟩
  exact ⟨v, S, rfl, ⟨D, k2, h1.rep⟩, (h.below hb).push k1⟩
theorem rowsC (h : Uu w0 w1 t b t' b' f g N L W) (hN : N ≤ 1900000000000) : Calls Tryz.prog 12 #[.pointer (some ⟨t', 0, none⟩)] W fun e W' => ∃ v S, e = .returned v ∧ SF g S ∧ Uu w0 w1 t b t' b' f g N ((v, S) :: L) W' := by
  obtain ⟨n, D, h1, h2⟩ := h.r
  refine (rows_lv h1 (by omega)).mono ?_
  rintro e W' ⟨v, S, rfl, k1, k2, hb⟩
  exact ⟨v, S, rfl, ⟨D, k2, h1.rep⟩, (h.below hb).push k1⟩
theorem sameU (h : Uu w0 w1 t b t' b' f g N L W) {v v' : Value} {S : List Ur} (h1 : (v, S) ∈ L) (h2 : (v', S) ∈ L) : Calls Tryz.prog 13 #[v, v'] W fun e W' => e = .returned (.bool true) ∧ Uu w0 w1 t b t' b' f g N L W' := by
  refine (sameRows_yes v v' S W (h.rows _ h1) (h.rows _ h2)).mono ?_
  rintro e W' ⟨rfl, hb⟩
  exact ⟨rfl, h.below hb⟩
variable {o p : Ob} {la pa ma qa : Option Addr} {lc pc mc qc : Nat} {ls ps : Value}
theorem chargeB (h : Uu w0 w1 t b t' b' f g N L W) (hN : N ≤ 80000000000000) (hv : ObV W ls ps o) (hz : Ozz o) : Calls Tryz.prog 11 #[.pointer (some ⟨t, 0, none⟩), o.val ls ps] W fun e W' => e = .returned (.int .i64 (mvE true f o)) ∧ Uu w0 w1 t b t' b' (mvF true f o) g (N + 144000000) L W' := by
  obtain ⟨n, D, h1, h2⟩ := h.l
  refine (charge_lvk o ls ps h1 hv hz.z hz.p (by omega)).mono ?_
  rintro e W' ⟨D', n', rfl, k2, k3, k4⟩
  exact ⟨rfl, h.turnB k2 (by have := sh_len o hz.z; omega) (by omega) k3⟩
theorem chargeC (h : Uu w0 w1 t b t' b' f g N L W) (hN : N ≤ 80000000000000) (hv : ObV W ls ps o) (hz : Ozz o) : Calls Tryz.prog 11 #[.pointer (some ⟨t', 0, none⟩), o.val ls ps] W fun e W' => e = .returned (.int .i64 (mvE true g o)) ∧ Uu w0 w1 t b t' b' f (mvF true g o) (N + 144000000) L W' := by
  obtain ⟨n, D, h1, h2⟩ := h.r
  refine (charge_lvk o ls ps h1 hv hz.z hz.p (by omega)).mono ?_
  rintro e W' ⟨D', n', rfl, k2, k3, k4⟩
  exact ⟨rfl, h.turnC k2 (by have := sh_len o hz.z; omega) (by omega) k3⟩
theorem releaseB (h : Uu w0 w1 t b t' b' f g N L W) (hN : N ≤ 80000000000000) (hv : ObV W ls ps o) (hz : Ozz o) : Calls Tryz.prog 14 #[.pointer (some ⟨t, 0, none⟩), o.val ls ps] W fun e W' => e = .returned (.int .i64 (mvE false f o)) ∧ Uu w0 w1 t b t' b' (mvF false f o) g (N + 144000000) L W' := by
  obtain ⟨n, D, h1, h2⟩ := h.l
  refine (release_lvk o ls ps h1 hv hz.z hz.p (by omega)).mono ?_
  rintro e W' ⟨D', n', rfl, k2, k3, k4⟩
  exact ⟨rfl, h.turnB k2 (by have := sh_len o hz.z; omega) (by omega) k3⟩
theorem releaseC (h : Uu w0 w1 t b t' b' f g N L W) (hN : N ≤ 80000000000000) (hv : ObV W ls ps o) (hz : Ozz o) : Calls Tryz.prog 14 #[.pointer (some ⟨t', 0, none⟩), o.val ls ps] W fun e W' => e = .returned (.int .i64 (mvE false g o)) ∧ Uu w0 w1 t b t' b' f (mvF false g o) (N + 144000000) L W' := by
  obtain ⟨n, D, h1, h2⟩ := h.r
  refine (release_lvk o ls ps h1 hv hz.z hz.p (by omega)).mono ?_
  rintro e W' ⟨D', n', rfl, k2, k3, k4⟩
  exact ⟨rfl, h.turnC k2 (by have := sh_len o hz.z; omega) (by omega) k3⟩
theorem changeB (h : Uu w0 w1 t b t' b' f g N L W) (hN : N ≤ 80000000000000) (hv : ObV W (.slice la o.ls.length lc) (.slice pa o.ps.length pc) o) (hv2 : ObV W (.slice ma p.ls.length mc) (.slice qa p.ps.length qc) p) (hz : Ozz o) (hz2 : Ozz p) :
    Calls Tryz.prog 16 #[.pointer (some ⟨t, 0, none⟩), o.val (.slice la o.ls.length lc) (.slice pa o.ps.length pc), p.val (.slice ma p.ls.length mc) (.slice qa p.ps.length qc)] W fun e W' => e = .returned (.int .i64 (chE f o p)) ∧ Uu w0 w1 t b t' b' (chG f o p) g (N + 432000000) L W' := by
  obtain ⟨n, D, h1, h2⟩ := h.l
  refine (change_lvk o p la lc pa pc ma mc qa qc h1 hv hv2 hz.z hz.p hz2.z hz2.p (by omega)).mono ?_
  rintro e W' ⟨D', n', rfl, k2, k3, k4⟩
  exact ⟨rfl, h.turnB k2 (by omega) (by omega) k3⟩
end Le
end Go.Proofs.YtodfmnbfbndkhaaGreatDoor
end S0

section S1
namespace Go.Proofs.YtodfmnbfbndkhaaGreatDoor
open Go.RowKit Go.Sort
namespace Le
variable {D : DataW Unit} {S : List Ur} {hs : List Ob} {x : Ky}
theorem tot_ne : ∀ {hs : List Ob}, tot hs x ≠ 0 → ∃ o ∈ hs, shv (shR o) x ≠ 0
  | [], h => absurd rfl h
  | o :: r, h => by
    by_cases h1 : shv (shR o) x = 0
    · rw [tot, h1, Int.zero_add] at h
      obtain ⟨y, hy, k⟩ := tot_ne h
      exact ⟨y, by simp [hy], k⟩
    · exact ⟨o, by simp, h1⟩
/-- A row of the sums. -/
structure Rok (hs : List Ob) (u : Ur) : Prop where
  e : tot hs u.1.x = u.1.v
  p : 0 < u.1.v
  m : u.1.v ≤ MX
  f : u.1.x.Fit
  s : ∃ ts, L.splitO u.1.x.p = some ts
theorem row_ok (H : Li D S) (R : Rep D (tot hs)) {u : Ur} (hu : u ∈ S) : Rok hs u := by
  have h1 := (li_mem H R u).1 hu
  have h2 := R.rng u.1.x
  have h3 := ((H.m u.1).1 ⟨u, hu, rfl⟩).2
  refine ⟨h1.1, ?_, ?_, h3, ?_⟩
  · have := h1.1; have := h1.2; omega
  · have := h1.1; omega
  · obtain ⟨o, ho, hne⟩ := tot_ne (by rw [h1.1]; exact h1.2)
    obtain ⟨ts, hs', k, hk, e⟩ := mem_line.1 (shv_at hne)
    obtain ⟨rfl', hg⟩ := L.splitO_some hs'
    exact ⟨ts.take k, by rw [e]; exact L.splitO_good (hg.take k)⟩
theorem par_size {p q : ByteArray} (h : parO p = some q) : q.size ≤ 64 := by
  cases hs : L.splitO p with
  | none => unfold parO at h; rw [hs] at h; exact absurd h (by simp)
  | some ts =>
    have hm : p ∈ lineP p := mem_line.2 ⟨ts, hs, ts.length, Nat.le_refl _, by rw [List.take_length]; exact (L.splitO_some hs).1⟩
    exact (lineP_size p).2 q (up_line h hm)
open Classical in
theorem rsum_step {j : Nat} (h : j < S.length) (x : Ky) : rsum (S.take (j + 1)) x = rsum (S.take j) x + if Cnd S[j] x then (S[j]).1.v else 0 := by
  rw [List.take_add_one, List.getElem?_eq_getElem h, rsum_app]
  simp [rsum]
theorem msum_step {hs : List Ob} {j : Nat} (h : j < hs.length) (x : Ky) : msum (hs.take (j + 1)) x = msum (hs.take j) x + mine hs[j] x := by
  rw [List.take_add_one, List.getElem?_eq_getElem h, msum_app]
  simp [msum]
/-- What the loops' sums come to. -/
structure Clm (S : List Ur) (hs : List Ob) (x : Ky) : Prop where
  t : rsum S x + msum hs x = tot hs x
  m : tot hs x ≤ MX
  r : ∀ i, 0 ≤ rsum (S.take i) x ∧ rsum (S.take i) x ≤ rsum S x
  h : ∀ i, 0 ≤ msum (hs.take i) x ∧ msum (hs.take i) x ≤ msum hs x
  n : 0 ≤ rsum S x ∧ 0 ≤ msum hs x
theorem clm_of (H : Li D S) (R : Rep D (tot hs)) (P : Hs hs) (x : Ky) : Clm S hs x := by
  have hp : ∀ u ∈ S, 0 ≤ u.1.v := fun u hu => Int.le_of_lt (row_ok H R hu).p
  exact ⟨(climb H R P).symm, (R.rng x).2, fun i => ⟨rsum_nn (fun u hu => hp u (List.mem_of_mem_take hu)), rsum_take hp x i⟩, fun i => ⟨msum_nn (fun o ho => P.z o (List.mem_of_mem_take ho)), msum_take P.z x i⟩, rsum_nn hp, msum_nn P.z⟩
/-- One book, of at most N entries. -/
def Ob1 (w0 : World) (bb t b N : Nat) (W : World) : Prop := ∃ n D hv rs, Bk w0 bb t b n D hv rs W ∧ n ≤ N
theorem Ob1.bel {w0 W : World} {bb t b N : Nat} (h : Ob1 w0 bb t b N W) : Below w0.heap.size w0 W := by
  obtain ⟨n, D, hv, rs, h1, _⟩ := h
  exact h1.m.lv.bel
theorem Ob1.step {w0 W : World} {bb t b N : Nat} (h : Ob1 w0 bb t b N W) (x : OpL) (ho : ObV W x.o.2.1.v x.o.2.2.v x.o.1) (hz : Ozz x.o.1) (hN : N ≤ 1500000000000) :
    Calls Tryz.prog 15 #[.pointer (some ⟨bb, 0, none⟩), .agg (OpL.c x).toArray] W fun e W' => e = .returned (.bool true) ∧ Ob1 w0 bb t b (N + 432000000) W' := by
  obtain ⟨n, D, hv, rs, h1, h2⟩ := h
  obtain ⟨a, c, rfl, _, _⟩ := (h1.m.ls.r.row okOb).len
  obtain ⟨two, kind, ⟨⟨op, on, ols, opr, odl, ops, over⟩, ⟨la, ln, lc⟩, ⟨pa, pn, pc⟩⟩, ⟨⟨zp, zn, zls, zpr, zdl, zps, zv⟩, ⟨za, zb, zc⟩, ⟨zd, ze, zf⟩⟩, sk, sa, r⟩ := x
  refine (step_any two kind op on ols opr odl ops over la ln lc pa pn pc zp zn za zb zc zpr zdl zd ze zf zv sk sa r w0 W bb t b n D a rs.length c rs h1 ho hz (by omega)).mono ?_
  rintro e W' ⟨rfl, D3, n3, hv3, rs3, z1, z2, z3, z4, z5⟩
  exact ⟨rfl, n3, D3, hv3, rs3, z1, by omega⟩
theorem size_op1 {x : OpL} : (Tryz.prog.info? 51).map (·.size) = some (OpL.c x).length := by kernel_rfl
end Le
end Go.Proofs.YtodfmnbfbndkhaaGreatDoor
end S1

section S2
namespace Go.Proofs.YtodfmnbfbndkhaaGreatDoor
open Go.RowKit Go.Sort
namespace Le
set_option maxHeartbeats 16000000 in
set_option maxRecDepth 100000 in
theorem climbs_walk (v : Value) (l : List OpL) (w : World) (G : Gl w) (HO : OpsAt w v l) (HZ : OzO l) :
    Calls Tryz.prog 5 #[v] w fun e w' => e = .returned (.bool true) ∧ Below w.heap.size w w' := by
  have GG := Lib.hid G
  have OB := Lib.hid HO
  have OZ := Lib.hid HZ
  obtain ⟨sa, sc, rfl, hls, hcs⟩ := HO.r.len
  obtain ⟨m, hm⟩ : ∃ m, m = l.length := ⟨_, rfl⟩
  have M := Lib.hid hm
  rw [← hm] at OB hls ⊢
  have ML : Hid (m ≤ maxLen) := Lib.hid (Nat.le_trans hls hcs)
  have LA := Lib.hid (lives_any w G)
  clear G HO HZ hm hls hcs
  go_enter Tryz.func5, Tryz.ntmps5
  go_wp2_with fail
  refine LA.out.mono ?_
  rintro e w1 ⟨t, b, n0, D0, rfl, A1, A1n⟩
  obtain ⟨bb, hbb⟩ : ∃ c, c = w1.heap.size := ⟨_, rfl⟩
  obtain ⟨Y1, hY1⟩ : ∃ Y, Y = w1.alloc (.cells #[.pointer (some ⟨t, 0, none⟩), .slice none 0 0] 48) := ⟨_, rfl⟩
  have T1 : Hid (Ob1 w bb t b 48 Y1 ∧ Y1.cell? ⟨bb, 0, none⟩ = some (.pointer (some ⟨t, 0, none⟩))) := Lib.hid (by
    have b1 : Below w1.heap.size w1 Y1 := by rw [hY1]; exact (Below.refl _ _).alloc (Nat.le_refl _) _
    have k : Bk w bb t b n0 D0 (.slice none 0 0) [] Y1 := ⟨⟨A1.below b1, by rw [hY1, hbb]; exact heap_alloc_new _ _, LsAt.nil, by rw [hbb]; exact A1.bel.size, GG.out⟩, Hs.nil, fun x hx => by simp at hx, by simp⟩
    exact ⟨⟨_, _, _, _, k, A1n⟩, k.m.c0⟩)
  have hY1' := hY1.symm
  have hbb' := hbb.symm
  clear hY1 hbb A1 A1n LA
  have d1 := T1.out.2
  go_upto_block 0 with fail
  clear hY1' hbb' d1
  go_cut [] (fun wx => ∃ n D hv rs, Hid (Bk w bb t b n D hv rs wx ∧ n ≤ 12960000048))
  case first => as_aux_lemma =>
    go_wp2_with fail
    go_loopg [4] m (fun gk s4 wr => ∃ (k : Nat), k ≤ m ∧ gk = m - k ∧ s4 = .int .i64 k ∧ k ≤ 30 ∧ Hid (∃ N, Ob1 w bb t b N wr ∧ N ≤ 48 + k * 432000000))
    case atStart => exact ⟨0, Nat.zero_le _, rfl, rfl, by omega, Lib.hid ⟨48, T1.out.1, by omega⟩⟩
    case round =>
      obtain ⟨k, hk, hg, rfl, hk30, R⟩ := hrel
      have GK : Hid (gk = m - k) := Lib.hid hg
      clear hg T1
      by_cases hgo : k < m ∧ k < 30
      case pos =>
        have h1 : decide ((k : Int) < (m : Int)) = true := decide_eq_true (by omega)
        have h2 : decide ((k : Int) < 30) = true := decide_eq_true (by omega)
        have h3 : (k : Int) < (m : Int) := by omega
        have hkl : k < l.length := by rw [← M.out]; exact hgo.1
        obtain ⟨N, RT, RN⟩ := R.out
        obtain ⟨gb, off, rfl, pcs⟩ := OB.out.r.at k hkl
        obtain ⟨x, hx⟩ : ∃ x, x = l[k] := ⟨_, rfl⟩
        have ex : l.getD k kOpL.z = x := by rw [List.getD_eq_getElem?_getD, List.getElem?_eq_getElem hkl, hx]; rfl
        rw [ex] at pcs
        have XM : x ∈ l := by rw [hx]; exact List.getElem_mem hkl
        have PC : Hid (wr.rangeAt gb (off + k * 19) (OpL.c x)) := Lib.hid fun j y hy => (RT.bel.cell (block_lt_of_cell (pcs j y hy))).trans (pcs j y hy)
        have ST := Lib.hid (RT.step x ((OB.out.o x XM).below RT.bel) (OZ.out.o x XM) (by omega))
        have NK : Hid (N ≤ 48 + k * 432000000) := Lib.hid RN
        clear pcs R RT RN hx ex XM
        go_wp2_with (refine wpList_load_mid rfl 51 (.tmp 40) rfl gb (off + k * 19) rfl (OpL.c x) _ PC.out Tryz.underlying51 rfl size_op1 ?_)
        refine ST.out.mono ?_
        rintro e w4 ⟨rfl, h4⟩
        have T4 := Lib.hid h4
        clear h4 ST PC
        go_wp2_with fail
        go_roundg (m - (k + 1))
        case measure => have := GK.out; omega
        case rel => exact ⟨k + 1, by omega, rfl, by go_num, by omega, Lib.hid ⟨_, T4.out, by have := NK.out; omega⟩⟩
      case neg =>
        obtain ⟨N, ⟨n, D, hv, rs, RT, Rn⟩, RN⟩ := R.out
        have FI : Hid (Bk w bb t b n D hv rs wr ∧ n ≤ 12960000048) := Lib.hid ⟨RT, by omega⟩
        clear RT RN R Rn
        by_cases hkm : k < m
        · have h1 : decide ((k : Int) < (m : Int)) = true := decide_eq_true (by omega)
          have h2 : decide ((k : Int) < 30) = false := decide_eq_false (by omega)
          go_wp2_with fail
          go_meet
          exact ⟨n, D, hv, rs, FI⟩
        · have h1 : decide ((k : Int) < (m : Int)) = false := decide_eq_false (by omega)
          go_wp2_with fail
          go_meet
          exact ⟨n, D, hv, rs, FI⟩
  obtain ⟨n, D, hv, rs, RT⟩ := hcut
  obtain ⟨hs, hhs⟩ : ∃ l, l = rs.map (·.1) := ⟨_, rfl⟩
  obtain ⟨hva, hvc, hhv, _, _⟩ := (RT.out.1.m.ls.r.row okOb).len
  obtain ⟨nh, hnh⟩ : ∃ k, k = rs.length := ⟨_, rfl⟩
  rw [← hnh] at hhv
  subst hhv
  have HS : Hid (hs = rs.map (·.1) ∧ nh = rs.length ∧ hs.length = nh ∧ nh ≤ 40) := Lib.hid ⟨hhs, hnh, by rw [hhs, List.length_map, hnh], by rw [hnh]; exact RT.out.1.len⟩
  have REP : Hid (Rep D (tot hs) ∧ Hs hs) := Lib.hid ⟨by rw [hhs]; exact RT.out.1.m.lv.rep, by rw [hhs]; exact RT.out.1.hs⟩
  have CF : Hid (∀ W : World, Below wc.heap.size wc W → W.cell? ⟨bb, 0, none⟩ = some (.pointer (some ⟨t, 0, none⟩)) ∧ W.cell? ⟨bb, 1, none⟩ = some (.slice hva nh hvc)) := Lib.hid fun W h => by
    have q := RT.out.1.m.below h
    exact ⟨q.c0, q.c1⟩
  have LV : Hid (∀ W : World, Below wc.heap.size wc W → Ld W t b n D ∧ L.HasM W ∧ Nms W ∧ (∀ x ∈ rs, ObV W x.2.1.v x.2.2.v x.1) ∧ Row kOb W (.slice hva nh hvc) rs) := Lib.hid fun W h => by
    have q := RT.out.1.m.below h
    exact ⟨q.lv.ld, q.lv.gl.hm, q.lv.gl.nm, fun x hx => (q.ls.o x hx).obv, q.ls.r.row okOb⟩
  have RZ : Hid (∀ x ∈ rs, Ozz x.1) := Lib.hid RT.out.1.oz
  have BW : Hid (Below w.heap.size w wc) := Lib.hid RT.out.1.m.lv.bel
  have RW := Lib.hid (rows_lv RT.out.1.m.lv (by have := RT.out.2; omega))
  clear hhs hnh RT T1 OB OZ GG M ML
  obtain ⟨k0, k1⟩ := CF.out wc (Below.refl _ _)
  go_wp2_with fail
  refine RW.out.mono ?_
  rintro e w2 ⟨vr, S, rfl, h1, h2, hb2⟩
  obtain ⟨va, vc, rfl, hvl, hvm⟩ := h1.len
  obtain ⟨ns, hns⟩ : ∃ k, k = S.length := ⟨_, rfl⟩
  have NS : Hid (ns = S.length ∧ ns ≤ maxLen) := Lib.hid ⟨hns, by rw [hns]; exact Nat.le_trans hvl hvm⟩
  have hnb : ns ≤ 9223372036854775807 := by have := NS.out.2; unfold maxLen at this; omega
  have hnh40 : nh ≤ 40 := HS.out.2.2.2
  have RU : Hid (∀ W : World, Below w2.heap.size w2 W → Row kUse W (.slice va ns vc) S) := Lib.hid fun W h => by rw [hns]; exact h1.below h
  have SO : Hid (∀ u ∈ S, Rok hs u) := Lib.hid fun u hu => row_ok h2 REP.out.1 hu
  have CM : Hid (∀ x, Clm S hs x) := Lib.hid fun x => clm_of h2 REP.out.1 REP.out.2 x
  have B2 : Hid (Below wc.heap.size wc w2) := Lib.hid hb2
  rw [← hns]
  clear h1 h2 hb2 RW hvl hvm hns k0 k1
  go_wp2_with fail
  go_loopg [6] ns (fun gk s6 wr => ∃ (i : Nat), i ≤ ns ∧ gk = ns - i ∧ s6 = .int .i64 i ∧ Hid (Below w2.heap.size w2 wr))
  case atStart => exact ⟨0, Nat.zero_le _, rfl, rfl, Lib.hid (Below.refl _ _)⟩
  case round =>
    obtain ⟨i, hi, hg, rfl, R⟩ := hrel
    have GK : Hid (gk = ns - i) := Lib.hid hg
    clear hg
    by_cases hlt : i < ns
    case neg =>
      have hl' : ¬ (i : Int) < (ns : Int) := by omega
      go_wp2_with fail
      go_ret
      exact ⟨rfl, BW.out.trans ((B2.out.trans (R.out.mono B2.out.size)).mono BW.out.size)⟩
    have hl' : (i : Int) < (ns : Int) := by omega
    have hil : i < S.length := by rw [← NS.out.1]; exact hlt
    obtain ⟨gr, off, rfl, pcs⟩ := (RU.out wr R.out).at i hil
    obtain ⟨u, hu⟩ : ∃ u, u = S[i] := ⟨_, rfl⟩
    have ex : S.getD i kUse.z = u := by rw [List.getD_eq_getElem?_getD, List.getElem?_eq_getElem hil, hu]; rfl
    rw [ex] at pcs
    have UO : Hid (Rok hs u) := Lib.hid (SO.out u (by rw [hu]; exact List.getElem_mem hil))
    clear hu ex
    obtain ⟨⟨⟨xp, xk, xa, xr⟩, xv⟩, xz⟩ := u
    have RD : Hid (∀ W : World, Below w2.heap.size w2 W → ∀ j (hj : j < S.length) c y, (kUse.c S[j])[c]? = some y → W.cell? ⟨gr, off + j * 5 + c, none⟩ = some y) := Lib.hid fun W h j hj c y hy => by
      obtain ⟨b', off', e', pc⟩ := (RU.out W h).at j hj
      simp only [Option.some.injEq, Addr.mk.injEq, and_true] at e'
      obtain ⟨rfl, rfl⟩ := e'
      have ej : S.getD j kUse.z = S[j] := by rw [List.getD_eq_getElem?_getD, List.getElem?_eq_getElem hj]; rfl
      rw [ej] at pc
      exact pc c y hy
    have p0 : wr.cell? ⟨gr, off + i * 5, none⟩ = some (.string xp) := pcs 0 _ rfl
    have p1 : wr.cell? ⟨gr, off + i * 5 + 1, none⟩ = some (.int .i64 xk) := pcs 1 _ rfl
    have p2 : wr.cell? ⟨gr, off + i * 5 + 2, none⟩ = some (.int .i64 xa) := pcs 2 _ rfl
    have p3 : wr.cell? ⟨gr, off + i * 5 + 3, none⟩ = some (.string xr) := pcs 3 _ rfl
    have p4 : wr.cell? ⟨gr, off + i * 5 + 4, none⟩ = some (.int .i64 xv) := pcs 4 _ rfl
    obtain ⟨Z, hZ⟩ : ∃ Z, Z = wr.alloc (.cells #[.string xp, .int .i64 xk, .int .i64 xa, .string xr, .int .i64 xv] 41) := ⟨_, rfl⟩
    obtain ⟨g7, hg7⟩ : ∃ g, g = wr.heap.size := ⟨_, rfl⟩
    have BZ : Hid (Below w2.heap.size w2 Z ∧ Z.heap[g7]? = some (.cells #[.string xp, .int .i64 xk, .int .i64 xa, .string xr, .int .i64 xv] 41 (0, 0))) := Lib.hid ⟨R.out.trans ((by rw [hZ]; exact (Below.refl _ _).alloc (Nat.le_refl _) _ : Below wr.heap.size wr Z).mono R.out.size), by rw [hZ, hg7]; exact heap_alloc_new _ _⟩
    have B0 : Hid (∀ W : World, Below Z.heap.size Z W → Below w2.heap.size w2 W ∧ Below wc.heap.size wc W) := Lib.hid fun W h => by
      have q := BZ.out.1.trans (h.mono BZ.out.1.size)
      exact ⟨q, B2.out.trans (q.mono B2.out.size)⟩
    have RC : Hid (∀ W : World, Below Z.heap.size Z W → W.cell? ⟨g7, 0, none⟩ = some (.string xp) ∧ W.cell? ⟨g7, 1, none⟩ = some (.int .i64 xk) ∧ W.cell? ⟨g7, 2, none⟩ = some (.int .i64 xa) ∧ W.cell? ⟨g7, 3, none⟩ = some (.string xr) ∧ W.cell? ⟨g7, 4, none⟩ = some (.int .i64 xv)) := Lib.hid fun W h => by
      have e := (h.block _ (lt_of_some BZ.out.2)).trans BZ.out.2
      refine ⟨?_, ?_, ?_, ?_, ?_⟩ <;> rw [cell_of_row _ _ _ _ _ _ e] <;> rfl
    obtain ⟨ts, hts⟩ := UO.out.s
    have PA := Lib.hid (parent_line hts Z (LV.out Z (B0.out Z (Below.refl _ _)).2).2.1)
    have hZ' := hZ.symm
    have hg7' := hg7.symm
    have DR : Hid (∀ W : World, Below W.heap.size W W.drew) := Lib.hid fun W => (Below.refl _ W).drew
    obtain ⟨r0, r1, r2, r3, r4⟩ := RC.out Z (Below.refl _ _)
    clear hZ hg7 hts pcs
    go_wp2_with fail
    refine PA.out.mono ?_
    rintro e w5 ⟨⟨c, rfl, hc⟩, hb5⟩
    obtain ⟨uq, huq⟩ : ∃ q, q = (parO xp).getD ⟨#[]⟩ := ⟨_, rfl⟩
    have C5 : Hid (Below Z.heap.size Z w5 ∧ (c = 0 ↔ parO xp ≠ none) ∧ uq = (parO xp).getD ⟨#[]⟩) := Lib.hid ⟨hb5, hc, huq⟩
    rw [← huq]
    clear huq hb5 hc PA hZ' hg7' p0 p1 p2 p3 p4 r0 r1 r2 r3 r4
    go_upto_region 14 with fail
    go_cut [96] (fun s96 wx => s96 = .bool false ∧ Hid (Below Z.heap.size Z wx))
    case first => as_aux_lemma =>
      by_cases h0 : c = 0
      case pos =>
        subst h0
        have PO : Hid (parO xp = some uq) := Lib.hid (by
          have q := C5.out.2.1.1 rfl
          obtain ⟨z, hz⟩ := Option.ne_none_iff_exists'.1 q
          rw [C5.out.2.2, hz]; rfl)
        obtain ⟨fu, hfu⟩ : ∃ f, f = tot hs ⟨uq, xk, xa, xr⟩ := ⟨_, rfl⟩
        obtain ⟨cu, hcu⟩ : ∃ f, f = tot hs ⟨uq, 0, 0, tCnt⟩ / 1000 := ⟨_, rfl⟩
        obtain ⟨cp, hcp⟩ : ∃ f, f = tot hs ⟨xp, 0, 0, tCnt⟩ / 1000 := ⟨_, rfl⟩
        have FU : Hid (fu = tot hs ⟨uq, xk, xa, xr⟩ ∧ cu = tot hs ⟨uq, 0, 0, tCnt⟩ / 1000 ∧ cp = tot hs ⟨xp, 0, 0, tCnt⟩ / 1000) := Lib.hid ⟨hfu, hcu, hcp⟩
        have q1 : decide (fu < xv) = false := decide_eq_false (by
          have z := up_le (x := ⟨xp, xk, xa, xr⟩) REP.out.2.z PO.out
          have z2 := UO.out.e
          simp only at z z2
          rw [hfu]
          omega)
        have q2 : decide (cu < cp) = false := decide_eq_false (by
          have z := up_le (x := ⟨xp, 0, 0, tCnt⟩) REP.out.2.z PO.out
          simp only at z
          have := Int.ediv_le_ediv (c := 1000) (by decide) z
          omega)
        clear hfu hcu hcp
        have SZ := Lib.hid (par_size PO.out)
        have UD : Hid (∀ W : World, Below Z.heap.size Z W → Calls Tryz.prog 18 #[.pointer (some ⟨t, 0, none⟩), .string uq, .agg #[.int .i64 xk, .int .i64 xa], .string xr] W fun e w' => e = .returned (.int .i64 fu) ∧ Below W.heap.size W w') := Lib.hid fun W h => by
          have q := used_any (w := W) ⟨uq, xk, xa, xr⟩ (LV.out W (B0.out W h).2).1 REP.out.1 ⟨by have := SZ.out; simp only; unfold maxLen; omega, UO.out.f.r, UO.out.f.k, UO.out.f.a⟩
          rw [FU.out.1]
          exact q
        have CU : Hid (∀ W : World, Below Z.heap.size Z W → Calls Tryz.prog 19 #[.pointer (some ⟨t, 0, none⟩), .string uq] W fun e w' => e = .returned (.int .i64 cu) ∧ Below W.heap.size W w') := Lib.hid fun W h => by
          rw [FU.out.2.1]
          exact count_any uq (LV.out W (B0.out W h).2).1 REP.out.1 (by have := SZ.out; unfold maxLen; omega)
        have CP : Hid (∀ W : World, Below Z.heap.size Z W → Calls Tryz.prog 19 #[.pointer (some ⟨t, 0, none⟩), .string xp] W fun e w' => e = .returned (.int .i64 cp) ∧ Below W.heap.size W w') := Lib.hid fun W h => by
          rw [FU.out.2.2]
          exact count_any xp (LV.out W (B0.out W h).2).1 REP.out.1 UO.out.f.p
        have D5 : Hid (Below Z.heap.size Z w5.drew) := Lib.hid (C5.out.1.trans ((DR.out w5).mono C5.out.1.size))
        obtain ⟨k0, k1⟩ := CF.out _ (B0.out _ D5.out).2
        obtain ⟨r0, r1, r2, r3, r4⟩ := RC.out _ D5.out
        have M1 : True := trivial
        have M2 : True := trivial
        have M3 : True := trivial
        go_region_held3 (fun W : World => W.cell? ⟨bb, 0, none⟩ = some (.pointer (some ⟨t, 0, none⟩)) ∧ W.cell? ⟨g7, 0, none⟩ = some (.string xp) ∧ W.cell? ⟨g7, 1, none⟩ = some (.int .i64 xk) ∧ W.cell? ⟨g7, 2, none⟩ = some (.int .i64 xa) ∧ W.cell? ⟨g7, 3, none⟩ = some (.string xr) ∧ W.cell? ⟨g7, 4, none⟩ = some (.int .i64 xv)) (first | exact ⟨by assumption, by assumption, by assumption, by assumption, by assumption, by assumption⟩ | go_keep) (first
          | (go_at_call 18
             clear M1
             refine (UD.out _ D5.out).mono ?_
             rintro e y1 ⟨rfl, h1⟩
             have E1 : Hid (Below Z.heap.size Z y1) := Lib.hid (D5.out.trans (h1.mono D5.out.size))
             obtain ⟨ka0, ka1⟩ := CF.out _ (B0.out _ E1.out).2
             obtain ⟨ra0, ra1, ra2, ra3, ra4⟩ := RC.out _ E1.out
             clear h1)
          | (go_at_call 19
             clear M2
             refine (CU.out _ E1.out).mono ?_
             rintro e y2 ⟨rfl, h2⟩
             have E2 : Hid (Below Z.heap.size Z y2) := Lib.hid (E1.out.trans (h2.mono E1.out.size))
             obtain ⟨kb0, kb1⟩ := CF.out _ (B0.out _ E2.out).2
             obtain ⟨rb0, rb1, rb2, rb3, rb4⟩ := RC.out _ E2.out
             clear h2)
          | (go_at_call 19
             clear M3
             refine (CP.out _ E2.out).mono ?_
             rintro e y3 ⟨rfl, h3⟩
             have E3 : Hid (Below Z.heap.size Z y3) := Lib.hid (E2.out.trans (h3.mono E2.out.size))
             obtain ⟨kc0, kc1⟩ := CF.out _ (B0.out _ E3.out).2
             obtain ⟨rc0, rc1, rc2, rc3, rc4⟩ := RC.out _ E3.out
             clear h3))
        go_wp2_with fail
        go_meet
        exact ⟨rfl, E3⟩
      case neg =>
        have q1 : (c == 0) = false := by rw [beq_eq_false_iff_ne]; exact h0
        refine wp_region_quiet_below (by kernel_rfl) (by kernel_rfl) ?_
        repeat (go_big_quiet_step (fail))
        refine wpQuiet_nil ?_
        intro w6 hw6
        have E3 : Hid (Below Z.heap.size Z w6) := Lib.hid (by
          obtain ⟨⟨dq, osq⟩, rfl⟩ := hw6
          exact C5.out.1.trans ((below_regrown _ _ _).mono C5.out.1.size))
        clear hw6
        go_wp2_with fail
        go_meet
        exact ⟨rfl, E3⟩
    obtain ⟨rfl, BA⟩ := hcut
    clear C5
    go_upto_block 4 with fail
    obtain ⟨X, hX⟩ : ∃ X : Ky, X = ⟨xp, xk, xa, xr⟩ := ⟨_, rfl⟩
    have XE : Hid (X = ⟨xp, xk, xa, xr⟩) := Lib.hid hX
    have CX := Lib.hid (CM.out X)
    clear hX
    go_cut [10] (fun s10 wx => s10 = .int .i64 (rsum S X) ∧ Hid (Below Z.heap.size Z wx))
    case first => as_aux_lemma =>
      go_wp2_with fail
      go_loopg [10, 11] ns (fun gk s10 s11 wr => ∃ (j : Nat), j ≤ ns ∧ gk = ns - j ∧ s10 = .int .i64 (rsum (S.take j) X) ∧ s11 = .int .i64 j ∧ Hid (Below Z.heap.size Z wr))
      case atStart => exact ⟨0, Nat.zero_le _, rfl, rfl, rfl, BA⟩
      case round =>
        obtain ⟨j, hj, hg, rfl, rfl, RJ⟩ := hrel
        have GJ : Hid (gk = ns - j) := Lib.hid hg
        clear hg
        by_cases hjt : j < ns
        case neg =>
          have hj' : ¬ (j : Int) < (ns : Int) := by omega
          have e : S.take j = S := List.take_of_length_le (by rw [← NS.out.1]; omega)
          have FI : Hid (Below Z.heap.size Z wr ∧ rsum (S.take j) X = rsum S X) := Lib.hid ⟨RJ.out, by rw [e]⟩
          clear e RJ
          go_wp2_with fail
          go_meet
          rw [FI.out.2]
          exact ⟨rfl, Lib.hid FI.out.1⟩
        have hj' : (j : Int) < (ns : Int) := by omega
        have hjl : j < S.length := by rw [← NS.out.1]; exact hjt
        have pcs := RD.out wr (B0.out wr RJ.out).1 j hjl
        obtain ⟨cb, hcb⟩ : ∃ cb : Bool, (cb = true ↔ Cnd S[j] X) := ⟨by classical exact decide (Cnd S[j] X), by simp⟩
        have SJ := Lib.hid (rsum_step hjl X)
        have UJ : Hid (Rok hs S[j]) := Lib.hid (SO.out _ (List.getElem_mem hjl))
        obtain ⟨u, hu⟩ : ∃ u, u = S[j] := ⟨_, rfl⟩
        rw [← hu] at pcs hcb SJ UJ
        obtain ⟨⟨⟨yp, yk, ya, yr⟩, yv⟩, yz⟩ := u
        have PD : Hid (∀ W : World, Below Z.heap.size Z W → W.cell? ⟨gr, off + j * 5, none⟩ = some (.string yp) ∧ W.cell? ⟨gr, off + j * 5 + 1, none⟩ = some (.int .i64 yk) ∧ W.cell? ⟨gr, off + j * 5 + 2, none⟩ = some (.int .i64 ya) ∧ W.cell? ⟨gr, off + j * 5 + 3, none⟩ = some (.string yr) ∧ W.cell? ⟨gr, off + j * 5 + 4, none⟩ = some (.int .i64 yv)) := Lib.hid fun W h => by
          have q := RD.out W (B0.out W h).1 j hjl
          rw [← hu] at q
          exact ⟨q 0 _ rfl, q 1 _ rfl, q 2 _ rfl, q 3 _ rfl, q 4 _ rfl⟩
        have CBJ : Hid (cb = true ↔ (parO yp = some xp ∧ yk = xk ∧ ya = xa ∧ yr = xr)) := Lib.hid (by
          rw [hcb, XE.out]
          exact Iff.rfl)
        obtain ⟨A, hA⟩ : ∃ A, A = rsum (S.take j) X := ⟨_, rfl⟩
        have AE : Hid (A = rsum (S.take j) X ∧ rsum (S.take (j + 1)) X = A + (if cb = true then yv else 0)) := Lib.hid ⟨hA, by
          rw [SJ.out, ← hA]
          by_cases q : cb = true
          · rw [if_pos q, if_pos (hcb.1 q)]
          · rw [if_neg q, if_neg (fun z => q (hcb.2 z))]⟩
        rw [← hA]
        obtain ⟨ts, hts⟩ := UJ.out.s
        have PA := Lib.hid (parent_line hts wr (LV.out wr (B0.out wr RJ.out).2).2.1)
        clear hu hcb hA hts pcs SJ
        obtain ⟨p0, p1, p2, p3, p4⟩ := PD.out wr RJ.out
        go_wp2_with fail
        refine PA.out.mono ?_
        rintro e w6 ⟨⟨c2, rfl, hc⟩, hb6⟩
        obtain ⟨vq, hvq⟩ : ∃ q, q = (parO yp).getD ⟨#[]⟩ := ⟨_, rfl⟩
        have C6 : Hid (Below Z.heap.size Z w6 ∧ (c2 = 0 ↔ parO yp ≠ none) ∧ vq = (parO yp).getD ⟨#[]⟩) := Lib.hid ⟨RJ.out.trans (hb6.mono RJ.out.size), hc, hvq⟩
        rw [← hvq]
        clear hvq hb6 hc PA p0 p1 p2 p3 p4
        go_upto_region 21 with fail
        go_cut [139] (fun s139 wx => s139 = .bool cb ∧ Hid (Below Z.heap.size Z wx))
        case first => as_aux_lemma =>
          have E6 := Lib.hid C6.out.1
          obtain ⟨p0, p1, p2, p3, p4⟩ := PD.out w6 E6.out
          obtain ⟨r0, r1, r2, r3, r4⟩ := RC.out w6 E6.out
          by_cases h0 : c2 = 0
          case neg =>
            have q1 : (c2 == 0) = false := by rw [beq_eq_false_iff_ne]; exact h0
            have hf : cb = false := by
              rw [Bool.eq_false_iff]
              intro z
              have := (CBJ.out.1 z).1
              exact h0 (C6.out.2.1.2 (by rw [this]; simp))
            subst hf
            go_quiet (fail)
            go_wp2_with fail
            go_meet
            exact ⟨rfl, Lib.hid (E6.out.trans ((below_drawn w6 _).mono E6.out.size))⟩
          subst h0
          have PO : Hid (parO yp = some vq) := Lib.hid (by
            have q := C6.out.2.1.1 rfl
            obtain ⟨z, hz⟩ := Option.ne_none_iff_exists'.1 q
            rw [C6.out.2.2, hz]; rfl)
          by_cases h1 : vq = xp
          case neg =>
            have q1 := teq_no h1
            have hf : cb = false := by
              rw [Bool.eq_false_iff]
              intro z
              have := (CBJ.out.1 z).1
              rw [PO.out] at this
              exact h1 (Option.some.inj this)
            clear h1
            subst hf
            go_quiet (fail)
            go_wp2_with fail
            go_meet
            exact ⟨rfl, Lib.hid (E6.out.trans ((below_drawn w6 _).mono E6.out.size))⟩
          have q1 : (vq.toList == xp.toList) = true := by rw [h1]; exact beq_self_eq_true _
          have HQ := Lib.hid h1
          clear h1
          by_cases h2 : yk = xk ∧ ya = xa
          case neg =>
            have hf : cb = false := by
              rw [Bool.eq_false_iff]
              intro z
              exact h2 ⟨(CBJ.out.1 z).2.1, (CBJ.out.1 z).2.2.1⟩
            subst hf
            by_cases h3 : yk = xk
            · have q2 : (yk == xk) = true := by rw [beq_iff_eq]; exact h3
              have q3 : (ya == xa) = false := by rw [beq_eq_false_iff_ne]; exact fun z => h2 ⟨h3, z⟩
              clear h2 h3
              go_quiet (fail)
              go_wp2_with fail
              go_meet
              exact ⟨rfl, Lib.hid (E6.out.trans ((below_drawn w6 _).mono E6.out.size))⟩
            · have q2 : (yk == xk) = false := by rw [beq_eq_false_iff_ne]; exact h3
              clear h2 h3
              go_quiet (fail)
              go_wp2_with fail
              go_meet
              exact ⟨rfl, Lib.hid (E6.out.trans ((below_drawn w6 _).mono E6.out.size))⟩
          have q2 : (yk == xk) = true := by rw [beq_iff_eq]; exact h2.1
          have q3 : (ya == xa) = true := by rw [beq_iff_eq]; exact h2.2
          have HK := Lib.hid h2
          clear h2
          by_cases h4 : yr = xr
          case neg =>
            have q4 := teq_no h4
            have hf : cb = false := by
              rw [Bool.eq_false_iff]
              intro z
              exact h4 (CBJ.out.1 z).2.2.2
            clear h4
            subst hf
            go_quiet (fail)
            go_wp2_with fail
            go_meet
            exact ⟨rfl, Lib.hid (E6.out.trans ((below_drawn w6 _).mono E6.out.size))⟩
          have q4 : (yr.toList == xr.toList) = true := by rw [h4]; exact beq_self_eq_true _
          have hf : cb = true := CBJ.out.2 ⟨by rw [PO.out, HQ.out], HK.out.1, HK.out.2, h4⟩
          clear h4
          subst hf
          go_quiet (fail)
          go_wp2_with fail
          go_meet
          exact ⟨rfl, Lib.hid (E6.out.trans ((below_drawn w6 _).mono E6.out.size))⟩
        obtain ⟨rfl, E7⟩ := hcut
        obtain ⟨p0, p1, p2, p3, p4⟩ := PD.out _ E7.out
        cases cb with
        | false =>
          have NX : Hid (rsum (S.take (j + 1)) X = A) := Lib.hid (by rw [AE.out.2]; simp)
          go_wp2_with fail
          go_roundg (ns - (j + 1))
          case measure => have := GJ.out; omega
          case rel => exact ⟨j + 1, by omega, rfl, by rw [NX.out], by go_num, Lib.hid E7.out⟩
        | true =>
          have NX : Hid (rsum (S.take (j + 1)) X = A + yv) := Lib.hid (by rw [AE.out.2]; simp)
          have wv : IntKind.i64.wrap (A + yv) = A + yv := by
            rw [IntKind.wrap_i64, ← NX.out]
            have a1 := CX.out.r (j + 1)
            have a2 := CX.out.t
            have a3 := CX.out.m
            have a4 := CX.out.n
            unfold MX at a3
            omega
          have wv2 : wrap64 (A + yv) = A + yv := by unfold wrap64; rw [IntKind.wrap_i64] at wv; exact wv
          go_wp2_with fail
          go_roundg (ns - (j + 1))
          case measure => have := GJ.out; omega
          case rel => exact ⟨j + 1, by omega, rfl, by rw [NX.out], by go_num, Lib.hid E7.out⟩
    obtain ⟨rfl, BS⟩ := hcut
    go_upto_block 6 with fail
    obtain ⟨RS, hRS⟩ : ∃ A, A = rsum S X := ⟨_, rfl⟩
    have RSE := Lib.hid hRS
    rw [← hRS]
    clear hRS
    go_cut [14] (fun s14 wx => s14 = .int .i64 (msum hs X) ∧ Hid (Below Z.heap.size Z wx))
    case first => as_aux_lemma =>
      go_wp2_with fail
      go_loopg [14, 15] nh (fun gk s14 s15 wr => ∃ (k : Nat), k ≤ nh ∧ gk = nh - k ∧ s14 = .int .i64 (msum (hs.take k) X) ∧ s15 = .int .i64 k ∧ Hid (Below Z.heap.size Z wr))
      case atStart => exact ⟨0, Nat.zero_le _, rfl, rfl, rfl, BS⟩
      case round =>
        obtain ⟨k, hk, hg, rfl, rfl, RK⟩ := hrel
        have GL : Hid (gk = nh - k) := Lib.hid hg
        clear hg
        obtain ⟨k0, k1⟩ := CF.out wr (B0.out wr RK.out).2
        by_cases hkt : k < nh
        case neg =>
          have hk' : ¬ (k : Int) < (nh : Int) := by omega
          have e : hs.take k = hs := List.take_of_length_le (by rw [HS.out.2.2.1]; omega)
          have FI : Hid (Below Z.heap.size Z wr ∧ msum (hs.take k) X = msum hs X) := Lib.hid ⟨RK.out, by rw [e]⟩
          clear e RK
          go_wp2_with fail
          go_meet
          rw [FI.out.2]
          exact ⟨rfl, Lib.hid FI.out.1⟩
        have hk' : (k : Int) < (nh : Int) := by omega
        have hkl : k < rs.length := by rw [← HS.out.2.1]; exact hkt
        have hks : k < hs.length := by rw [HS.out.2.2.1]; exact hkt
        obtain ⟨ge, oe, rfl, _⟩ := (LV.out wr (B0.out wr RK.out).2).2.2.2.2.at k hkl
        obtain ⟨y, hy⟩ : ∃ y, y = rs[k] := ⟨_, rfl⟩
        have YM : Hid (y ∈ rs ∧ rs.getD k kOb.z = y ∧ hs[k] = y.1) := Lib.hid ⟨by rw [hy]; exact List.getElem_mem hkl, by rw [List.getD_eq_getElem?_getD, List.getElem?_eq_getElem hkl, hy]; rfl, by rw [hy]; simp [HS.out.1]⟩
        clear hy
        have SM := Lib.hid (msum_step hks X)
        rw [YM.out.2.2] at SM
        obtain ⟨⟨yp, yn, yls, ypr, ydl, yps, yvr⟩, ⟨ya, yl, yc⟩, ⟨yd, ye, yf⟩⟩ := y
        have EC : Hid (∀ W : World, Below Z.heap.size Z W → W.cell? ⟨ge, oe + k * 7, none⟩ = some (.string yp) ∧ W.cell? ⟨ge, oe + k * 7 + 1, none⟩ = some (.string yn) ∧ W.cell? ⟨ge, oe + k * 7 + 2, none⟩ = some (.slice ya yl yc) ∧ W.cell? ⟨ge, oe + k * 7 + 3, none⟩ = some (.int .i64 ypr) ∧ W.cell? ⟨ge, oe + k * 7 + 4, none⟩ = some (.int .i64 ydl) ∧ W.cell? ⟨ge, oe + k * 7 + 5, none⟩ = some (.slice yd ye yf) ∧ W.cell? ⟨ge, oe + k * 7 + 6, none⟩ = some (.int .i64 yvr)) := Lib.hid fun W h => by
          obtain ⟨b', off', e', pc⟩ := (LV.out W (B0.out W h).2).2.2.2.2.at k hkl
          simp only [Option.some.injEq, Addr.mk.injEq, and_true] at e'
          obtain ⟨rfl, rfl⟩ := e'
          rw [YM.out.2.1] at pc
          exact ⟨pc 0 _ rfl, pc 1 _ rfl, pc 2 _ rfl, pc 3 _ rfl, pc 4 _ rfl, pc 5 _ rfl, pc 6 _ rfl⟩
        obtain ⟨ho, hho⟩ : ∃ o : Ob, o = ⟨yp, yn, yls, ypr, ydl, yps, yvr⟩ := ⟨_, rfl⟩
        have HE : Hid (ho = ⟨yp, yn, yls, ypr, ydl, yps, yvr⟩) := Lib.hid hho
        have YZ : Hid (Ozz ho) := Lib.hid (by rw [hho]; exact RZ.out _ YM.out.1)
        have OWY : Hid (∀ W : World, Below Z.heap.size Z W → Calls Tryz.prog 10 #[.agg #[.string yp, .string yn, .slice ya yl yc, .int .i64 ypr, .int .i64 ydl, .slice yd ye yf, .int .i64 yvr]] W fun e w' => ∃ xa' xc' xb' xd', e = .returned (.agg #[.string yp, .string yn, .slice xa' yls.length xc', .int .i64 ypr, .int .i64 ydl, .slice xb' yps.length xd', .int .i64 yvr]) ∧ Hid (ObV w' (.slice xa' yls.length xc') (.slice xb' yps.length xd') ho ∧ Below W.heap.size W w')) := Lib.hid fun W h => by
          have q := own_any ⟨yp, yn, yls, ypr, ydl, yps, yvr⟩ _ _ W ((LV.out W (B0.out W h).2).2.2.2.1 _ YM.out.1) (RZ.out _ YM.out.1).s
          refine Calls.mono q ?_
          rintro e w' ⟨xa', xc', zb', zc', rfl, h1, h2⟩
          exact ⟨xa', xc', zb', zc', rfl, Lib.hid ⟨by rw [hho]; exact h1.obv, h2⟩⟩
        obtain ⟨ib, hib⟩ : ∃ b : Bool, b = inB ho xk xa := ⟨_, rfl⟩
        have INY : Hid (∀ (W : World) (za : Option Addr) (zc : Nat) (zb : Option Addr) (zd : Nat), Below Z.heap.size Z W → ObV W (.slice za yls.length zc) (.slice zb yps.length zd) ho → Calls Tryz.prog 20 #[.agg #[.string yp, .string yn, .slice za yls.length zc, .int .i64 ypr, .int .i64 ydl, .slice zb yps.length zd, .int .i64 yvr], .agg #[.int .i64 xk, .int .i64 xa]] W fun e w' => e = .returned (.bool ib) ∧ Below W.heap.size W w') := Lib.hid fun W za zc zb zd h hv => by
          have q := in_any ho za yls.length zc zb yps.length zd xk xa W (LV.out W (B0.out W h).2).2.2.1 hv.p
          rw [hib]
          rw [hho] at q ⊢
          exact q
        have USY : Hid (∀ (W : World) (za : Option Addr) (zc : Nat) (zb : Option Addr) (zd : Nat), ObV W (.slice za yls.length zc) (.slice zb yps.length zd) ho → Calls Tryz.prog 21 #[.agg #[.string yp, .string yn, .slice za yls.length zc, .int .i64 ypr, .int .i64 ydl, .slice zb yps.length zd, .int .i64 yvr]] W fun e w' => ∃ a n c, e = .returned (.tuple #[.slice a n c, .int .i64 (usesE ho.ps)]) ∧ Hid (Row kAm w' (.slice a n c) (usesL ho.ps) ∧ Below W.heap.size W w')) := Lib.hid fun W za zc zb zd hv => by
          have q := uses_any ho _ _ W hv YZ.out.z
          rw [hho] at q ⊢
          refine Calls.mono q ?_
          rintro e w' ⟨a, n, c, rfl, h1, h2⟩
          exact ⟨a, n, c, rfl, Lib.hid ⟨h1.row okAm, h2⟩⟩
        obtain ⟨A, hA⟩ : ∃ A, A = msum (hs.take k) X := ⟨_, rfl⟩
        have AE : Hid (A = msum (hs.take k) X ∧ msum (hs.take (k + 1)) X = A + mine ho X) := Lib.hid ⟨hA, by rw [SM.out, ← hA, hho]⟩
        obtain ⟨cb, hcb⟩ : ∃ cb : Bool, cb = (decide (yp = xp) && ib) := ⟨_, rfl⟩
        have MI : Hid (mine ho X = if cb = true then amt (usesL ho.ps) xr else 0) := Lib.hid (by
          have e1 : ho.p = yp := by rw [hho]
          unfold mine
          rw [XE.out, e1, hcb, hib, in_can]
          by_cases c1 : yp = xp
          · by_cases c2 : (xk, xa) ∈ canS ho
            · rw [if_pos ⟨c1, c2⟩, if_pos (by rw [decide_eq_true c1, decide_eq_true c2]; rfl)]
            · rw [if_neg (fun z => c2 z.2), if_neg (by rw [decide_eq_false c2, Bool.and_false]; decide)]
          · rw [if_neg (fun z => c1 z.1), if_neg (by rw [decide_eq_false c1, Bool.false_and]; decide)])
        have CBE : Hid (cb = (decide (yp = xp) && ib)) := Lib.hid hcb
        rw [← hA]
        clear hho hib hA hcb SM
        go_upto_region 27 with fail
        clear k0 k1
        go_cut [179] (fun s179 wx => s179 = .bool cb ∧ Hid (Below Z.heap.size Z wx))
        case first => as_aux_lemma =>
          by_cases h1 : yp = xp
          case neg =>
            have q1 := teq_no h1
            have hf : cb = false := by rw [CBE.out, decide_eq_false h1]; rfl
            clear h1
            subst hf
            obtain ⟨k0a, k1a⟩ := CF.out wr (B0.out wr RK.out).2
            obtain ⟨r0a, r1a, r2a, r3a, r4a⟩ := RC.out wr RK.out
            obtain ⟨e0a, e1a, e2a, e3a, e4a, e5a, e6a⟩ := EC.out wr RK.out
            go_quiet (fail)
            go_wp2_with fail
            go_meet
            exact ⟨rfl, Lib.hid (RK.out.trans ((below_drawn wr _).mono RK.out.size))⟩
          have q1 : (yp.toList == xp.toList) = true := by rw [h1]; exact beq_self_eq_true _
          have hf : cb = ib := by rw [CBE.out, decide_eq_true h1, Bool.true_and]
          clear h1
          subst hf
          have D7 : Hid (Below Z.heap.size Z wr.drew) := Lib.hid (RK.out.trans ((DR.out wr).mono RK.out.size))
          obtain ⟨k0a, k1a⟩ := CF.out wr.drew (B0.out wr.drew D7.out).2
          obtain ⟨r0a, r1a, r2a, r3a, r4a⟩ := RC.out wr.drew D7.out
          obtain ⟨e0a, e1a, e2a, e3a, e4a, e5a, e6a⟩ := EC.out wr.drew D7.out
          go_region_held3 (fun W : World => W.cell? ⟨bb, 1, none⟩ = some (.slice (some ⟨ge, oe, none⟩) nh hvc) ∧ W.cell? ⟨g7, 0, none⟩ = some (.string xp) ∧ W.cell? ⟨g7, 1, none⟩ = some (.int .i64 xk) ∧ W.cell? ⟨g7, 2, none⟩ = some (.int .i64 xa) ∧ W.cell? ⟨g7, 3, none⟩ = some (.string xr) ∧ W.cell? ⟨g7, 4, none⟩ = some (.int .i64 xv) ∧ W.cell? ⟨ge, oe + k * 7, none⟩ = some (.string yp) ∧ W.cell? ⟨ge, oe + k * 7 + 1, none⟩ = some (.string yn) ∧ W.cell? ⟨ge, oe + k * 7 + 2, none⟩ = some (.slice ya yl yc) ∧ W.cell? ⟨ge, oe + k * 7 + 3, none⟩ = some (.int .i64 ypr) ∧ W.cell? ⟨ge, oe + k * 7 + 4, none⟩ = some (.int .i64 ydl) ∧ W.cell? ⟨ge, oe + k * 7 + 5, none⟩ = some (.slice yd ye yf) ∧ W.cell? ⟨ge, oe + k * 7 + 6, none⟩ = some (.int .i64 yvr)) (first | exact ⟨by assumption, by assumption, by assumption, by assumption, by assumption, by assumption, by assumption, by assumption, by assumption, by assumption, by assumption, by assumption, by assumption⟩ | go_keep) (first
            | (go_at_call 10
               refine (OWY.out _ D7.out).mono ?_
               rintro e y1 ⟨za, zc, zb, zd, rfl, h1⟩
               have R1 := Lib.hid h1.out.1
               have E1 : Hid (Below Z.heap.size Z y1) := Lib.hid (D7.out.trans (h1.out.2.mono D7.out.size))
               obtain ⟨k0b, k1b⟩ := CF.out y1 (B0.out y1 E1.out).2
               obtain ⟨r0b, r1b, r2b, r3b, r4b⟩ := RC.out y1 E1.out
               obtain ⟨e0b, e1b, e2b, e3b, e4b, e5b, e6b⟩ := EC.out y1 E1.out
               clear h1)
            | (go_at_call 20
               refine (INY.out _ za zc zb zd E1.out R1.out).mono ?_
               rintro e y2 ⟨rfl, h2⟩
               have E2 : Hid (Below Z.heap.size Z y2) := Lib.hid (E1.out.trans (h2.mono E1.out.size))
               obtain ⟨k0c, k1c⟩ := CF.out y2 (B0.out y2 E2.out).2
               obtain ⟨r0c, r1c, r2c, r3c, r4c⟩ := RC.out y2 E2.out
               obtain ⟨e0c, e1c, e2c, e3c, e4c, e5c, e6c⟩ := EC.out y2 E2.out
               clear h2))
          go_wp2_with fail
          go_meet
          exact ⟨rfl, E2⟩
        obtain ⟨rfl, E7⟩ := hcut
        clear RK
        cases cb with
        | false =>
          have NX : Hid (msum (hs.take (k + 1)) X = A) := Lib.hid (by rw [AE.out.2, MI.out]; simp)
          go_wp2_with fail
          go_roundg (nh - (k + 1))
          case measure => have := GL.out; omega
          case rel => exact ⟨k + 1, by omega, rfl, by rw [NX.out], by go_num, E7⟩
        | true =>
          obtain ⟨us, hus⟩ : ∃ us, us = usesL ho.ps := ⟨_, rfl⟩
          have NX : Hid (msum (hs.take (k + 1)) X = A + amt us xr ∧ (∀ q, 0 ≤ amt (us.take q) xr ∧ amt (us.take q) xr ≤ amt us xr) ∧ us.length ≤ 4000000 ∧ 0 ≤ A ∧ A + amt us xr ≤ MX) := Lib.hid (by
            have uo := uses_ok YZ.out.z
            rw [← hus] at uo
            have e1 : msum (hs.take (k + 1)) X = A + amt us xr := by rw [AE.out.2, MI.out, if_pos rfl, hus]
            refine ⟨e1, fun q => ⟨amt_nn (fun u hu => (uo.2 u (List.mem_of_mem_take hu)).2.1) _, amt_take (fun u hu => (uo.2 u hu).2.1) _ q⟩, uo.1, ?_, ?_⟩
            · rw [AE.out.1]; exact (CX.out.h k).1
            · rw [← e1]
              have a1 := CX.out.h (k + 1)
              have a2 := CX.out.t
              have a3 := CX.out.m
              have a4 := CX.out.n
              omega)
          have OC := Lib.hid (OWY.out _ E7.out)
          obtain ⟨k0a, k1a⟩ := CF.out _ (B0.out _ E7.out).2
          obtain ⟨r0a, r1a, r2a, r3a, r4a⟩ := RC.out _ E7.out
          obtain ⟨e0a, e1a, e2a, e3a, e4a, e5a, e6a⟩ := EC.out _ E7.out
          go_wp2_with fail
          refine OC.out.mono ?_
          rintro e y1 ⟨za, zc, zb, zd, rfl, h1⟩
          have R1 := Lib.hid h1.out.1
          have E1 : Hid (Below Z.heap.size Z y1) := Lib.hid (E7.out.trans (h1.out.2.mono E7.out.size))
          have UC := Lib.hid (USY.out y1 za zc zb zd R1.out)
          clear h1 OC k0a k1a r0a r1a r2a r3a r4a e0a e1a e2a e3a e4a e5a e6a
          go_wp2_with fail
          refine UC.out.mono ?_
          rintro e y2 ⟨ua, un, uc, rfl, h2⟩
          have R2 := Lib.hid h2.out.1
          rw [← hus] at R2
          have E2 : Hid (Below Z.heap.size Z y2) := Lib.hid (E1.out.trans (h2.out.2.mono E1.out.size))
          obtain ⟨ua', uc', eu, _, _⟩ := R2.out.len
          simp only [Value.slice.injEq] at eu
          have UN : Hid (un = us.length) := Lib.hid eu.2.1
          have unb : un ≤ 4000000 := by rw [UN.out]; exact NX.out.2.2.1
          clear eu h2 UC hus
          go_wp2_with fail
          go_loopg [14, 18] un (fun gk s14 s18 wr => ∃ (q : Nat), q ≤ un ∧ gk = un - q ∧ s14 = .int .i64 (A + amt (us.take q) xr) ∧ s18 = .int .i64 q ∧ Hid (Below y2.heap.size y2 wr))
          case atStart => exact ⟨0, Nat.zero_le _, rfl, by simp [amt], rfl, Lib.hid (Below.refl _ _)⟩
          case round =>
            obtain ⟨q, hq, hg, rfl, rfl, RQ⟩ := hrel
            have GQ : Hid (gk = un - q) := Lib.hid hg
            clear hg
            by_cases hqt : q < un
            case neg =>
              have hq' : ¬ (q : Int) < (un : Int) := by omega
              have e : us.take q = us := List.take_of_length_le (by rw [← UN.out]; omega)
              have FI : Hid (Below Z.heap.size Z wr ∧ amt (us.take q) xr = amt us xr) := Lib.hid ⟨E2.out.trans (RQ.out.mono E2.out.size), by rw [e]⟩
              clear e RQ
              go_wp2_with fail
              go_roundg (nh - (k + 1))
              case measure => have := GL.out; omega
              case rel => exact ⟨k + 1, by omega, rfl, by rw [NX.out.1, FI.out.2], by go_num, Lib.hid FI.out.1⟩
            have hq' : (q : Int) < (un : Int) := by omega
            have hql : q < us.length := by rw [← UN.out]; exact hqt
            have ER : Hid (Below Z.heap.size Z wr) := Lib.hid (E2.out.trans (RQ.out.mono E2.out.size))
            obtain ⟨gu, ou, rfl, pcs⟩ := (R2.out.below RQ.out).at q hql
            have SQ := Lib.hid (amt_snoc hql xr)
            obtain ⟨u, hu⟩ : ∃ u, u = us[q] := ⟨_, rfl⟩
            have ex : us.getD q kAm.z = u := by rw [List.getD_eq_getElem?_getD, List.getElem?_eq_getElem hql, hu]; rfl
            rw [ex] at pcs
            rw [← hu] at SQ
            obtain ⟨un', uv⟩ := u
            have c0 : wr.cell? ⟨gu, ou + q * 2, none⟩ = some (.string un') := pcs 0 _ rfl
            have c1 : wr.cell? ⟨gu, ou + q * 2 + 1, none⟩ = some (.int .i64 uv) := pcs 1 _ rfl
            obtain ⟨r0, r1, r2, r3, r4⟩ := RC.out wr ER.out
            obtain ⟨T, hT⟩ : ∃ T, T = amt (us.take q) xr := ⟨_, rfl⟩
            have TE : Hid (T = amt (us.take q) xr) := Lib.hid hT
            rw [← hT]
            clear hu ex pcs hT
            have BQ : Hid (Below y2.heap.size y2 (wr.drew) → True) := Lib.hid fun _ => trivial
            by_cases h1 : un' = xr
            case neg =>
              have q1 := teq_no h1
              have NQ : Hid (amt (us.take (q + 1)) xr = T) := Lib.hid (by rw [SQ.out, if_neg h1, TE.out]; simp)
              clear h1
              go_wp2_with fail
              go_quiet (fail)
              go_wp2_with fail
              go_roundg (un - (q + 1))
              case measure => have := GQ.out; omega
              case rel => exact ⟨q + 1, by omega, rfl, by rw [NQ.out], by go_num, Lib.hid (RQ.out.trans ((below_drawn wr _).mono RQ.out.size))⟩
            have q1 : (un'.toList == xr.toList) = true := by rw [h1]; exact beq_self_eq_true _
            have NQ : Hid (amt (us.take (q + 1)) xr = T + uv) := Lib.hid (by rw [SQ.out, if_pos h1, TE.out])
            clear h1
            have wv : IntKind.i64.wrap (A + T + uv) = A + (T + uv) := by
              rw [IntKind.wrap_i64]
              have a1 := NX.out.2.1 (q + 1)
              have a2 := NX.out.2.2.2.1
              have a3 := NX.out.2.2.2.2
              rw [NQ.out] at a1
              unfold MX at a3
              omega
            have wv2 : wrap64 (A + T + uv) = A + (T + uv) := by unfold wrap64; rw [IntKind.wrap_i64] at wv; exact wv
            have c1' : (redrawn wr (wr.drawn + 1)).cell? ⟨gu, ou + q * 2 + 1, none⟩ = some (.int .i64 uv) := c1
            have c1d : wr.drew.cell? ⟨gu, ou + q * 2 + 1, none⟩ = some (.int .i64 uv) := c1
            go_wp2_with fail
            go_quiet (fail)
            go_wp2_with fail
            go_roundg (un - (q + 1))
            case measure => have := GQ.out; omega
            case rel => exact ⟨q + 1, by omega, rfl, by rw [NQ.out], by go_num, Lib.hid (RQ.out.trans ((below_drawn wr _).mono RQ.out.size))⟩
    obtain ⟨rfl, BM⟩ := hcut
    obtain ⟨MV, hMV⟩ : ∃ A, A = msum hs X := ⟨_, rfl⟩
    have SUM : Hid (RS + MV = xv ∧ 0 ≤ xv ∧ xv ≤ MX) := Lib.hid (by
      have a2 := CX.out.t
      have a3 := UO.out.e
      have a4 := UO.out.p
      have a5 := UO.out.m
      rw [XE.out] at a2 hMV
      have a6 := RSE.out
      rw [XE.out] at a6
      simp only at a3 a4 a5
      omega)
    rw [← hMV]
    clear hMV
    have wv : IntKind.i64.wrap (RS + MV) = xv := by
      rw [SUM.out.1, IntKind.wrap_i64]
      have := SUM.out.2
      unfold MX at this
      omega
    have wv2 : wrap64 (RS + MV) = xv := by unfold wrap64; rw [IntKind.wrap_i64] at wv; exact wv
    have ne : (xv != xv) = false := bne_self_eq_false _
    obtain ⟨r0, r1, r2, r3, r4⟩ := RC.out _ BM.out
    have FB : Hid (Below w2.heap.size w2 wc) := Lib.hid (B0.out _ BM.out).1
    go_wp2_with fail
    go_roundg (ns - (i + 1))
    case measure => have := GK.out; omega
    case rel => exact ⟨i + 1, by omega, rfl, by go_num, FB⟩
end Le
theorem ledgerClimbs_walk (v : Value) (l : List Le.OpL) (w : World) (G : Le.Gl w) (b0 : Le.OpsAt w v l) (s0 : Le.OzO l) :
    Calls Tryz.prog 5 #[v] w fun e w' => e = .returned (.bool true) ∧ Below w.heap.size w w' := Le.climbs_walk v l w G b0 s0
namespace Le
end Le
end Go.Proofs.YtodfmnbfbndkhaaGreatDoor
end S2
