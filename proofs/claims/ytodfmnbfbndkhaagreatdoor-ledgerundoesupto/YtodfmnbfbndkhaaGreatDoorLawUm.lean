/-
  LeUn, LawUndoes, joined.
-/
import Derived.Test.YtodfmnbfbndkhaaGreatDoorLeStp
section S0
namespace Go.Proofs.YtodfmnbfbndkhaaGreatDoor
open Go.RowKit Go.Sort
namespace Le
variable {w0 w w1 W W' : World} {bb t b n cc t' b' n' : Nat} {D D' : DataW Unit} {f g : Ky → Int} {hv hu : Value} {rs rc : List Rb}
theorem own_kept {α : Type} {K : Kd α} {B : Nat} {F : Nat → Prop} {v : Value} {l : List α} (H : OwnR K B W v l) (hk : Kept F W W') (hf : ∀ y, v.ownBlock = some y → ¬ F y) : OwnR K B W' v l := by
  obtain ⟨h1, h | ⟨g, cap, cur, hv, hB, hg, hr⟩⟩ := H
  · exact ⟨h1, .inl h⟩
  · subst hv
    exact ⟨h1, .inr ⟨g, cap, cur, rfl, hB, (hk.block g (lt_of_some hg) (hf g rfl)).trans hg, hr⟩⟩
theorem Bm.fr_ty (h : Bm w0 bb t b n D f hv rs W) {y : Nat} {cs : Array Value} {ty : TypeId} (hy : W.heap[y]? = some (.cells cs ty (0, 0))) (h1 : ty ≠ 48) (h2 : ty ≠ 25) : ¬ Fr b bb hv y := by
  rintro (e | e | e)
  · obtain ⟨es, c, q, _⟩ := h.lv.ld.m
    rw [e, q] at hy
    simp at hy
  · rw [e, h.bx] at hy
    simp only [Option.some.injEq, Obj.cells.injEq] at hy
    exact h1 hy.2.1.symm
  · obtain ⟨cs', m', q⟩ := h.ls.r.ty y e.symm
    rw [q] at hy
    simp only [Option.some.injEq, Obj.cells.injEq] at hy
    exact h2 hy.2.1.symm
theorem own_frk {α : Type} {K : Kd α} {B : Nat} {v : Value} {l : List α} (H : OwnR K B W v l) (h : Bm w0 bb t b n D f hv rs W) (hk : Kept (Fr b bb hv) W W') (h1 : K.t ≠ 48) (h2 : K.t ≠ 25) : OwnR K B W' v l :=
  own_kept H hk (fun y e => by
    obtain ⟨h1', h0 | ⟨g, cap, cur, hv', hB, hg, hr⟩⟩ := H
    · rw [h0.1] at e; exact absurd e (by simp [Value.ownBlock])
    · subst hv'
      have : g = y := Option.some.inj e
      subst this
      exact h.fr_ty hg h1 h2)
/-- What a step on the one book leaves of the other. -/
theorem Bm.other (h : Bm w0 cc t' b' n' D' g hu rc W) (k : Bm w0 bb t b n D f hv rs W) (hk : Kept (Fr b bb hv) W W') (hb : Below w0.heap.size w0 W') (nb : b' ≠ b) (nc : cc ≠ bb) (na : ∀ y, hu.ownBlock = some y → hv.ownBlock ≠ some y) : Bm w0 cc t' b' n' D' g hu rc W' := by
  have nt : ¬ Fr b bb hv t' := k.fr_ty h.lv.ld.t (by decide) (by decide)
  have nm : ¬ Fr b bb hv b' := by
    rintro (e | e | e)
    · exact nb e
    · obtain ⟨es, c, q, _⟩ := h.lv.ld.m
      rw [e, k.bx] at q
      simp at q
    · obtain ⟨es, c, q, _⟩ := h.lv.ld.m
      obtain ⟨cs', m', q'⟩ := k.ls.r.ty b' e.symm
      rw [q] at q'
      simp at q'
  have nx : ¬ Fr b bb hv cc := by
    rintro (e | e | e)
    · obtain ⟨es, c, q, _⟩ := k.lv.ld.m
      have := h.bx
      rw [e, q] at this
      simp at this
    · exact nc e
    · obtain ⟨cs', m', q'⟩ := k.ls.r.ty cc e.symm
      have := h.bx
      rw [q'] at this
      simp [kOb] at this
  refine ⟨⟨h.lv.ld.kept hk nt nm, h.lv.rep, h.lv.vf, hb, h.lv.t0, h.lv.b0, h.gl.below hb⟩, (hk.block cc (lt_of_some h.bx) nx).trans h.bx, ⟨?_, fun x hx => ?_⟩, h.bb0, h.gl⟩
  · refine own_kept h.ls.r hk (fun y e => ?_)
    rintro (q | q | q)
    · obtain ⟨es, c, r, _⟩ := k.lv.ld.m
      obtain ⟨cs', m', r'⟩ := h.ls.r.ty y e
      rw [q, r] at r'
      simp at r'
    · obtain ⟨cs', m', r'⟩ := h.ls.r.ty y e
      rw [q, k.bx] at r'
      simp [kOb] at r'
    · exact na y e q.symm
  · obtain ⟨h1, rs', h2, h3⟩ := h.ls.o x hx
    exact ⟨own_frk h1 k hk (by decide) (by decide), rs', own_frk h2 k hk (by decide) (by decide), h3.1, fun i hi => ⟨(h3.2 i hi).1, own_frk (h3.2 i hi).2.1 k hk (by decide) (by decide), own_frk (h3.2 i hi).2.2 k hk (by decide) (by decide)⟩⟩
theorem Bk.other (h : Bk w0 cc t' b' n' D' hu rc W) (k : Bk w0 bb t b n D hv rs W) (hk : Kept (Fr b bb hv) W W') (hb : Below w0.heap.size w0 W') (nb : b' ≠ b) (nc : cc ≠ bb) (na : ∀ y, hu.ownBlock = some y → hv.ownBlock ≠ some y) : Bk w0 cc t' b' n' D' hu rc W' :=
  ⟨h.m.other k.m hk hb nb nc na, h.hs, h.oz, h.len⟩
/-- Two books beside each other. -/
def Tb (w0 : World) (bb t b cc t' b' : Nat) (hs hc : List Ob) (N : Nat) (W : World) : Prop :=
  ∃ n D hv rs n' D' hu rc, Bk w0 bb t b n D hv rs W ∧ Bk w0 cc t' b' n' D' hu rc W ∧ rs.map (·.1) = hs ∧ rc.map (·.1) = hc ∧ n ≤ N ∧ n' ≤ N ∧ b' ≠ b ∧ cc ≠ bb ∧ (∀ y, hu.ownBlock = some y → hv.ownBlock ≠ some y)
theorem Tb.below {hs hc : List Ob} {N : Nat} (h : Tb w0 bb t b cc t' b' hs hc N W) (hb : Below W.heap.size W W') : Tb w0 bb t b cc t' b' hs hc N W' := by
  obtain ⟨n, D, hv, rs, n', D', hu, rc, h1, h2, h3⟩ := h
  exact ⟨n, D, hv, rs, n', D', hu, rc, h1.below hb, h2.below hb, h3⟩
theorem Tb.bel {hs hc : List Ob} {N : Nat} (h : Tb w0 bb t b cc t' b' hs hc N W) : Below w0.heap.size w0 W := by
  obtain ⟨n, D, hv, rs, n', D', hu, rc, h1, _⟩ := h
  exact h1.m.lv.bel
theorem Bm.own_lt (h : Bm w0 bb t b n D f hv rs W) {y : Nat} (e : hv.ownBlock = some y) : y < W.heap.size := by
  obtain ⟨cs, m, q⟩ := h.ls.r.ty y e
  exact lt_of_some q
theorem Tb.flip {hs hc : List Ob} {N : Nat} (h : Tb w0 bb t b cc t' b' hs hc N W) : Tb w0 cc t' b' bb t b hc hs N W := by
  obtain ⟨n, D, hv, rs, n', D', hu, rc, h1, h2, h3, h4, h5, h6, h7, h8, h9⟩ := h
  exact ⟨n', D', hu, rc, n, D, hv, rs, h2, h1, h4, h3, h6, h5, h7.symm, h8.symm, fun y e q => h9 y q e⟩
/-- A step on the first of two books. -/
theorem Tb.step {hs hc : List Ob} {N : Nat} (h : Tb w0 bb t b cc t' b' hs hc N W) (x : OpL) (ho : ObV W x.o.2.1.v x.o.2.2.v x.o.1) (hz : Ozz x.o.1) (hN : N ≤ 1500000000000) :
    Calls Tryz.prog 15 #[.pointer (some ⟨bb, 0, none⟩), .agg (OpL.c x).toArray] W fun e W' => e = .returned (.bool true) ∧ Tb w0 bb t b cc t' b' (stp hs x.k x.o.1) hc (N + 432000000) W' := by
  obtain ⟨n, D, hv, rs, n', D', hu, rc, h1, h2, rfl, h4, h5, h6, h7, h8, h9⟩ := h
  obtain ⟨a, c, rfl, _, _⟩ := (h1.m.ls.r.row okOb).len
  obtain ⟨two, kind, ⟨⟨op, on, ols, opr, odl, ops, over⟩, ⟨la, ln, lc⟩, ⟨pa, pn, pc⟩⟩, ⟨⟨zp, zn, zls, zpr, zdl, zps, zv⟩, ⟨za, zb, zc⟩, ⟨zd, ze, zf⟩⟩, sk, sa, r⟩ := x
  refine (step_any two kind op on ols opr odl ops over la ln lc pa pn pc zp zn za zb zc zpr zdl zd ze zf zv sk sa r w0 W bb t b n D a rs.length c rs h1 ho hz (by omega)).mono ?_
  rintro e W' ⟨rfl, D3, n3, hv3, rs3, z1, z2, z3, z4, z5⟩
  refine ⟨rfl, n3, D3, hv3, rs3, n', D', hu, rc, z1, h2.other h1 z4 z1.m.lv.bel h7 h8 h9, z2, h4, by omega, by omega, h7, h8, fun y e q => ?_⟩
  rcases z5 y q with k | k
  · exact h9 y e k
  · have := h2.m.own_lt e
    omega
/-- The rows of sums. -/
def SF (f : Ky → Int) (S : List Ur) : Prop := ∃ D, Li D S ∧ Rep D f
theorem SF.one {S S' : List Ur} (h : SF f S) (h' : SF f S') : S = S' := by
  obtain ⟨D, h1, h2⟩ := h
  obtain ⟨D', h3, h4⟩ := h'
  exact rows_eq h1 h3 h2 h4
/-- Two ledgers apart, behind the world w1; the rows that were told. -/
structure Uu (w0 w1 : World) (t b t' b' : Nat) (f g : Ky → Int) (N : Nat) (L : List (Value × List Ur)) (W : World) : Prop where
  l : ∃ n D, Lv w0 W t b n D f ∧ n ≤ N
  r : ∃ n D, Lv w0 W t' b' n D g ∧ n ≤ N
  ne : b ≠ b'
  kq : Kq w1 W
  rows : ∀ p ∈ L, Row kUse W p.1 p.2
variable {N : Nat} {L : List (Value × List Ur)}
theorem Uu.below (h : Uu w0 w1 t b t' b' f g N L W) (hb : Below W.heap.size W W') : Uu w0 w1 t b t' b' f g N L W' := by
  obtain ⟨⟨n, D, h1, h2⟩, ⟨n', D', h3, h4⟩, h5, h6, h7⟩ := h
  exact ⟨⟨n, D, h1.below hb, h2⟩, ⟨n', D', h3.below hb, h4⟩, h5, h6.trans (Kq.of hb), fun p hp => (h7 p hp).below hb⟩
theorem Uu.turnB (h : Uu w0 w1 t b t' b' f g N L W) {M : Nat} {f' : Ky → Int} {n : Nat} {D : DataW Unit} (hl : Lv w0 W' t b n D f') (hn : n ≤ M) (hm : N ≤ M) (hk : Kept (fun y => y = b) W W') : Uu w0 w1 t b t' b' f' g M L W' := by
  obtain ⟨⟨n1, D1, h1, h2⟩, ⟨n', D', h3, h4⟩, h5, h6, h7⟩ := h
  exact ⟨⟨n, D, hl, hn⟩, ⟨n', D', h3.other h1 hk (fun e => h5 e.symm), Nat.le_trans h4 hm⟩, h5, h6.trans (h1.kq hk), fun p hp => row_kq (h7 p hp) (h1.kq hk)⟩
theorem Uu.turnC (h : Uu w0 w1 t b t' b' f g N L W) {M : Nat} {g' : Ky → Int} {n : Nat} {D : DataW Unit} (hl : Lv w0 W' t' b' n D g') (hn : n ≤ M) (hm : N ≤ M) (hk : Kept (fun y => y = b') W W') : Uu w0 w1 t b t' b' f g' M L W' := by
  obtain ⟨⟨n1, D1, h1, h2⟩, ⟨n', D', h3, h4⟩, h5, h6, h7⟩ := h
  exact ⟨⟨n1, D1, h1.other h3 hk h5, Nat.le_trans h2 hm⟩, ⟨n, D, hl, hn⟩, h5, h6.trans (h3.kq hk), fun p hp => row_kq (h7 p hp) (h3.kq hk)⟩
theorem Uu.push (h : Uu w0 w1 t b t' b' f g N L W) {v : Value} {S : List Ur} (hr : Row kUse W v S) : Uu w0 w1 t b t' b' f g N ((v, S) :: L) W :=
  ⟨h.l, h.r, h.ne, h.kq, fun p hp => by rcases List.mem_cons.1 hp with e | e; rw [e]; exact hr; exact h.rows p e⟩
theorem rowsB (h : Uu w0 w1 t b t' b' f g N L W) (hN : N ≤ 1900000000000) : Calls Tryz.prog 12 #[.pointer (some ⟨t, 0, none⟩)] W fun e W' => ∃ v S, e = .returned v ∧ SF f S ∧ Uu w0 w1 t b t' b' f g N ((v, S) :: L) W' := by
  obtain ⟨n, D, h1, h2⟩ := h.l
  refine (rows_lv h1 (by omega)).mono ?_
  rintro e W' ⟨v, S, rfl, k1, k2, hb⟩
  exact ⟨v, S, rfl, ⟨D, k2, h1.rep⟩, (h.below hb).push k1⟩
theorem rowsC (h : Uu w0 w1 t b t' b' f g N L W) (hN : N ≤ 1900000000000) : Calls Tryz.prog 12 #[.pointer (some ⟨t', 0, none⟩)] W fun e W' => ∃ v S, e = .returned v ∧ SF g S ∧ Uu w0 w1 t b t' b' f g N ((v, S) :: L) W' := by
  obtain ⟨n, D, h1, h2⟩ := h.r
  refine (rows_lv h1 (by omega)).mono ?_
  rintro e W' ⟨v, S, rfl, k1, k2, hb⟩
  exact ⟨v, S, rfl, ⟨D, k2, h1.rep⟩, (h.below hb).push k1⟩
theorem sameU (h : Uu w0 w1 t b t' b' f g N L W) {v v' : Value} {S : List Ur} (h1 : (v, S) ∈ L) (h2 : (v', S) ∈ L) : Calls Tryz.prog 13 #[v, v'] W fun e W' => e = .returned (.bool true) ∧ Uu w0 w1 t b t' b' f g N L W' := by
  refine (sameRows_yes v v' S W (h.rows _ h1) (h.rows _ h2)).mono ?_
  rintro e W' ⟨rfl, hb⟩
  exact ⟨rfl, h.below hb⟩
variable {o p : Ob} {la pa ma qa : Option Addr} {lc pc mc qc : Nat} {ls ps : Value}
theorem chargeB (h : Uu w0 w1 t b t' b' f g N L W) (hN : N ≤ 80000000000000) (hv : ObV W ls ps o) (hz : Ozz o) : Calls Tryz.prog 11 #[.pointer (some ⟨t, 0, none⟩), o.val ls ps] W fun e W' => e = .returned (.int .i64 (mvE true f o)) ∧ Uu w0 w1 t b t' b' (mvF true f o) g (N + 144000000) L W' := by
  obtain ⟨n, D, h1, h2⟩ := h.l
  refine (charge_lvk o ls ps h1 hv hz.z hz.p (by omega)).mono ?_
  rintro e W' ⟨D', n', rfl, k2, k3, k4⟩
  exact ⟨rfl, h.turnB k2 (by have := sh_len o hz.z; omega) (by omega) k3⟩
theorem chargeC (h : Uu w0 w1 t b t' b' f g N L W) (hN : N ≤ 80000000000000) (hv : ObV W ls ps o) (hz : Ozz o) : Calls Tryz.prog 11 #[.pointer (some ⟨t', 0, none⟩), o.val ls ps] W fun e W' => e = .returned (.int .i64 (mvE true g o)) ∧ Uu w0 w1 t b t' b' f (mvF true g o) (N + 144000000) L W' := by
  obtain ⟨n, D, h1, h2⟩ := h.r
  refine (charge_lvk o ls ps h1 hv hz.z hz.p (by omega)).mono ?_
  rintro e W' ⟨D', n', rfl, k2, k3, k4⟩
  exact ⟨rfl, h.turnC k2 (by have := sh_len o hz.z; omega) (by omega) k3⟩
theorem releaseB (h : Uu w0 w1 t b t' b' f g N L W) (hN : N ≤ 80000000000000) (hv : ObV W ls ps o) (hz : Ozz o) : Calls Tryz.prog 14 #[.pointer (some ⟨t, 0, none⟩), o.val ls ps] W fun e W' => e = .returned (.int .i64 (mvE false f o)) ∧ Uu w0 w1 t b t' b' (mvF false f o) g (N + 144000000) L W' := by
  obtain ⟨n, D, h1, h2⟩ := h.l
  refine (release_lvk o ls ps h1 hv hz.z hz.p (by omega)).mono ?_
  rintro e W' ⟨D', n', rfl, k2, k3, k4⟩
  exact ⟨rfl, h.turnB k2 (by have := sh_len o hz.z; omega) (by omega) k3⟩
theorem releaseC (h : Uu w0 w1 t b t' b' f g N L W) (hN : N ≤ 80000000000000) (hv : ObV W ls ps o) (hz : Ozz o) : Calls Tryz.prog 14 #[.pointer (some ⟨t', 0, none⟩), o.val ls ps] W fun e W' => e = .returned (.int .i64 (mvE false g o)) ∧ Uu w0 w1 t b t' b' f (mvF false g o) (N + 144000000) L W' := by
  obtain ⟨n, D, h1, h2⟩ := h.r
  refine (release_lvk o ls ps h1 hv hz.z hz.p (by omega)).mono ?_
  rintro e W' ⟨D', n', rfl, k2, k3, k4⟩
  exact ⟨rfl, h.turnC k2 (by have := sh_len o hz.z; omega) (by omega) k3⟩
theorem changeB (h : Uu w0 w1 t b t' b' f g N L W) (hN : N ≤ 80000000000000) (hv : ObV W (.slice la o.ls.length lc) (.slice pa o.ps.length pc) o) (hv2 : ObV W (.slice ma p.ls.length mc) (.slice qa p.ps.length qc) p) (hz : Ozz o) (hz2 : Ozz p) :
    Calls Tryz.prog 16 #[.pointer (some ⟨t, 0, none⟩), o.val (.slice la o.ls.length lc) (.slice pa o.ps.length pc), p.val (.slice ma p.ls.length mc) (.slice qa p.ps.length qc)] W fun e W' => e = .returned (.int .i64 (chE f o p)) ∧ Uu w0 w1 t b t' b' (chG f o p) g (N + 432000000) L W' := by
  obtain ⟨n, D, h1, h2⟩ := h.l
  refine (change_lvk o p la lc pa pc ma mc qa qc h1 hv hv2 hz.z hz.p hz2.z hz2.p (by omega)).mono ?_
  rintro e W' ⟨D', n', rfl, k2, k3, k4⟩
  exact ⟨rfl, h.turnB k2 (by omega) (by omega) k3⟩
end Le
end Go.Proofs.YtodfmnbfbndkhaaGreatDoor
end S0

section S1
namespace Go.Proofs.YtodfmnbfbndkhaaGreatDoor
open Go.RowKit Go.Sort
namespace Le
theorem size_op {x : OpL} : (Tryz.prog.info? 51).map (·.size) = some (OpL.c x).length := by kernel_rfl
set_option maxHeartbeats 16000000 in
set_option maxRecDepth 100000 in
theorem undoes_walk (v : Value) (l : List OpL) (o p : Ob) (ls ps ls2 ps2 : Value) (w : World) (G : Gl w) (HO : OpsAt w v l) (HZ : OzO l) (hv : ObV w ls ps o) (hz : Ozz o) (hv2 : ObV w ls2 ps2 p) (hz2 : Ozz p) :
    Calls Tryz.prog 4 #[v, o.val ls ps, p.val ls2 ps2] w fun e w' => e = .returned (.bool true) ∧ Below w.heap.size w w' := by
  have GG := Lib.hid G
  have OB := Lib.hid HO
  have OZ := Lib.hid HZ
  have V1 := Lib.hid hv
  have V2 := Lib.hid hv2
  have Z1 := Lib.hid hz
  have Z2 := Lib.hid hz2
  obtain ⟨sa, sc, rfl, hls, hcs⟩ := HO.r.len
  obtain ⟨la, lc, rfl, _, _⟩ := hv.l.len
  obtain ⟨pa, pc, rfl, _, _⟩ := hv.p.len
  obtain ⟨ma, mc, rfl, _, _⟩ := hv2.l.len
  obtain ⟨qa, qc, rfl, _, _⟩ := hv2.p.len
  obtain ⟨m, hm⟩ : ∃ m, m = l.length := ⟨_, rfl⟩
  have M := Lib.hid hm
  rw [← hm] at OB hls ⊢
  have ML : Hid (m ≤ maxLen) := Lib.hid (Nat.le_trans hls hcs)
  clear G HO HZ hv hz hv2 hz2 hm hls hcs
  obtain ⟨g4, hg4⟩ : ∃ g, g = w.heap.size := ⟨_, rfl⟩
  obtain ⟨X, hX⟩ : ∃ X, X = (w.alloc (.cells #[.string o.p, .string o.n, .slice la o.ls.length lc, .int .i64 o.pr, .int .i64 o.dl, .slice pa o.ps.length pc, .int .i64 o.ver] 25)).alloc (.cells #[.string p.p, .string p.n, .slice ma p.ls.length mc, .int .i64 p.pr, .int .i64 p.dl, .slice qa p.ps.length qc, .int .i64 p.ver] 25) := ⟨_, rfl⟩
  have BX : Hid (Below w.heap.size w X ∧ X.heap[g4]? = some (.cells #[.string o.p, .string o.n, .slice la o.ls.length lc, .int .i64 o.pr, .int .i64 o.dl, .slice pa o.ps.length pc, .int .i64 o.ver] 25 (0, 0)) ∧ X.heap[g4 + 1]? = some (.cells #[.string p.p, .string p.n, .slice ma p.ls.length mc, .int .i64 p.pr, .int .i64 p.dl, .slice qa p.ps.length qc, .int .i64 p.ver] 25 (0, 0))) := Lib.hid (by
    rw [hX, hg4]
    obtain ⟨Y, hY⟩ : ∃ Y, Y = w.alloc (.cells #[.string o.p, .string o.n, .slice la o.ls.length lc, .int .i64 o.pr, .int .i64 o.dl, .slice pa o.ps.length pc, .int .i64 o.ver] 25) := ⟨_, rfl⟩
    have hs : Y.heap.size = w.heap.size + 1 := by rw [hY]; simp
    have h0 : Y.heap[w.heap.size]? = some (.cells #[.string o.p, .string o.n, .slice la o.ls.length lc, .int .i64 o.pr, .int .i64 o.dl, .slice pa o.ps.length pc, .int .i64 o.ver] 25 (0, 0)) := by rw [hY]; exact heap_alloc_new _ _
    rw [← hY]
    refine ⟨?_, ?_, ?_⟩
    · rw [hY]; exact ((Below.refl _ _).alloc (Nat.le_refl _) _).alloc (by simp) _
    · rw [Below.heap_alloc _ _ _ (by omega)]; exact h0
    · rw [← hs]; exact heap_alloc_new _ _)
  have GX : Hid (Gl X) := Lib.hid (GG.out.below BX.out.1)
  have LA : Hid (∀ W, Below X.heap.size X W → Calls Tryz.prog 9 #[] W fun e w' => ∃ t b n D, e = .returned (.pointer (some ⟨t, 0, none⟩)) ∧ Hid (Lv X w' t b n D (fun _ => 0) ∧ n ≤ 48 ∧ W.heap.size ≤ b ∧ Below W.heap.size W w')) := Lib.hid fun W hb => by
    refine (lives_any W (GX.out.below hb)).mono ?_
    rintro e w' ⟨t, b, n, D, rfl, h1, h2⟩
    exact ⟨t, b, n, D, rfl, Lib.hid ⟨h1.base hb, h2, h1.b0, h1.bel⟩⟩
  have DR : Hid (∀ W : World, Below W.heap.size W W.drew) := Lib.hid fun W => (Below.refl _ W).drew
  have hX' := hX.symm
  have hg4' := hg4.symm
  clear hX hg4
  unfold Ob.val
  go_enter Tryz.func4, Tryz.ntmps4
  go_wp2_with fail
  refine (LA.out _ (Below.refl _ _)).mono ?_
  rintro e w1 ⟨ta, ba, na, Da, rfl, A1⟩
  obtain ⟨c1, hc1⟩ : ∃ c, c = w1.heap.size := ⟨_, rfl⟩
  obtain ⟨Y1, hY1⟩ : ∃ Y, Y = w1.alloc (.cells #[.pointer (some ⟨ta, 0, none⟩), .slice none 0 0] 48) := ⟨_, rfl⟩
  have T1 : Hid (Bk X c1 ta ba na Da (.slice none 0 0) [] Y1 ∧ Below X.heap.size X Y1 ∧ na ≤ 48) := Lib.hid (by
    have b1 : Below w1.heap.size w1 Y1 := by rw [hY1]; exact (Below.refl _ _).alloc (Nat.le_refl _) _
    refine ⟨⟨⟨A1.out.1.below b1, by rw [hY1, hc1]; exact heap_alloc_new _ _, LsAt.nil, by rw [hc1]; exact A1.out.1.bel.size, GX.out⟩, Hs.nil, fun x hx => by simp at hx, by simp⟩, A1.out.2.2.2.trans (b1.mono A1.out.2.2.2.size), A1.out.2.1⟩)
  have L1 : Hid (ba < Y1.heap.size ∧ c1 < Y1.heap.size) := Lib.hid ⟨T1.out.1.m.lv.ld.m.lt, lt_of_some T1.out.1.m.bx⟩
  have hY1' := hY1.symm
  have hc1' := hc1.symm
  clear hY1 hc1
  go_wp2_with fail
  refine (LA.out _ T1.out.2.1).mono ?_
  rintro e w2 ⟨tb, bb, nb, Db, rfl, A2⟩
  obtain ⟨c2, hc2⟩ : ∃ c, c = w2.heap.size := ⟨_, rfl⟩
  obtain ⟨Y2, hY2⟩ : ∃ Y, Y = w2.alloc (.cells #[.pointer (some ⟨tb, 0, none⟩), .slice none 0 0] 48) := ⟨_, rfl⟩
  have T2 : Hid (Tb X c1 ta ba c2 tb bb [] [] 48 Y2 ∧ Below X.heap.size X Y2 ∧ Y2.cell? ⟨c1, 0, none⟩ = some (.pointer (some ⟨ta, 0, none⟩)) ∧ Y2.cell? ⟨c2, 0, none⟩ = some (.pointer (some ⟨tb, 0, none⟩))) := Lib.hid (by
    have b1 : Below w2.heap.size w2 Y2 := by rw [hY2]; exact (Below.refl _ _).alloc (Nat.le_refl _) _
    have b2 : Below Y1.heap.size Y1 Y2 := A2.out.2.2.2.trans (b1.mono A2.out.2.2.2.size)
    have k1 := T1.out.1.below b2
    have k2 : Bk X c2 tb bb nb Db (.slice none 0 0) [] Y2 := ⟨⟨A2.out.1.below b1, by rw [hY2, hc2]; exact heap_alloc_new _ _, LsAt.nil, by rw [hc2]; exact A2.out.1.bel.size, GX.out⟩, Hs.nil, fun x hx => by simp at hx, by simp⟩
    refine ⟨⟨na, Da, _, [], nb, Db, _, [], k1, k2, rfl, rfl, T1.out.2.2, A2.out.2.1, ?_, ?_, fun y e => by simp [Value.ownBlock] at e⟩, T1.out.2.1.trans (b2.mono T1.out.2.1.size), k1.m.c0, k2.m.c0⟩
    · have := A2.out.2.2.1
      have := L1.out.1
      omega
    · have := A2.out.2.2.2.size
      have := L1.out.2
      omega)
  have hY2' := hY2.symm
  have hc2' := hc2.symm
  clear hY2 hc2 A1 A2 T1 L1 LA
  have d1 := T2.out.2.2.1
  have d2 := T2.out.2.2.2
  go_upto_block 0 with fail
  clear hX' hg4' hY1' hc1' hY2' hc2' d1 d2
  go_cut [] (fun wx => ∃ hs N, Hid (Tb X c1 ta ba c2 tb bb hs hs N wx ∧ N ≤ 25920000048))
  case rest =>
    obtain ⟨hs, N0, RT⟩ := hcut
    obtain ⟨f, hf⟩ : ∃ f, f = tot hs := ⟨_, rfl⟩
    have FF : Hid ((∀ x, f x ≤ MX) ∧ (∀ x, 0 ≤ f x)) := Lib.hid (by
      obtain ⟨n, D, hv, rs, n', D', hu, rc, h1, h2, h3, h4, h5, h6, h7⟩ := RT.out.1
      have q := h1.m.lv.rep
      rw [h3] at q
      exact ⟨fun x => by rw [hf]; exact (q.rng x).2, fun x => by rw [hf]; exact (q.rng x).1⟩)
    have KW : Hid (Kq w wc) := Lib.hid (Kq.of (BX.out.1.trans (RT.out.1.bel.mono BX.out.1.size)))
    have CF : Hid (∀ W : World, Kq wc W → W.cell? ⟨c1, 0, none⟩ = some (.pointer (some ⟨ta, 0, none⟩)) ∧ W.cell? ⟨c2, 0, none⟩ = some (.pointer (some ⟨tb, 0, none⟩)) ∧ W.cell? ⟨g4, 0, none⟩ = some (.string o.p) ∧ W.cell? ⟨g4, 1, none⟩ = some (.string o.n) ∧ W.cell? ⟨g4, 2, none⟩ = some (.slice la o.ls.length lc) ∧ W.cell? ⟨g4, 3, none⟩ = some (.int .i64 o.pr) ∧ W.cell? ⟨g4, 4, none⟩ = some (.int .i64 o.dl) ∧ W.cell? ⟨g4, 5, none⟩ = some (.slice pa o.ps.length pc) ∧ W.cell? ⟨g4, 6, none⟩ = some (.int .i64 o.ver) ∧ W.cell? ⟨g4 + 1, 0, none⟩ = some (.string p.p) ∧ W.cell? ⟨g4 + 1, 1, none⟩ = some (.string p.n) ∧ W.cell? ⟨g4 + 1, 2, none⟩ = some (.slice ma p.ls.length mc) ∧ W.cell? ⟨g4 + 1, 3, none⟩ = some (.int .i64 p.pr) ∧ W.cell? ⟨g4 + 1, 4, none⟩ = some (.int .i64 p.dl) ∧ W.cell? ⟨g4 + 1, 5, none⟩ = some (.slice qa p.ps.length qc) ∧ W.cell? ⟨g4 + 1, 6, none⟩ = some (.int .i64 p.ver)) := Lib.hid fun W h => by
      obtain ⟨n, D, hv, rs, n', D', hu, rc, h1, h2, _⟩ := RT.out.1
      have e1 := h.bk _ _ _ _ h1.m.bx
      have e2 := h.bk _ _ _ _ h2.m.bx
      have e4 := h.bk _ _ _ _ ((RT.out.1.bel.block _ (lt_of_some BX.out.2.1)).trans BX.out.2.1)
      have e5 := h.bk _ _ _ _ ((RT.out.1.bel.block _ (lt_of_some BX.out.2.2)).trans BX.out.2.2)
      refine ⟨?_, ?_, ?_, ?_, ?_, ?_, ?_, ?_, ?_, ?_, ?_, ?_, ?_, ?_, ?_, ?_⟩ <;> first | (rw [cell_of_row _ _ _ _ _ _ e1]; rfl) | (rw [cell_of_row _ _ _ _ _ _ e2]; rfl) | (rw [cell_of_row _ _ _ _ _ _ e4]; rfl) | (rw [cell_of_row _ _ _ _ _ _ e5]; rfl)
    have U0 : Hid (Uu X wc ta ba tb bb f f 25920000048 [] wc) := Lib.hid (by
      obtain ⟨n, D, hv, rs, n', D', hu, rc, h1, h2, h3, h4, h5, h6, h7, h8, h9⟩ := RT.out.1
      have q1 := h1.m.lv
      have q2 := h2.m.lv
      rw [h3, ← hf] at q1
      rw [h4, ← hf] at q2
      have := RT.out.2
      exact ⟨⟨n, D, q1, by omega⟩, ⟨n', D', q2, by omega⟩, fun e => h7 e.symm, ⟨Nat.le_refl _, fun _ _ _ _ e => e⟩, fun p hp => by simp at hp⟩)
    have KB : Hid (∀ W f1 g N L, Uu X wc ta ba tb bb f1 g N L W → Below w.heap.size w W) := Lib.hid fun W f1 g N L h => by
      obtain ⟨n, D, h1, _⟩ := h.l
      exact BX.out.1.trans (h1.bel.mono BX.out.1.size)
    clear RT hf OB OZ GG M ML GX T2
    have OWo : Hid (∀ (W : World) (f1 g : Ky → Int) (N : Nat) (L : List (Value × List Ur)), Uu X wc ta ba tb bb f1 g N L W → Calls Tryz.prog 10 #[.agg #[.string o.p, .string o.n, .slice la o.ls.length lc, .int .i64 o.pr, .int .i64 o.dl, .slice pa o.ps.length pc, .int .i64 o.ver]] W fun e W' => ∃ xa xc xb xd, e = .returned (.agg #[.string o.p, .string o.n, .slice xa o.ls.length xc, .int .i64 o.pr, .int .i64 o.dl, .slice xb o.ps.length xd, .int .i64 o.ver]) ∧ Hid (OwO W.heap.size W' (.slice xa o.ls.length xc) (.slice xb o.ps.length xd) o ∧ Uu X wc ta ba tb bb f1 g N L W' ∧ Below W.heap.size W W')) := Lib.hid fun W f1 g N L h => by
      refine Calls.mono (own_any o _ _ W (ob_kq V1.out (KW.out.trans h.kq)) Z1.out.s) ?_
      rintro e W' ⟨xa, xc, xb, xd, rfl, h1, h2⟩
      exact ⟨xa, xc, xb, xd, rfl, Lib.hid ⟨h1, h.below h2, h2⟩⟩

    have OWp : Hid (∀ (W : World) (f1 g : Ky → Int) (N : Nat) (L : List (Value × List Ur)), Uu X wc ta ba tb bb f1 g N L W → Calls Tryz.prog 10 #[.agg #[.string p.p, .string p.n, .slice ma p.ls.length mc, .int .i64 p.pr, .int .i64 p.dl, .slice qa p.ps.length qc, .int .i64 p.ver]] W fun e W' => ∃ xa xc xb xd, e = .returned (.agg #[.string p.p, .string p.n, .slice xa p.ls.length xc, .int .i64 p.pr, .int .i64 p.dl, .slice xb p.ps.length xd, .int .i64 p.ver]) ∧ Hid (OwO W.heap.size W' (.slice xa p.ls.length xc) (.slice xb p.ps.length xd) p ∧ Uu X wc ta ba tb bb f1 g N L W' ∧ Below W.heap.size W W')) := Lib.hid fun W f1 g N L h => by
      refine Calls.mono (own_any p _ _ W (ob_kq V2.out (KW.out.trans h.kq)) Z2.out.s) ?_
      rintro e W' ⟨xa, xc, xb, xd, rfl, h1, h2⟩
      exact ⟨xa, xc, xb, xd, rfl, Lib.hid ⟨h1, h.below h2, h2⟩⟩

    have CBo : Hid (∀ (W : World) (f1 g f2 : Ky → Int) (N : Nat) (L : List (Value × List Ur)) (E : Int) (xa : Option Addr) (xc : Nat) (xb : Option Addr) (xd : Nat), Uu X wc ta ba tb bb f1 g N L W → N ≤ 80000000000000 → ObV W (.slice xa o.ls.length xc) (.slice xb o.ps.length xd) o → E = mvE true f1 o → f2 = mvF true f1 o → Calls Tryz.prog 11 #[.pointer (some ⟨ta, 0, none⟩), .agg #[.string o.p, .string o.n, .slice xa o.ls.length xc, .int .i64 o.pr, .int .i64 o.dl, .slice xb o.ps.length xd, .int .i64 o.ver]] W fun e W' => e = .returned (.int .i64 E) ∧ Hid (Uu X wc ta ba tb bb f2 g (N + 144000000) L W')) := Lib.hid fun W f1 g f2 N L E xa xc xb xd h hn hv hE hf => by
      rw [hE, hf]
      refine Calls.mono (chargeB h hn hv Z1.out) ?_
      rintro e W' ⟨rfl, h2⟩
      exact ⟨rfl, Lib.hid h2⟩

    have CCo : Hid (∀ (W : World) (f1 g g2 : Ky → Int) (N : Nat) (L : List (Value × List Ur)) (E : Int) (xa : Option Addr) (xc : Nat) (xb : Option Addr) (xd : Nat), Uu X wc ta ba tb bb f1 g N L W → N ≤ 80000000000000 → ObV W (.slice xa o.ls.length xc) (.slice xb o.ps.length xd) o → E = mvE true g o → g2 = mvF true g o → Calls Tryz.prog 11 #[.pointer (some ⟨tb, 0, none⟩), .agg #[.string o.p, .string o.n, .slice xa o.ls.length xc, .int .i64 o.pr, .int .i64 o.dl, .slice xb o.ps.length xd, .int .i64 o.ver]] W fun e W' => e = .returned (.int .i64 E) ∧ Hid (Uu X wc ta ba tb bb f1 g2 (N + 144000000) L W')) := Lib.hid fun W f1 g f2 N L E xa xc xb xd h hn hv hE hf => by
      rw [hE, hf]
      refine Calls.mono (chargeC h hn hv Z1.out) ?_
      rintro e W' ⟨rfl, h2⟩
      exact ⟨rfl, Lib.hid h2⟩

    have CCp : Hid (∀ (W : World) (f1 g g2 : Ky → Int) (N : Nat) (L : List (Value × List Ur)) (E : Int) (xa : Option Addr) (xc : Nat) (xb : Option Addr) (xd : Nat), Uu X wc ta ba tb bb f1 g N L W → N ≤ 80000000000000 → ObV W (.slice xa p.ls.length xc) (.slice xb p.ps.length xd) p → E = mvE true g p → g2 = mvF true g p → Calls Tryz.prog 11 #[.pointer (some ⟨tb, 0, none⟩), .agg #[.string p.p, .string p.n, .slice xa p.ls.length xc, .int .i64 p.pr, .int .i64 p.dl, .slice xb p.ps.length xd, .int .i64 p.ver]] W fun e W' => e = .returned (.int .i64 E) ∧ Hid (Uu X wc ta ba tb bb f1 g2 (N + 144000000) L W')) := Lib.hid fun W f1 g f2 N L E xa xc xb xd h hn hv hE hf => by
      rw [hE, hf]
      refine Calls.mono (chargeC h hn hv Z2.out) ?_
      rintro e W' ⟨rfl, h2⟩
      exact ⟨rfl, Lib.hid h2⟩

    have RBo : Hid (∀ (W : World) (f1 g f2 : Ky → Int) (N : Nat) (L : List (Value × List Ur)) (E : Int) (xa : Option Addr) (xc : Nat) (xb : Option Addr) (xd : Nat), Uu X wc ta ba tb bb f1 g N L W → N ≤ 80000000000000 → ObV W (.slice xa o.ls.length xc) (.slice xb o.ps.length xd) o → E = mvE false f1 o → f2 = mvF false f1 o → Calls Tryz.prog 14 #[.pointer (some ⟨ta, 0, none⟩), .agg #[.string o.p, .string o.n, .slice xa o.ls.length xc, .int .i64 o.pr, .int .i64 o.dl, .slice xb o.ps.length xd, .int .i64 o.ver]] W fun e W' => e = .returned (.int .i64 E) ∧ Hid (Uu X wc ta ba tb bb f2 g (N + 144000000) L W')) := Lib.hid fun W f1 g f2 N L E xa xc xb xd h hn hv hE hf => by
      rw [hE, hf]
      refine Calls.mono (releaseB h hn hv Z1.out) ?_
      rintro e W' ⟨rfl, h2⟩
      exact ⟨rfl, Lib.hid h2⟩

    have RBp : Hid (∀ (W : World) (f1 g f2 : Ky → Int) (N : Nat) (L : List (Value × List Ur)) (E : Int) (xa : Option Addr) (xc : Nat) (xb : Option Addr) (xd : Nat), Uu X wc ta ba tb bb f1 g N L W → N ≤ 80000000000000 → ObV W (.slice xa p.ls.length xc) (.slice xb p.ps.length xd) p → E = mvE false f1 p → f2 = mvF false f1 p → Calls Tryz.prog 14 #[.pointer (some ⟨ta, 0, none⟩), .agg #[.string p.p, .string p.n, .slice xa p.ls.length xc, .int .i64 p.pr, .int .i64 p.dl, .slice xb p.ps.length xd, .int .i64 p.ver]] W fun e W' => e = .returned (.int .i64 E) ∧ Hid (Uu X wc ta ba tb bb f2 g (N + 144000000) L W')) := Lib.hid fun W f1 g f2 N L E xa xc xb xd h hn hv hE hf => by
      rw [hE, hf]
      refine Calls.mono (releaseB h hn hv Z2.out) ?_
      rintro e W' ⟨rfl, h2⟩
      exact ⟨rfl, Lib.hid h2⟩

    have RCo : Hid (∀ (W : World) (f1 g g2 : Ky → Int) (N : Nat) (L : List (Value × List Ur)) (E : Int) (xa : Option Addr) (xc : Nat) (xb : Option Addr) (xd : Nat), Uu X wc ta ba tb bb f1 g N L W → N ≤ 80000000000000 → ObV W (.slice xa o.ls.length xc) (.slice xb o.ps.length xd) o → E = mvE false g o → g2 = mvF false g o → Calls Tryz.prog 14 #[.pointer (some ⟨tb, 0, none⟩), .agg #[.string o.p, .string o.n, .slice xa o.ls.length xc, .int .i64 o.pr, .int .i64 o.dl, .slice xb o.ps.length xd, .int .i64 o.ver]] W fun e W' => e = .returned (.int .i64 E) ∧ Hid (Uu X wc ta ba tb bb f1 g2 (N + 144000000) L W')) := Lib.hid fun W f1 g f2 N L E xa xc xb xd h hn hv hE hf => by
      rw [hE, hf]
      refine Calls.mono (releaseC h hn hv Z1.out) ?_
      rintro e W' ⟨rfl, h2⟩
      exact ⟨rfl, Lib.hid h2⟩

    have GOo : Hid (∀ (W : World) (f1 g f2 : Ky → Int) (N : Nat) (L : List (Value × List Ur)) (E : Int) (xa : Option Addr) (xc : Nat) (xb : Option Addr) (xd : Nat) (za : Option Addr) (zc : Nat) (zb : Option Addr) (zd : Nat), Uu X wc ta ba tb bb f1 g N L W → N ≤ 80000000000000 → ObV W (.slice xa o.ls.length xc) (.slice xb o.ps.length xd) o → ObV W (.slice za o.ls.length zc) (.slice zb o.ps.length zd) o → E = chE f1 o o → f2 = chG f1 o o → Calls Tryz.prog 16 #[.pointer (some ⟨ta, 0, none⟩), .agg #[.string o.p, .string o.n, .slice xa o.ls.length xc, .int .i64 o.pr, .int .i64 o.dl, .slice xb o.ps.length xd, .int .i64 o.ver], .agg #[.string o.p, .string o.n, .slice za o.ls.length zc, .int .i64 o.pr, .int .i64 o.dl, .slice zb o.ps.length zd, .int .i64 o.ver]] W fun e W' => e = .returned (.int .i64 E) ∧ Hid (Uu X wc ta ba tb bb f2 g (N + 432000000) L W')) := Lib.hid fun W f1 g f2 N L E xa xc xb xd za zc zb zd h hn hv hv2 hE hf => by
      rw [hE, hf]
      refine Calls.mono (changeB h hn hv hv2 Z1.out Z1.out) ?_
      rintro e W' ⟨rfl, h2⟩
      exact ⟨rfl, Lib.hid h2⟩

    have GOp : Hid (∀ (W : World) (f1 g f2 : Ky → Int) (N : Nat) (L : List (Value × List Ur)) (E : Int) (xa : Option Addr) (xc : Nat) (xb : Option Addr) (xd : Nat) (za : Option Addr) (zc : Nat) (zb : Option Addr) (zd : Nat), Uu X wc ta ba tb bb f1 g N L W → N ≤ 80000000000000 → ObV W (.slice xa o.ls.length xc) (.slice xb o.ps.length xd) o → ObV W (.slice za p.ls.length zc) (.slice zb p.ps.length zd) p → E = chE f1 o p → f2 = chG f1 o p → Calls Tryz.prog 16 #[.pointer (some ⟨ta, 0, none⟩), .agg #[.string o.p, .string o.n, .slice xa o.ls.length xc, .int .i64 o.pr, .int .i64 o.dl, .slice xb o.ps.length xd, .int .i64 o.ver], .agg #[.string p.p, .string p.n, .slice za p.ls.length zc, .int .i64 p.pr, .int .i64 p.dl, .slice zb p.ps.length zd, .int .i64 p.ver]] W fun e W' => e = .returned (.int .i64 E) ∧ Hid (Uu X wc ta ba tb bb f2 g (N + 432000000) L W')) := Lib.hid fun W f1 g f2 N L E xa xc xb xd za zc zb zd h hn hv hv2 hE hf => by
      rw [hE, hf]
      refine Calls.mono (changeB h hn hv hv2 Z1.out Z2.out) ?_
      rintro e W' ⟨rfl, h2⟩
      exact ⟨rfl, Lib.hid h2⟩

    clear V1 V2 BX KW
    obtain ⟨E1, hE1⟩ : ∃ E, E = mvE true f o := ⟨_, rfl⟩
    obtain ⟨E2, hE2⟩ : ∃ E, E = mvE true f p := ⟨_, rfl⟩
    obtain ⟨f1, hf1⟩ : ∃ q, q = mvF true f o := ⟨_, rfl⟩
    obtain ⟨f2, hf2⟩ : ∃ q, q = mvF true f p := ⟨_, rfl⟩
    have PE1 := Lib.hid hE1
    have PE2 := Lib.hid hE2
    have PF1 := Lib.hid hf1
    have PF2 := Lib.hid hf2
    have PB : Hid (E1 = 0 → mvE false f1 o = 0 ∧ mvF false f1 o = f) := Lib.hid fun h => by
      rw [hf1]
      exact mv_back Z1.out.z FF.out.2 (by rw [← hE1]; exact h)
    have PX : Hid (E1 = 0 → ∀ q, chE f1 o q = mvE true f q ∧ chG f1 o q = if mvE true f q = 0 then mvF true f q else f1) := Lib.hid fun h q => by
      obtain ⟨h1, h2⟩ := PB.out h
      have e : chE f1 o q = mvE true f q := by unfold chE; rw [if_neg (by rw [h1]; decide), h2]
      refine ⟨e, ?_⟩
      unfold chG
      rw [e, h2]
    have PQ : Hid (E2 = 0 → mvE false f2 p = 0 ∧ mvF false f2 p = f) := Lib.hid fun h => by
      rw [hf2]
      exact mv_back Z2.out.z FF.out.2 (by rw [← hE2]; exact h)
    clear hE1 hE2 hf1 hf2
    have R10 := Lib.hid (rowsB U0.out (by decide))
    obtain ⟨k10_0, k10_1, k10_2, k10_3, k10_4, k10_5, k10_6, k10_7, k10_8, k10_9, k10_10, k10_11, k10_12, k10_13, k10_14, k10_15⟩ := CF.out wc U0.out.kq
    go_wp2_with fail
    refine R10.out.mono ?_
    rintro e y10 ⟨v10, S0, rfl, q10, h10⟩
    have SF0 : Hid (SF f S0) := Lib.hid q10
    have U10 := Lib.hid h10
    clear h10 q10 R10 k10_0 k10_1 k10_2 k10_3 k10_4 k10_5 k10_6 k10_7 k10_8 k10_9 k10_10 k10_11 k10_12 k10_13 k10_14 k10_15
    have D11 := Lib.hid (U10.out.below (DR.out _))
    obtain ⟨d11_0, d11_1, d11_2, d11_3, d11_4, d11_5, d11_6, d11_7, d11_8, d11_9, d11_10, d11_11, d11_12, d11_13, d11_14, d11_15⟩ := CF.out _ D11.out.kq
    have M111 : True := trivial
    have M112 : True := trivial
    go_wp2_with fail
    go_region_held3 (fun W : World => W.cell? ⟨c1, 0, none⟩ = some (.pointer (some ⟨ta, 0, none⟩)) ∧ W.cell? ⟨c2, 0, none⟩ = some (.pointer (some ⟨tb, 0, none⟩)) ∧ W.cell? ⟨g4, 0, none⟩ = some (.string o.p) ∧ W.cell? ⟨g4, 1, none⟩ = some (.string o.n) ∧ W.cell? ⟨g4, 2, none⟩ = some (.slice la o.ls.length lc) ∧ W.cell? ⟨g4, 3, none⟩ = some (.int .i64 o.pr) ∧ W.cell? ⟨g4, 4, none⟩ = some (.int .i64 o.dl) ∧ W.cell? ⟨g4, 5, none⟩ = some (.slice pa o.ps.length pc) ∧ W.cell? ⟨g4, 6, none⟩ = some (.int .i64 o.ver) ∧ W.cell? ⟨g4 + 1, 0, none⟩ = some (.string p.p) ∧ W.cell? ⟨g4 + 1, 1, none⟩ = some (.string p.n) ∧ W.cell? ⟨g4 + 1, 2, none⟩ = some (.slice ma p.ls.length mc) ∧ W.cell? ⟨g4 + 1, 3, none⟩ = some (.int .i64 p.pr) ∧ W.cell? ⟨g4 + 1, 4, none⟩ = some (.int .i64 p.dl) ∧ W.cell? ⟨g4 + 1, 5, none⟩ = some (.slice qa p.ps.length qc) ∧ W.cell? ⟨g4 + 1, 6, none⟩ = some (.int .i64 p.ver)) (first | exact ⟨by assumption, by assumption, by assumption, by assumption, by assumption, by assumption, by assumption, by assumption, by assumption, by assumption, by assumption, by assumption, by assumption, by assumption, by assumption, by assumption⟩ | go_keep) (first
            | (go_at_call 10
               clear M111
               refine (OWo.out _ _ _ _ _ D11.out).mono ?_
               rintro e y111 ⟨x1a, x1c, x1b, x1d, rfl, h111⟩
               have R111 := Lib.hid h111.out.1
               have W111 := Lib.hid h111.out.2.1
               have B111 := Lib.hid h111.out.2.2
               obtain ⟨k111_0, k111_1, k111_2, k111_3, k111_4, k111_5, k111_6, k111_7, k111_8, k111_9, k111_10, k111_11, k111_12, k111_13, k111_14, k111_15⟩ := CF.out y111 W111.out.kq
               clear h111)
            | (go_at_call 11
               clear M112
               refine (CBo.out _ f f f1 _ _ E1 x1a x1c x1b x1d W111.out (by decide) R111.out.obv PE1.out PF1.out).mono ?_
               rintro e y112 ⟨rfl, h112⟩
               have W112 := Lib.hid h112.out
               obtain ⟨k112_0, k112_1, k112_2, k112_3, k112_4, k112_5, k112_6, k112_7, k112_8, k112_9, k112_10, k112_11, k112_12, k112_13, k112_14, k112_15⟩ := CF.out y112 W112.out.kq
               clear h112))
    clear d11_0 d11_1 d11_2 d11_3 d11_4 d11_5 d11_6 d11_7 d11_8 d11_9 d11_10 d11_11 d11_12 d11_13 d11_14 d11_15 k111_0 k111_1 k111_2 k111_3 k111_4 k111_5 k111_6 k111_7 k111_8 k111_9 k111_10 k111_11 k111_12 k111_13 k111_14 k111_15 k112_0 k112_1 k112_2 k112_3 k112_4 k112_5 k112_6 k112_7 k112_8 k112_9 k112_10 k112_11 k112_12 k112_13 k112_14 k112_15
    by_cases h1 : E1 = 0
    case neg =>
      have g1 : (E1 != 0) = true := by rw [bne_iff_ne]; exact h1
      have ef : f1 = f := by rw [PF1.out]; exact mv_no (by rw [← PE1.out]; exact h1)
      subst ef
      have R13 := Lib.hid (rowsB W112.out (by decide))
      obtain ⟨k13_0, k13_1, k13_2, k13_3, k13_4, k13_5, k13_6, k13_7, k13_8, k13_9, k13_10, k13_11, k13_12, k13_13, k13_14, k13_15⟩ := CF.out y112 W112.out.kq
      go_wp2_with fail
      refine R13.out.mono ?_
      rintro e y13 ⟨v13, S13, rfl, q13, h13⟩
      obtain rfl := SF.one q13 SF0.out
      have U13 := Lib.hid h13
      have R14 := Lib.hid (sameU U13.out (v := v10) (v' := v13) (S := S13) (by simp) (by simp))
      clear h13 q13 R13
      go_wp2_with fail
      refine R14.out.mono ?_
      rintro e y14 ⟨rfl, h14⟩
      have U14 := Lib.hid h14
      clear h14 R14
      go_wp2_with fail
      go_ret
      exact ⟨rfl, KB.out _ _ _ _ _ U14.out⟩
    case pos =>
      have PY := Lib.hid (PX.out h1)
      have PZ := Lib.hid (PB.out h1)
      subst h1
      have R14 := Lib.hid (rowsB W112.out (by decide))
      obtain ⟨k14_0, k14_1, k14_2, k14_3, k14_4, k14_5, k14_6, k14_7, k14_8, k14_9, k14_10, k14_11, k14_12, k14_13, k14_14, k14_15⟩ := CF.out y112 W112.out.kq
      go_wp2_with fail
      refine R14.out.mono ?_
      rintro e y14 ⟨v14, S1, rfl, q14, h14⟩
      have SF1 : Hid (SF f1 S1) := Lib.hid q14
      have U14 := Lib.hid h14
      clear h14 q14 R14 k14_0 k14_1 k14_2 k14_3 k14_4 k14_5 k14_6 k14_7 k14_8 k14_9 k14_10 k14_11 k14_12 k14_13 k14_14 k14_15
      have D15 := Lib.hid (U14.out.below (DR.out _))
      obtain ⟨d15_0, d15_1, d15_2, d15_3, d15_4, d15_5, d15_6, d15_7, d15_8, d15_9, d15_10, d15_11, d15_12, d15_13, d15_14, d15_15⟩ := CF.out _ D15.out.kq
      have M151 : True := trivial
      have M152 : True := trivial
      have M153 : True := trivial
      have M154 : True := trivial
      have M155 : True := trivial
      go_wp2_with fail
      go_region_held3 (fun W : World => W.cell? ⟨c1, 0, none⟩ = some (.pointer (some ⟨ta, 0, none⟩)) ∧ W.cell? ⟨c2, 0, none⟩ = some (.pointer (some ⟨tb, 0, none⟩)) ∧ W.cell? ⟨g4, 0, none⟩ = some (.string o.p) ∧ W.cell? ⟨g4, 1, none⟩ = some (.string o.n) ∧ W.cell? ⟨g4, 2, none⟩ = some (.slice la o.ls.length lc) ∧ W.cell? ⟨g4, 3, none⟩ = some (.int .i64 o.pr) ∧ W.cell? ⟨g4, 4, none⟩ = some (.int .i64 o.dl) ∧ W.cell? ⟨g4, 5, none⟩ = some (.slice pa o.ps.length pc) ∧ W.cell? ⟨g4, 6, none⟩ = some (.int .i64 o.ver) ∧ W.cell? ⟨g4 + 1, 0, none⟩ = some (.string p.p) ∧ W.cell? ⟨g4 + 1, 1, none⟩ = some (.string p.n) ∧ W.cell? ⟨g4 + 1, 2, none⟩ = some (.slice ma p.ls.length mc) ∧ W.cell? ⟨g4 + 1, 3, none⟩ = some (.int .i64 p.pr) ∧ W.cell? ⟨g4 + 1, 4, none⟩ = some (.int .i64 p.dl) ∧ W.cell? ⟨g4 + 1, 5, none⟩ = some (.slice qa p.ps.length qc) ∧ W.cell? ⟨g4 + 1, 6, none⟩ = some (.int .i64 p.ver)) (first | exact ⟨by assumption, by assumption, by assumption, by assumption, by assumption, by assumption, by assumption, by assumption, by assumption, by assumption, by assumption, by assumption, by assumption, by assumption, by assumption, by assumption⟩ | go_keep) (first
              | (go_at_call 10
                 clear M151
                 refine (OWo.out _ _ _ _ _ D15.out).mono ?_
                 rintro e y151 ⟨x2a, x2c, x2b, x2d, rfl, h151⟩
                 have R151 := Lib.hid h151.out.1
                 have W151 := Lib.hid h151.out.2.1
                 have B151 := Lib.hid h151.out.2.2
                 obtain ⟨k151_0, k151_1, k151_2, k151_3, k151_4, k151_5, k151_6, k151_7, k151_8, k151_9, k151_10, k151_11, k151_12, k151_13, k151_14, k151_15⟩ := CF.out y151 W151.out.kq
                 clear h151)
              | (go_at_call 10
                 clear M152
                 refine (OWo.out _ _ _ _ _ W151.out).mono ?_
                 rintro e y152 ⟨x3a, x3c, x3b, x3d, rfl, h152⟩
                 have R152 := Lib.hid h152.out.1
                 have W152 := Lib.hid h152.out.2.1
                 have B152 := Lib.hid h152.out.2.2
                 obtain ⟨k152_0, k152_1, k152_2, k152_3, k152_4, k152_5, k152_6, k152_7, k152_8, k152_9, k152_10, k152_11, k152_12, k152_13, k152_14, k152_15⟩ := CF.out y152 W152.out.kq
                 clear h152)
              | (go_at_call 16
                 clear M153
                 refine (GOo.out _ f1 f f1 _ _ 0 x2a x2c x2b x2d x3a x3c x3b x3d W152.out (by decide) (R151.out.obv.below B152.out) R152.out.obv ((PY.out o).1.trans PE1.out.symm).symm (by rw [(PY.out o).2, if_pos PE1.out.symm]; exact PF1.out)).mono ?_
                 rintro e y153 ⟨rfl, h153⟩
                 have W153 := Lib.hid h153.out
                 obtain ⟨k153_0, k153_1, k153_2, k153_3, k153_4, k153_5, k153_6, k153_7, k153_8, k153_9, k153_10, k153_11, k153_12, k153_13, k153_14, k153_15⟩ := CF.out y153 W153.out.kq
                 clear h153)
              | (go_at_call 12
                 clear M154
                 refine (rowsB W153.out (by decide)).mono ?_
                 rintro e y154 ⟨v154, S154, rfl, q154, h154⟩
                 obtain rfl := SF.one q154 SF1.out
                 have W154 := Lib.hid h154
                 obtain ⟨k154_0, k154_1, k154_2, k154_3, k154_4, k154_5, k154_6, k154_7, k154_8, k154_9, k154_10, k154_11, k154_12, k154_13, k154_14, k154_15⟩ := CF.out y154 W154.out.kq
                 clear h154 q154)
              | (go_at_call 13
                 clear M155
                 refine ((sameU W154.out (v := v14) (v' := v154) (S := S154) (by simp) (by simp)).mono (fun e W' h => ⟨h.1, Lib.hid h.2⟩ : ∀ e W', _ → e = .returned (.bool true) ∧ Hid _)).mono ?_
                 rintro e y155 ⟨rfl, h155⟩
                 have W155 := Lib.hid h155.out
                 obtain ⟨k155_0, k155_1, k155_2, k155_3, k155_4, k155_5, k155_6, k155_7, k155_8, k155_9, k155_10, k155_11, k155_12, k155_13, k155_14, k155_15⟩ := CF.out y155 W155.out.kq
                 clear h155))
      clear d15_0 d15_1 d15_2 d15_3 d15_4 d15_5 d15_6 d15_7 d15_8 d15_9 d15_10 d15_11 d15_12 d15_13 d15_14 d15_15 k151_0 k151_1 k151_2 k151_3 k151_4 k151_5 k151_6 k151_7 k151_8 k151_9 k151_10 k151_11 k151_12 k151_13 k151_14 k151_15 k152_0 k152_1 k152_2 k152_3 k152_4 k152_5 k152_6 k152_7 k152_8 k152_9 k152_10 k152_11 k152_12 k152_13 k152_14 k152_15 k153_0 k153_1 k153_2 k153_3 k153_4 k153_5 k153_6 k153_7 k153_8 k153_9 k153_10 k153_11 k153_12 k153_13 k153_14 k153_15 k154_0 k154_1 k154_2 k154_3 k154_4 k154_5 k154_6 k154_7 k154_8 k154_9 k154_10 k154_11 k154_12 k154_13 k154_14 k154_15 k155_0 k155_1 k155_2 k155_3 k155_4 k155_5 k155_6 k155_7 k155_8 k155_9 k155_10 k155_11 k155_12 k155_13 k155_14 k155_15
      obtain ⟨f3, hf3⟩ : ∃ q, q = chG f1 o p := ⟨_, rfl⟩
      have PF3 : Hid (f3 = chG f1 o p ∧ f3 = if E2 = 0 then f2 else f1) := Lib.hid ⟨hf3, by rw [hf3, (PY.out p).2, ← PE2.out, ← PF2.out]⟩
      clear hf3
      have D17 := Lib.hid (W155.out.below (DR.out _))
      obtain ⟨d17_0, d17_1, d17_2, d17_3, d17_4, d17_5, d17_6, d17_7, d17_8, d17_9, d17_10, d17_11, d17_12, d17_13, d17_14, d17_15⟩ := CF.out _ D17.out.kq
      have M171 : True := trivial
      have M172 : True := trivial
      have M173 : True := trivial
      go_wp2_with fail
      go_region_held3 (fun W : World => W.cell? ⟨c1, 0, none⟩ = some (.pointer (some ⟨ta, 0, none⟩)) ∧ W.cell? ⟨c2, 0, none⟩ = some (.pointer (some ⟨tb, 0, none⟩)) ∧ W.cell? ⟨g4, 0, none⟩ = some (.string o.p) ∧ W.cell? ⟨g4, 1, none⟩ = some (.string o.n) ∧ W.cell? ⟨g4, 2, none⟩ = some (.slice la o.ls.length lc) ∧ W.cell? ⟨g4, 3, none⟩ = some (.int .i64 o.pr) ∧ W.cell? ⟨g4, 4, none⟩ = some (.int .i64 o.dl) ∧ W.cell? ⟨g4, 5, none⟩ = some (.slice pa o.ps.length pc) ∧ W.cell? ⟨g4, 6, none⟩ = some (.int .i64 o.ver) ∧ W.cell? ⟨g4 + 1, 0, none⟩ = some (.string p.p) ∧ W.cell? ⟨g4 + 1, 1, none⟩ = some (.string p.n) ∧ W.cell? ⟨g4 + 1, 2, none⟩ = some (.slice ma p.ls.length mc) ∧ W.cell? ⟨g4 + 1, 3, none⟩ = some (.int .i64 p.pr) ∧ W.cell? ⟨g4 + 1, 4, none⟩ = some (.int .i64 p.dl) ∧ W.cell? ⟨g4 + 1, 5, none⟩ = some (.slice qa p.ps.length qc) ∧ W.cell? ⟨g4 + 1, 6, none⟩ = some (.int .i64 p.ver)) (first | exact ⟨by assumption, by assumption, by assumption, by assumption, by assumption, by assumption, by assumption, by assumption, by assumption, by assumption, by assumption, by assumption, by assumption, by assumption, by assumption, by assumption⟩ | go_keep) (first
              | (go_at_call 10
                 clear M171
                 refine (OWo.out _ _ _ _ _ D17.out).mono ?_
                 rintro e y171 ⟨x4a, x4c, x4b, x4d, rfl, h171⟩
                 have R171 := Lib.hid h171.out.1
                 have W171 := Lib.hid h171.out.2.1
                 have B171 := Lib.hid h171.out.2.2
                 obtain ⟨k171_0, k171_1, k171_2, k171_3, k171_4, k171_5, k171_6, k171_7, k171_8, k171_9, k171_10, k171_11, k171_12, k171_13, k171_14, k171_15⟩ := CF.out y171 W171.out.kq
                 clear h171)
              | (go_at_call 10
                 clear M172
                 refine (OWp.out _ _ _ _ _ W171.out).mono ?_
                 rintro e y172 ⟨x5a, x5c, x5b, x5d, rfl, h172⟩
                 have R172 := Lib.hid h172.out.1
                 have W172 := Lib.hid h172.out.2.1
                 have B172 := Lib.hid h172.out.2.2
                 obtain ⟨k172_0, k172_1, k172_2, k172_3, k172_4, k172_5, k172_6, k172_7, k172_8, k172_9, k172_10, k172_11, k172_12, k172_13, k172_14, k172_15⟩ := CF.out y172 W172.out.kq
                 clear h172)
              | (go_at_call 16
                 clear M173
                 refine (GOp.out _ f1 f f3 _ _ E2 x4a x4c x4b x4d x5a x5c x5b x5d W172.out (by decide) (R171.out.obv.below B172.out) R172.out.obv (PE2.out.trans (PY.out p).1.symm) PF3.out.1).mono ?_
                 rintro e y173 ⟨rfl, h173⟩
                 have W173 := Lib.hid h173.out
                 obtain ⟨k173_0, k173_1, k173_2, k173_3, k173_4, k173_5, k173_6, k173_7, k173_8, k173_9, k173_10, k173_11, k173_12, k173_13, k173_14, k173_15⟩ := CF.out y173 W173.out.kq
                 clear h173))
      clear d17_0 d17_1 d17_2 d17_3 d17_4 d17_5 d17_6 d17_7 d17_8 d17_9 d17_10 d17_11 d17_12 d17_13 d17_14 d17_15 k171_0 k171_1 k171_2 k171_3 k171_4 k171_5 k171_6 k171_7 k171_8 k171_9 k171_10 k171_11 k171_12 k171_13 k171_14 k171_15 k172_0 k172_1 k172_2 k172_3 k172_4 k172_5 k172_6 k172_7 k172_8 k172_9 k172_10 k172_11 k172_12 k172_13 k172_14 k172_15 k173_0 k173_1 k173_2 k173_3 k173_4 k173_5 k173_6 k173_7 k173_8 k173_9 k173_10 k173_11 k173_12 k173_13 k173_14 k173_15
      have D18 := Lib.hid (W173.out.below (DR.out _))
      obtain ⟨d18_0, d18_1, d18_2, d18_3, d18_4, d18_5, d18_6, d18_7, d18_8, d18_9, d18_10, d18_11, d18_12, d18_13, d18_14, d18_15⟩ := CF.out _ D18.out.kq
      have M181 : True := trivial
      have M182 : True := trivial
      go_wp2_with fail
      go_region_held3 (fun W : World => W.cell? ⟨c1, 0, none⟩ = some (.pointer (some ⟨ta, 0, none⟩)) ∧ W.cell? ⟨c2, 0, none⟩ = some (.pointer (some ⟨tb, 0, none⟩)) ∧ W.cell? ⟨g4, 0, none⟩ = some (.string o.p) ∧ W.cell? ⟨g4, 1, none⟩ = some (.string o.n) ∧ W.cell? ⟨g4, 2, none⟩ = some (.slice la o.ls.length lc) ∧ W.cell? ⟨g4, 3, none⟩ = some (.int .i64 o.pr) ∧ W.cell? ⟨g4, 4, none⟩ = some (.int .i64 o.dl) ∧ W.cell? ⟨g4, 5, none⟩ = some (.slice pa o.ps.length pc) ∧ W.cell? ⟨g4, 6, none⟩ = some (.int .i64 o.ver) ∧ W.cell? ⟨g4 + 1, 0, none⟩ = some (.string p.p) ∧ W.cell? ⟨g4 + 1, 1, none⟩ = some (.string p.n) ∧ W.cell? ⟨g4 + 1, 2, none⟩ = some (.slice ma p.ls.length mc) ∧ W.cell? ⟨g4 + 1, 3, none⟩ = some (.int .i64 p.pr) ∧ W.cell? ⟨g4 + 1, 4, none⟩ = some (.int .i64 p.dl) ∧ W.cell? ⟨g4 + 1, 5, none⟩ = some (.slice qa p.ps.length qc) ∧ W.cell? ⟨g4 + 1, 6, none⟩ = some (.int .i64 p.ver)) (first | exact ⟨by assumption, by assumption, by assumption, by assumption, by assumption, by assumption, by assumption, by assumption, by assumption, by assumption, by assumption, by assumption, by assumption, by assumption, by assumption, by assumption⟩ | go_keep) (first
              | (go_at_call 10
                 clear M181
                 refine (OWo.out _ _ _ _ _ D18.out).mono ?_
                 rintro e y181 ⟨x6a, x6c, x6b, x6d, rfl, h181⟩
                 have R181 := Lib.hid h181.out.1
                 have W181 := Lib.hid h181.out.2.1
                 have B181 := Lib.hid h181.out.2.2
                 obtain ⟨k181_0, k181_1, k181_2, k181_3, k181_4, k181_5, k181_6, k181_7, k181_8, k181_9, k181_10, k181_11, k181_12, k181_13, k181_14, k181_15⟩ := CF.out y181 W181.out.kq
                 clear h181)
              | (go_at_call 11
                 clear M182
                 refine (CCo.out _ f3 f f1 _ _ 0 x6a x6c x6b x6d W181.out (by decide) R181.out.obv PE1.out PF1.out).mono ?_
                 rintro e y182 ⟨rfl, h182⟩
                 have W182 := Lib.hid h182.out
                 obtain ⟨k182_0, k182_1, k182_2, k182_3, k182_4, k182_5, k182_6, k182_7, k182_8, k182_9, k182_10, k182_11, k182_12, k182_13, k182_14, k182_15⟩ := CF.out y182 W182.out.kq
                 clear h182))
      clear d18_0 d18_1 d18_2 d18_3 d18_4 d18_5 d18_6 d18_7 d18_8 d18_9 d18_10 d18_11 d18_12 d18_13 d18_14 d18_15 k181_0 k181_1 k181_2 k181_3 k181_4 k181_5 k181_6 k181_7 k181_8 k181_9 k181_10 k181_11 k181_12 k181_13 k181_14 k181_15 k182_0 k182_1 k182_2 k182_3 k182_4 k182_5 k182_6 k182_7 k182_8 k182_9 k182_10 k182_11 k182_12 k182_13 k182_14 k182_15
      have D19 := Lib.hid (W182.out.below (DR.out _))
      obtain ⟨d19_0, d19_1, d19_2, d19_3, d19_4, d19_5, d19_6, d19_7, d19_8, d19_9, d19_10, d19_11, d19_12, d19_13, d19_14, d19_15⟩ := CF.out _ D19.out.kq
      have M191 : True := trivial
      have M192 : True := trivial
      have M193 : True := trivial
      have M194 : True := trivial
      go_wp2_with fail
      go_region_held3 (fun W : World => W.cell? ⟨c1, 0, none⟩ = some (.pointer (some ⟨ta, 0, none⟩)) ∧ W.cell? ⟨c2, 0, none⟩ = some (.pointer (some ⟨tb, 0, none⟩)) ∧ W.cell? ⟨g4, 0, none⟩ = some (.string o.p) ∧ W.cell? ⟨g4, 1, none⟩ = some (.string o.n) ∧ W.cell? ⟨g4, 2, none⟩ = some (.slice la o.ls.length lc) ∧ W.cell? ⟨g4, 3, none⟩ = some (.int .i64 o.pr) ∧ W.cell? ⟨g4, 4, none⟩ = some (.int .i64 o.dl) ∧ W.cell? ⟨g4, 5, none⟩ = some (.slice pa o.ps.length pc) ∧ W.cell? ⟨g4, 6, none⟩ = some (.int .i64 o.ver) ∧ W.cell? ⟨g4 + 1, 0, none⟩ = some (.string p.p) ∧ W.cell? ⟨g4 + 1, 1, none⟩ = some (.string p.n) ∧ W.cell? ⟨g4 + 1, 2, none⟩ = some (.slice ma p.ls.length mc) ∧ W.cell? ⟨g4 + 1, 3, none⟩ = some (.int .i64 p.pr) ∧ W.cell? ⟨g4 + 1, 4, none⟩ = some (.int .i64 p.dl) ∧ W.cell? ⟨g4 + 1, 5, none⟩ = some (.slice qa p.ps.length qc) ∧ W.cell? ⟨g4 + 1, 6, none⟩ = some (.int .i64 p.ver)) (first | exact ⟨by assumption, by assumption, by assumption, by assumption, by assumption, by assumption, by assumption, by assumption, by assumption, by assumption, by assumption, by assumption, by assumption, by assumption, by assumption, by assumption⟩ | go_keep) (first
              | (go_at_call 10
                 clear M191
                 refine (OWo.out _ _ _ _ _ D19.out).mono ?_
                 rintro e y191 ⟨x7a, x7c, x7b, x7d, rfl, h191⟩
                 have R191 := Lib.hid h191.out.1
                 have W191 := Lib.hid h191.out.2.1
                 have B191 := Lib.hid h191.out.2.2
                 obtain ⟨k191_0, k191_1, k191_2, k191_3, k191_4, k191_5, k191_6, k191_7, k191_8, k191_9, k191_10, k191_11, k191_12, k191_13, k191_14, k191_15⟩ := CF.out y191 W191.out.kq
                 clear h191)
              | (go_at_call 14
                 clear M192
                 refine (RCo.out _ f3 f1 f _ _ 0 x7a x7c x7b x7d W191.out (by decide) R191.out.obv PZ.out.1.symm PZ.out.2.symm).mono ?_
                 rintro e y192 ⟨rfl, h192⟩
                 have W192 := Lib.hid h192.out
                 obtain ⟨k192_0, k192_1, k192_2, k192_3, k192_4, k192_5, k192_6, k192_7, k192_8, k192_9, k192_10, k192_11, k192_12, k192_13, k192_14, k192_15⟩ := CF.out y192 W192.out.kq
                 clear h192)
              | (go_at_call 12
                 clear M193
                 refine (rowsC W192.out (by decide)).mono ?_
                 rintro e y193 ⟨v193, S193, rfl, q193, h193⟩
                 obtain rfl := SF.one q193 SF0.out
                 have W193 := Lib.hid h193
                 obtain ⟨k193_0, k193_1, k193_2, k193_3, k193_4, k193_5, k193_6, k193_7, k193_8, k193_9, k193_10, k193_11, k193_12, k193_13, k193_14, k193_15⟩ := CF.out y193 W193.out.kq
                 clear h193 q193)
              | (go_at_call 13
                 clear M194
                 refine ((sameU W193.out (v := v193) (v' := v10) (S := S193) (by simp) (by simp)).mono (fun e W' h => ⟨h.1, Lib.hid h.2⟩ : ∀ e W', _ → e = .returned (.bool true) ∧ Hid _)).mono ?_
                 rintro e y194 ⟨rfl, h194⟩
                 have W194 := Lib.hid h194.out
                 obtain ⟨k194_0, k194_1, k194_2, k194_3, k194_4, k194_5, k194_6, k194_7, k194_8, k194_9, k194_10, k194_11, k194_12, k194_13, k194_14, k194_15⟩ := CF.out y194 W194.out.kq
                 clear h194))
      clear d19_0 d19_1 d19_2 d19_3 d19_4 d19_5 d19_6 d19_7 d19_8 d19_9 d19_10 d19_11 d19_12 d19_13 d19_14 d19_15 k191_0 k191_1 k191_2 k191_3 k191_4 k191_5 k191_6 k191_7 k191_8 k191_9 k191_10 k191_11 k191_12 k191_13 k191_14 k191_15 k192_0 k192_1 k192_2 k192_3 k192_4 k192_5 k192_6 k192_7 k192_8 k192_9 k192_10 k192_11 k192_12 k192_13 k192_14 k192_15 k193_0 k193_1 k193_2 k193_3 k193_4 k193_5 k193_6 k193_7 k193_8 k193_9 k193_10 k193_11 k193_12 k193_13 k193_14 k193_15 k194_0 k194_1 k194_2 k194_3 k194_4 k194_5 k194_6 k194_7 k194_8 k194_9 k194_10 k194_11 k194_12 k194_13 k194_14 k194_15
      have D21 := Lib.hid (W194.out.below (DR.out _))
      obtain ⟨d21_0, d21_1, d21_2, d21_3, d21_4, d21_5, d21_6, d21_7, d21_8, d21_9, d21_10, d21_11, d21_12, d21_13, d21_14, d21_15⟩ := CF.out _ D21.out.kq
      have M211 : True := trivial
      have M212 : True := trivial
      have ge3 : (E2 != E2) = false := bne_self_eq_false _
      go_wp2_with fail
      go_region_held3 (fun W : World => W.cell? ⟨c1, 0, none⟩ = some (.pointer (some ⟨ta, 0, none⟩)) ∧ W.cell? ⟨c2, 0, none⟩ = some (.pointer (some ⟨tb, 0, none⟩)) ∧ W.cell? ⟨g4, 0, none⟩ = some (.string o.p) ∧ W.cell? ⟨g4, 1, none⟩ = some (.string o.n) ∧ W.cell? ⟨g4, 2, none⟩ = some (.slice la o.ls.length lc) ∧ W.cell? ⟨g4, 3, none⟩ = some (.int .i64 o.pr) ∧ W.cell? ⟨g4, 4, none⟩ = some (.int .i64 o.dl) ∧ W.cell? ⟨g4, 5, none⟩ = some (.slice pa o.ps.length pc) ∧ W.cell? ⟨g4, 6, none⟩ = some (.int .i64 o.ver) ∧ W.cell? ⟨g4 + 1, 0, none⟩ = some (.string p.p) ∧ W.cell? ⟨g4 + 1, 1, none⟩ = some (.string p.n) ∧ W.cell? ⟨g4 + 1, 2, none⟩ = some (.slice ma p.ls.length mc) ∧ W.cell? ⟨g4 + 1, 3, none⟩ = some (.int .i64 p.pr) ∧ W.cell? ⟨g4 + 1, 4, none⟩ = some (.int .i64 p.dl) ∧ W.cell? ⟨g4 + 1, 5, none⟩ = some (.slice qa p.ps.length qc) ∧ W.cell? ⟨g4 + 1, 6, none⟩ = some (.int .i64 p.ver)) (first | exact ⟨by assumption, by assumption, by assumption, by assumption, by assumption, by assumption, by assumption, by assumption, by assumption, by assumption, by assumption, by assumption, by assumption, by assumption, by assumption, by assumption⟩ | go_keep) (first
              | (go_at_call 10
                 clear M211
                 refine (OWp.out _ _ _ _ _ D21.out).mono ?_
                 rintro e y211 ⟨x8a, x8c, x8b, x8d, rfl, h211⟩
                 have R211 := Lib.hid h211.out.1
                 have W211 := Lib.hid h211.out.2.1
                 have B211 := Lib.hid h211.out.2.2
                 obtain ⟨k211_0, k211_1, k211_2, k211_3, k211_4, k211_5, k211_6, k211_7, k211_8, k211_9, k211_10, k211_11, k211_12, k211_13, k211_14, k211_15⟩ := CF.out y211 W211.out.kq
                 clear h211)
              | (go_at_call 11
                 clear M212
                 refine (CCp.out _ f3 f f2 _ _ E2 x8a x8c x8b x8d W211.out (by decide) R211.out.obv PE2.out PF2.out).mono ?_
                 rintro e y212 ⟨rfl, h212⟩
                 have W212 := Lib.hid h212.out
                 obtain ⟨k212_0, k212_1, k212_2, k212_3, k212_4, k212_5, k212_6, k212_7, k212_8, k212_9, k212_10, k212_11, k212_12, k212_13, k212_14, k212_15⟩ := CF.out y212 W212.out.kq
                 clear h212))
      clear d21_0 d21_1 d21_2 d21_3 d21_4 d21_5 d21_6 d21_7 d21_8 d21_9 d21_10 d21_11 d21_12 d21_13 d21_14 d21_15 k211_0 k211_1 k211_2 k211_3 k211_4 k211_5 k211_6 k211_7 k211_8 k211_9 k211_10 k211_11 k211_12 k211_13 k211_14 k211_15 k212_0 k212_1 k212_2 k212_3 k212_4 k212_5 k212_6 k212_7 k212_8 k212_9 k212_10 k212_11 k212_12 k212_13 k212_14 k212_15
      by_cases h2 : E2 = 0
      case neg =>
        have ge4 : (E2 != 0) = true := by rw [bne_iff_ne]; exact h2
        have ef : f3 = f1 := by rw [PF3.out.2, if_neg h2]
        subst ef
        have D25 := Lib.hid (W212.out.below (DR.out _))
        obtain ⟨d25_0, d25_1, d25_2, d25_3, d25_4, d25_5, d25_6, d25_7, d25_8, d25_9, d25_10, d25_11, d25_12, d25_13, d25_14, d25_15⟩ := CF.out _ D25.out.kq
        have M251 : True := trivial
        have M252 : True := trivial
        have M253 : True := trivial
        have M254 : True := trivial
        have M256 : True := trivial
        have M257 : True := trivial
        go_wp2_with fail
        go_region_held3 (fun W : World => W.cell? ⟨c1, 0, none⟩ = some (.pointer (some ⟨ta, 0, none⟩)) ∧ W.cell? ⟨c2, 0, none⟩ = some (.pointer (some ⟨tb, 0, none⟩)) ∧ W.cell? ⟨g4, 0, none⟩ = some (.string o.p) ∧ W.cell? ⟨g4, 1, none⟩ = some (.string o.n) ∧ W.cell? ⟨g4, 2, none⟩ = some (.slice la o.ls.length lc) ∧ W.cell? ⟨g4, 3, none⟩ = some (.int .i64 o.pr) ∧ W.cell? ⟨g4, 4, none⟩ = some (.int .i64 o.dl) ∧ W.cell? ⟨g4, 5, none⟩ = some (.slice pa o.ps.length pc) ∧ W.cell? ⟨g4, 6, none⟩ = some (.int .i64 o.ver) ∧ W.cell? ⟨g4 + 1, 0, none⟩ = some (.string p.p) ∧ W.cell? ⟨g4 + 1, 1, none⟩ = some (.string p.n) ∧ W.cell? ⟨g4 + 1, 2, none⟩ = some (.slice ma p.ls.length mc) ∧ W.cell? ⟨g4 + 1, 3, none⟩ = some (.int .i64 p.pr) ∧ W.cell? ⟨g4 + 1, 4, none⟩ = some (.int .i64 p.dl) ∧ W.cell? ⟨g4 + 1, 5, none⟩ = some (.slice qa p.ps.length qc) ∧ W.cell? ⟨g4 + 1, 6, none⟩ = some (.int .i64 p.ver)) (first | exact ⟨by assumption, by assumption, by assumption, by assumption, by assumption, by assumption, by assumption, by assumption, by assumption, by assumption, by assumption, by assumption, by assumption, by assumption, by assumption, by assumption⟩ | go_keep) (first
                | (go_at_call 12
                   clear M251
                   refine (rowsB D25.out (by decide)).mono ?_
                   rintro e y251 ⟨v251, S251, rfl, q251, h251⟩
                   obtain rfl := SF.one q251 SF1.out
                   have W251 := Lib.hid h251
                   obtain ⟨k251_0, k251_1, k251_2, k251_3, k251_4, k251_5, k251_6, k251_7, k251_8, k251_9, k251_10, k251_11, k251_12, k251_13, k251_14, k251_15⟩ := CF.out y251 W251.out.kq
                   clear h251 q251)
                | (go_at_call 13
                   clear M252
                   refine ((sameU W251.out (v := v251) (v' := v14) (S := S251) (by simp) (by simp)).mono (fun e W' h => ⟨h.1, Lib.hid h.2⟩ : ∀ e W', _ → e = .returned (.bool true) ∧ Hid _)).mono ?_
                   rintro e y252 ⟨rfl, h252⟩
                   have W252 := Lib.hid h252.out
                   obtain ⟨k252_0, k252_1, k252_2, k252_3, k252_4, k252_5, k252_6, k252_7, k252_8, k252_9, k252_10, k252_11, k252_12, k252_13, k252_14, k252_15⟩ := CF.out y252 W252.out.kq
                   clear h252)
                | (go_at_call 10
                   clear M253
                   refine (OWo.out _ _ _ _ _ W252.out).mono ?_
                   rintro e y253 ⟨x9a, x9c, x9b, x9d, rfl, h253⟩
                   have R253 := Lib.hid h253.out.1
                   have W253 := Lib.hid h253.out.2.1
                   have B253 := Lib.hid h253.out.2.2
                   obtain ⟨k253_0, k253_1, k253_2, k253_3, k253_4, k253_5, k253_6, k253_7, k253_8, k253_9, k253_10, k253_11, k253_12, k253_13, k253_14, k253_15⟩ := CF.out y253 W253.out.kq
                   clear h253)
                | (go_at_call 14
                   clear M254
                   refine (RBo.out _ f3 f2 f _ _ 0 x9a x9c x9b x9d W253.out (by decide) R253.out.obv PZ.out.1.symm PZ.out.2.symm).mono ?_
                   rintro e y254 ⟨rfl, h254⟩
                   have W254 := Lib.hid h254.out
                   obtain ⟨k254_0, k254_1, k254_2, k254_3, k254_4, k254_5, k254_6, k254_7, k254_8, k254_9, k254_10, k254_11, k254_12, k254_13, k254_14, k254_15⟩ := CF.out y254 W254.out.kq
                   clear h254)
                | (go_at_call 12
                   clear M256
                   refine (rowsB W254.out (by decide)).mono ?_
                   rintro e y256 ⟨v256, S256, rfl, q256, h256⟩
                   obtain rfl := SF.one q256 SF0.out
                   have W256 := Lib.hid h256
                   obtain ⟨k256_0, k256_1, k256_2, k256_3, k256_4, k256_5, k256_6, k256_7, k256_8, k256_9, k256_10, k256_11, k256_12, k256_13, k256_14, k256_15⟩ := CF.out y256 W256.out.kq
                   clear h256 q256)
                | (go_at_call 13
                   clear M257
                   refine ((sameU W256.out (v := v256) (v' := v10) (S := S256) (by simp) (by simp)).mono (fun e W' h => ⟨h.1, Lib.hid h.2⟩ : ∀ e W', _ → e = .returned (.bool true) ∧ Hid _)).mono ?_
                   rintro e y257 ⟨rfl, h257⟩
                   have W257 := Lib.hid h257.out
                   obtain ⟨k257_0, k257_1, k257_2, k257_3, k257_4, k257_5, k257_6, k257_7, k257_8, k257_9, k257_10, k257_11, k257_12, k257_13, k257_14, k257_15⟩ := CF.out y257 W257.out.kq
                   clear h257))
        go_wp2_with fail
        go_ret
        exact ⟨rfl, KB.out _ _ _ _ _ W257.out⟩
      case pos =>
        have PR := Lib.hid (PQ.out h2)
        have ef : f3 = f2 := by rw [PF3.out.2, if_pos h2]
        subst h2
        subst ef
        have D26 := Lib.hid (W212.out.below (DR.out _))
        obtain ⟨d26_0, d26_1, d26_2, d26_3, d26_4, d26_5, d26_6, d26_7, d26_8, d26_9, d26_10, d26_11, d26_12, d26_13, d26_14, d26_15⟩ := CF.out _ D26.out.kq
        have M261 : True := trivial
        have M262 : True := trivial
        have M263 : True := trivial
        have M264 : True := trivial
        have M265 : True := trivial
        have M266 : True := trivial
        have M267 : True := trivial
        go_wp2_with fail
        go_region_held3 (fun W : World => W.cell? ⟨c1, 0, none⟩ = some (.pointer (some ⟨ta, 0, none⟩)) ∧ W.cell? ⟨c2, 0, none⟩ = some (.pointer (some ⟨tb, 0, none⟩)) ∧ W.cell? ⟨g4, 0, none⟩ = some (.string o.p) ∧ W.cell? ⟨g4, 1, none⟩ = some (.string o.n) ∧ W.cell? ⟨g4, 2, none⟩ = some (.slice la o.ls.length lc) ∧ W.cell? ⟨g4, 3, none⟩ = some (.int .i64 o.pr) ∧ W.cell? ⟨g4, 4, none⟩ = some (.int .i64 o.dl) ∧ W.cell? ⟨g4, 5, none⟩ = some (.slice pa o.ps.length pc) ∧ W.cell? ⟨g4, 6, none⟩ = some (.int .i64 o.ver) ∧ W.cell? ⟨g4 + 1, 0, none⟩ = some (.string p.p) ∧ W.cell? ⟨g4 + 1, 1, none⟩ = some (.string p.n) ∧ W.cell? ⟨g4 + 1, 2, none⟩ = some (.slice ma p.ls.length mc) ∧ W.cell? ⟨g4 + 1, 3, none⟩ = some (.int .i64 p.pr) ∧ W.cell? ⟨g4 + 1, 4, none⟩ = some (.int .i64 p.dl) ∧ W.cell? ⟨g4 + 1, 5, none⟩ = some (.slice qa p.ps.length qc) ∧ W.cell? ⟨g4 + 1, 6, none⟩ = some (.int .i64 p.ver)) (first | exact ⟨by assumption, by assumption, by assumption, by assumption, by assumption, by assumption, by assumption, by assumption, by assumption, by assumption, by assumption, by assumption, by assumption, by assumption, by assumption, by assumption⟩ | go_keep) (first
                | (go_at_call 12
                   clear M261
                   refine (rowsB D26.out (by decide)).mono ?_
                   rintro e y261 ⟨v261, S261, rfl, q261, h261⟩
                   have SF2 := Lib.hid q261
                   have W261 := Lib.hid h261
                   obtain ⟨k261_0, k261_1, k261_2, k261_3, k261_4, k261_5, k261_6, k261_7, k261_8, k261_9, k261_10, k261_11, k261_12, k261_13, k261_14, k261_15⟩ := CF.out y261 W261.out.kq
                   clear h261 q261)
                | (go_at_call 12
                   clear M262
                   refine (rowsC W261.out (by decide)).mono ?_
                   rintro e y262 ⟨v262, S262, rfl, q262, h262⟩
                   obtain rfl := SF.one q262 SF2.out
                   have W262 := Lib.hid h262
                   obtain ⟨k262_0, k262_1, k262_2, k262_3, k262_4, k262_5, k262_6, k262_7, k262_8, k262_9, k262_10, k262_11, k262_12, k262_13, k262_14, k262_15⟩ := CF.out y262 W262.out.kq
                   clear h262 q262)
                | (go_at_call 13
                   clear M263
                   refine ((sameU W262.out (v := v261) (v' := v262) (S := S262) (by simp) (by simp)).mono (fun e W' h => ⟨h.1, Lib.hid h.2⟩ : ∀ e W', _ → e = .returned (.bool true) ∧ Hid _)).mono ?_
                   rintro e y263 ⟨rfl, h263⟩
                   have W263 := Lib.hid h263.out
                   obtain ⟨k263_0, k263_1, k263_2, k263_3, k263_4, k263_5, k263_6, k263_7, k263_8, k263_9, k263_10, k263_11, k263_12, k263_13, k263_14, k263_15⟩ := CF.out y263 W263.out.kq
                   clear h263)
                | (go_at_call 10
                   clear M264
                   refine (OWp.out _ _ _ _ _ W263.out).mono ?_
                   rintro e y264 ⟨x9a, x9c, x9b, x9d, rfl, h264⟩
                   have R264 := Lib.hid h264.out.1
                   have W264 := Lib.hid h264.out.2.1
                   have B264 := Lib.hid h264.out.2.2
                   obtain ⟨k264_0, k264_1, k264_2, k264_3, k264_4, k264_5, k264_6, k264_7, k264_8, k264_9, k264_10, k264_11, k264_12, k264_13, k264_14, k264_15⟩ := CF.out y264 W264.out.kq
                   clear h264)
                | (go_at_call 14
                   clear M265
                   refine (RBp.out _ f3 f3 f _ _ 0 x9a x9c x9b x9d W264.out (by decide) R264.out.obv PR.out.1.symm PR.out.2.symm).mono ?_
                   rintro e y265 ⟨rfl, h265⟩
                   have W265 := Lib.hid h265.out
                   obtain ⟨k265_0, k265_1, k265_2, k265_3, k265_4, k265_5, k265_6, k265_7, k265_8, k265_9, k265_10, k265_11, k265_12, k265_13, k265_14, k265_15⟩ := CF.out y265 W265.out.kq
                   clear h265)
                | (go_at_call 12
                   clear M266
                   refine (rowsB W265.out (by decide)).mono ?_
                   rintro e y266 ⟨v266, S266, rfl, q266, h266⟩
                   obtain rfl := SF.one q266 SF0.out
                   have W266 := Lib.hid h266
                   obtain ⟨k266_0, k266_1, k266_2, k266_3, k266_4, k266_5, k266_6, k266_7, k266_8, k266_9, k266_10, k266_11, k266_12, k266_13, k266_14, k266_15⟩ := CF.out y266 W266.out.kq
                   clear h266 q266)
                | (go_at_call 13
                   clear M267
                   refine ((sameU W266.out (v := v266) (v' := v10) (S := S266) (by simp) (by simp)).mono (fun e W' h => ⟨h.1, Lib.hid h.2⟩ : ∀ e W', _ → e = .returned (.bool true) ∧ Hid _)).mono ?_
                   rintro e y267 ⟨rfl, h267⟩
                   have W267 := Lib.hid h267.out
                   obtain ⟨k267_0, k267_1, k267_2, k267_3, k267_4, k267_5, k267_6, k267_7, k267_8, k267_9, k267_10, k267_11, k267_12, k267_13, k267_14, k267_15⟩ := CF.out y267 W267.out.kq
                   clear h267))
        go_wp2_with fail
        go_ret
        exact ⟨rfl, KB.out _ _ _ _ _ W267.out⟩
  go_wp2_with fail
  go_loopg [9] m (fun gk s9 wr => ∃ (k : Nat), k ≤ m ∧ gk = m - k ∧ s9 = .int .i64 k ∧ k ≤ 30 ∧ Hid (∃ hs N, Tb X c1 ta ba c2 tb bb hs hs N wr ∧ N ≤ 48 + k * 864000000))
  case atStart => exact ⟨0, Nat.zero_le _, rfl, rfl, by omega, Lib.hid ⟨[], 48, T2.out.1, by omega⟩⟩
  case round =>
    obtain ⟨k, hk, hg, rfl, hk30, R⟩ := hrel
    have GK : Hid (gk = m - k) := Lib.hid hg
    clear hg T2
    by_cases hgo : k < m ∧ k < 30
    case pos =>
      have h1 : decide ((k : Int) < (m : Int)) = true := decide_eq_true (by omega)
      have h2 : decide ((k : Int) < 30) = true := decide_eq_true (by omega)
      have h3 : (k : Int) < (m : Int) := by omega
      have hkl : k < l.length := by rw [← M.out]; exact hgo.1
      obtain ⟨hs, N, RT, RN⟩ := R.out
      have TT := Lib.hid RT
      have NK : Hid (N ≤ 25920000048 ∧ N ≤ 48 + k * 864000000) := Lib.hid ⟨by omega, RN⟩
      obtain ⟨gb, off, rfl, pcs⟩ := OB.out.r.at k hkl
      obtain ⟨x, hx⟩ : ∃ x, x = l[k] := ⟨_, rfl⟩
      have ex : l.getD k kOpL.z = x := by rw [List.getD_eq_getElem?_getD, List.getElem?_eq_getElem hkl, hx]; rfl
      rw [ex] at pcs
      have XM : Hid (x ∈ l) := Lib.hid (by rw [hx]; exact List.getElem_mem hkl)
      clear hx ex
      have PC : Hid (∀ W : World, Below X.heap.size X W → ∀ j y, (kOpL.c x)[j]? = some y → W.cell? ⟨gb, off + k * 19 + j, none⟩ = some y) := Lib.hid fun W hb j y hy => ((BX.out.1.trans (hb.mono BX.out.1.size)).cell (block_lt_of_cell (pcs j y hy))).trans (pcs j y hy)
      have OV : Hid (∀ W : World, Below X.heap.size X W → ObV W x.o.2.1.v x.o.2.2.v x.o.1) := Lib.hid fun W hb => (OB.out.o x XM.out).below (BX.out.1.trans (hb.mono BX.out.1.size))
      have ZX : Hid (Ozz x.o.1) := Lib.hid (OZ.out.o x XM.out)
      have ST1 := Lib.hid (TT.out.step x (OV.out _ RT.bel) ZX.out (by have := NK.out.1; omega))
      have TE := Lib.hid RT.bel
      have SG : Hid (∀ (W : World) (ha hb : List Ob) (N : Nat), Tb X c2 tb bb c1 ta ba ha hb N W → N ≤ 1500000000000 → Calls Tryz.prog 15 #[.pointer (some ⟨c2, 0, none⟩), .agg (OpL.c x).toArray] W fun e W' => e = .returned (.bool true) ∧ Tb X c2 tb bb c1 ta ba (stp ha x.k x.o.1) hb (N + 432000000) W') := Lib.hid fun W ha hb N h hn => h.step x (OV.out _ h.bel) ZX.out hn
      clear pcs R RT RN
      have q2 := Lib.hid (PC.out wr TE.out)
      go_wp2_with (refine wpList_load_mid rfl 51 (.tmp 45) rfl gb (off + k * 19) rfl (OpL.c x) _ q2.out Tryz.underlying51 rfl size_op ?_)
      refine ST1.out.mono ?_
      rintro e w3 ⟨rfl, h4⟩
      have T3 := Lib.hid h4
      clear h4 ST1 q2
      have TF := Lib.hid T3.out.flip
      have ST2 := Lib.hid (SG.out _ _ _ _ TF.out (by have := NK.out.1; omega))
      have q2 := Lib.hid (PC.out w3 T3.out.bel)
      go_wp2_with (refine wpList_load_mid rfl 51 (.tmp 51) rfl gb (off + k * 19) rfl (OpL.c x) _ q2.out Tryz.underlying51 rfl size_op ?_)
      refine ST2.out.mono ?_
      rintro e w4 ⟨rfl, h4⟩
      have T4 := Lib.hid h4.flip
      clear h4 ST2 q2
      go_wp2_with fail
      go_roundg (m - (k + 1))
      case measure => have := GK.out; omega
      case rel =>
        refine ⟨k + 1, by omega, rfl, by go_num, by omega, Lib.hid ?_⟩
        obtain ⟨n, D, hv, rs, n', D', hu, rc, h1, h2, h3, h4, h5, h6, h7⟩ := T4.out
        exact ⟨_, N + 432000000 + 432000000, ⟨n, D, hv, rs, n', D', hu, rc, h1, h2, h3, h4, by omega, by omega, h7⟩, by have := NK.out.2; omega⟩
    case neg =>
      obtain ⟨hs, N, RT, RN⟩ := R.out
      have FI : Hid (Tb X c1 ta ba c2 tb bb hs hs N wr ∧ N ≤ 25920000048) := Lib.hid ⟨RT, by omega⟩
      clear RT RN R
      by_cases hkm : k < m
      · have h1 : decide ((k : Int) < (m : Int)) = true := decide_eq_true (by omega)
        have h2 : decide ((k : Int) < 30) = false := decide_eq_false (by omega)
        go_wp2_with fail
        go_meet
        exact ⟨hs, N, FI⟩
      · have h1 : decide ((k : Int) < (m : Int)) = false := decide_eq_false (by omega)
        go_wp2_with fail
        go_meet
        exact ⟨hs, N, FI⟩
end Le
theorem ledgerUndoes_walk (v : Value) (l : List Le.OpL) (o : Ob) (ls ps : Value) (p : Ob) (ls2 ps2 : Value) (w : World) (G : Le.Gl w) (b0 : Le.OpsAt w v l) (s0 : Le.OzO l) (b1 : ObV w ls ps o ∧ OSz o ∧ PSz o.ps ∧ o.ps.length ≤ 2000000) (z1 : o.p.size ≤ 140737488355328) (b2 : ObV w ls2 ps2 p ∧ OSz p ∧ PSz p.ps ∧ p.ps.length ≤ 2000000) (z2 : p.p.size ≤ 140737488355328) :
    Calls Tryz.prog 4 #[v, o.val ls ps, p.val ls2 ps2] w fun e w' => e = .returned (.bool true) ∧ Below w.heap.size w w' := Le.undoes_walk v l o p ls ps ls2 ps2 w G b0 s0 b1.1 ⟨b1.2.2.1, z1, b1.2.1⟩ b2.1 ⟨b2.2.2.1, z2, b2.2.1⟩
end Go.Proofs.YtodfmnbfbndkhaaGreatDoor
end S1
