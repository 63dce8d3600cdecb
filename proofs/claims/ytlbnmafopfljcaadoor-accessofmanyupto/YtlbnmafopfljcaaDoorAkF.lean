/-
  The document's Of, of any list; the law's sameBindings of any list.
-/
import Derived.Test.YtlbnmafopfljcaaDoorAkE
import Derived.Test.YtlbnmafopfljcaaDoorAkP
import Derived.Test.YtlbnmafopfljcaaDoorAkG
import Derived.Lib.QuietBelow
namespace Go.Proofs.YtlbnmafopfljcaaDoor
open Go.RowKit Go.Sort
namespace Ac
theorem insB_perm (x : Bv) : ∀ P : List Bv, (insB x P).Perm (x :: P)
  | [] => List.Perm.refl _
  | y :: r => by
    unfold insB
    split
    · exact List.Perm.refl _
    · exact ((insB_perm x r).cons y).trans (List.Perm.swap x y r)
theorem insB_cnt (x : Bv) (P : List Bv) (p : ByteArray) : cntP p (insB x P) = cntP p P + (if x.1.p = p then 1 else 0) := by
  unfold cntP
  rw [((insB_perm x P).filter _).length_eq]
  by_cases h : x.1.p = p
  · simp [List.filter, h]
  · simp [List.filter, h]
/-- The document's table behind i of them. -/
structure Ro (P : List Bd) (i : Nat) (T : List Bv) : Prop where
  m : ∀ x, (∃ y ∈ T, y.1 = x) ↔ x ∈ P.take i
  d : T.Pairwise fun a b => kl a.1.p a.1.n ≠ kl b.1.p b.1.n
  r : RisV T
  n : T.length = i
  c : ∀ p, cntP p T = cntL p (P.take i)
  o : ∀ j, j < i → Stp (P.take j) (P.getD j Bd.z) 0
theorem Ro.has {P : List Bd} {i : Nat} {T : List Bv} (h : Ro P i T) (x : Bd) : hasV T x.p x.n ↔ hasL (P.take i) x := by
  constructor
  · rintro ⟨y, hy, a, b⟩
    exact ⟨y.1, (h.m _).1 ⟨y, hy, rfl⟩, a, b⟩
  · rintro ⟨z, hz, a, b⟩
    obtain ⟨y, hy, rfl⟩ := (h.m z).2 hz
    exact ⟨y, hy, a, b⟩
theorem Ro.put {P : List Bd} {i : Nat} {T : List Bv} (h : Ro P i T) (hi : i < P.length) (hv : (L.splitO (P.getD i Bd.z).p).isSome = true) (hs : bdS (P.getD i Bd.z) = true) (hn : ¬ hasL (P.take i) (P.getD i Bd.z)) (hc : cntP (P.getD i Bd.z).p T < 16) (hf : ∀ y ∈ T, y.1.p.size ≤ maxLen ∧ y.1.n.size ≤ maxLen) : Ro P (i + 1) (insB (Bv.mk (P.getD i Bd.z) hv) T) := by
  have tk := take_oneR P i Bd.z hi
  have mx := bd_max ((bd_code _).2 hs)
  refine ⟨fun x => ?_, ?_, insB_rise h.r, by rw [insB_len, h.n], fun p => ?_, fun j hj => ?_⟩
  · rw [tk, List.mem_append, List.mem_singleton, ← h.m]
    constructor
    · rintro ⟨y, hy, rfl⟩
      rcases insB_mem.1 hy with rfl | hy
      · exact Or.inr rfl
      · exact Or.inl ⟨y, hy, rfl⟩
    · rintro (⟨y, hy, rfl⟩ | rfl)
      · exact ⟨y, insB_mem.2 (Or.inr hy), rfl⟩
      · exact ⟨_, insB_mem.2 (Or.inl rfl), rfl⟩
  · refine (insB_perm _ _).symm.pairwise (List.pairwise_cons.2 ⟨fun y hy e => ?_, h.d⟩) (fun q e => q e.symm)
    have f := hf y hy
    have q := kl_inj e mx.1 mx.2 f.1 f.2
    exact hn ⟨y.1, (h.m _).1 ⟨y, hy, rfl⟩, q.1.symm, q.2.symm⟩
  · rw [insB_cnt, h.c, tk, cntL_snoc]; rfl
  · rcases Nat.lt_or_ge j i with q | q
    · exact h.o j q
    · rw [show j = i by omega]
      exact Or.inr (Or.inr (Or.inr ⟨hs, hn, by rw [← h.c]; exact hc, rfl⟩))
theorem ro_sizes {P : List Bd} {i : Nat} {T : List Bv} (h : Ro P i T) (hl : i ≤ P.length) : ∀ y ∈ T, bdS y.1 = true := fun y hy => by
  have hm := (h.m y.1).1 ⟨y, hy, rfl⟩
  obtain ⟨j, hj, e⟩ := List.getElem_of_mem hm
  rw [List.length_take] at hj
  have o := h.o j (by omega)
  have e2 : P.getD j Bd.z = y.1 := by
    rw [List.getD_eq_getElem?_getD, List.getElem?_eq_getElem (by omega)]
    rw [List.getElem_take] at e
    exact e
  rw [e2] at o
  rcases o with ⟨_, q⟩ | ⟨_, _, q⟩ | ⟨_, _, _, q⟩ | ⟨q, _⟩
  · omega
  · omega
  · omega
  · exact q
set_option maxHeartbeats 4000000 in
set_option maxRecDepth 100000 in
theorem sameBindR_yes (v u : Value) (l : List Bd) (w : World) (hv : Row kBr w v l) (hu : Row kBr w u l) :
    Calls Tryd.prog 6 #[v, u] w fun e w' => e = .returned (.bool true) ∧ Below w.heap.size w w' := by
  have V : Aside (Row kBr w v l ∧ Row kBr w u l) := ⟨hv, hu⟩
  obtain ⟨a, cap, rfl, hlc, hcm⟩ := hv.len
  obtain ⟨a', cap', rfl, hlc', hcm'⟩ := hu.len
  unfold maxLen at hcm hcm'
  clear hv hu
  go_enter Tryd.func6, Tryd.ntmps6
  go_wp2_with fail
  go_loopg [5] l.length (fun g si wr => ∃ (k : Nat), k ≤ l.length ∧ g = l.length - k ∧ si = .int .i64 k ∧ Below w.heap.size w wr)
  case atStart => exact ⟨0, Nat.zero_le _, rfl, rfl, Below.refl _ _⟩
  case round =>
    obtain ⟨k, hk, hg, rfl, hb⟩ := hrel
    have R : Aside (gk = l.length - k ∧ Below w.heap.size w wr) := ⟨hg, hb⟩
    clear hg hb
    by_cases hlt : k < l.length
    · obtain ⟨b, off, rfl, p0, p1, p2, p3⟩ := row_atR (V.out.1.below R.out.2) k hlt
      obtain ⟨b', off', rfl, q0, q1, q2, q3⟩ := row_atR (V.out.2.below R.out.2) k hlt
      obtain ⟨x, hx⟩ : ∃ x, x = l.getD k Bd.z := ⟨_, rfl⟩
      rw [← hx] at p0 p1 p2 p3 q0 q1 q2 q3
      clear hx
      obtain ⟨xp, xn, xs, xv⟩ := x
      simp only at p0 p1 p2 p3 q0 q1 q2 q3
      have hlt' : (k : Int) < (l.length : Int) := by omega
      go_wp2_with fail
      go_quiet (fail)
      go_wp2_with fail
      go_roundg (l.length - (k + 1))
      case measure => have := R.out.1; omega
      case rel => exact ⟨k + 1, by omega, rfl, by go_num, R.out.2.trans ((below_drawn wr _).mono R.out.2.size)⟩
    · go_wp2_with fail
      go_ret
      exact ⟨rfl, R.out.2⟩
/-- What the document's Of answers. -/
def RfQ (w : World) (P : List Bd) (e : Ending) (w' : World) : Prop :=
  Below w.heap.size w w' ∧ ∃ k c, OfR P k c ∧ ((c ≠ 0 ∧ e = .returned (.tuple #[.pointer none, .int .i64 (c : Nat)])) ∨ (c = 0 ∧ ∃ r B a c' T, e = .returned (.tuple #[.pointer (some ⟨r, 0, none⟩), .int .i64 0]) ∧ Rt w' r B a c' T ∧ Ro P P.length T))
set_option maxHeartbeats 8000000 in
set_option maxRecDepth 100000 in
theorem refOf_all (P : List Bd) (v : Value) (w : World) (H : Row kBr w v P) (hp : ∀ x ∈ P, x.p.size ≤ 1048576) (hl : P.length ≤ 600000) :
    Calls Tryd.prog 5 #[v] w (RfQ w P) := by
  obtain ⟨a0, c0, rfl, _, _⟩ := H.len
  obtain ⟨n0, hn0⟩ : ∃ k, k = P.length := ⟨_, rfl⟩
  rw [← hn0] at H ⊢
  have hl' : n0 ≤ 600000 := by rw [hn0]; exact hl
  have HV := Lib.hid H
  have HP := Lib.hid hp
  have HN := Lib.hid hn0
  clear H hp hl hn0
  obtain ⟨r, hr⟩ : ∃ r, r = w.heap.size := ⟨_, rfl⟩
  obtain ⟨X, hX⟩ : ∃ X, X = w.alloc (.cells #[.slice none 0 0] 53) := ⟨_, rfl⟩
  have X1 : Hid (Rt X r (r + 1) none 0 [] ∧ Below w.heap.size w X ∧ r = w.heap.size ∧ r + 1 ≤ X.heap.size) := Lib.hid ⟨by rw [hX, hr]; exact Rt.start w, by rw [hX]; exact (Below.refl _ _).alloc (Nat.le_refl _) _, hr, by rw [hX, hr]; simp⟩
  have NW : Hid (Calls Tryd.prog 13 #[] w fun e w' => e = .returned (.pointer (some ⟨r, 0, none⟩)) ∧ w' = X) := Lib.hid (by rw [hX, hr]; exact refNew_any w)
  clear hr hX
  go_enter Tryd.func5, Tryd.ntmps5
  go_wp2_with fail
  refine NW.out.mono ?_
  rintro e w1 ⟨rfl, hw1⟩
  subst hw1
  clear NW
  go_wp2_with fail
  go_loopg [5] n0 (fun gg si wr => ∃ i : Nat, i ≤ n0 ∧ gg = n0 - i ∧ si = .int .i64 i ∧ Hid (∃ a c T, Rt wr r (r + 1) a c T ∧ Ro P i T ∧ Below w.heap.size w wr ∧ r + 1 ≤ wr.heap.size))
  case atStart => exact ⟨0, by omega, rfl, rfl, Lib.hid ⟨none, 0, [], X1.out.1, ⟨fun x => by simp, List.Pairwise.nil, List.Pairwise.nil, rfl, fun p => by simp [cntP, cntL], fun j h => by omega⟩, X1.out.2.1, X1.out.2.2.2⟩⟩
  case round =>
    obtain ⟨i, hi, hg, rfl, Q⟩ := hrel
    have G := Lib.hid hg
    clear hg
    by_cases h0 : i < n0
    · as_aux_lemma =>
      have h0' : (i : Int) < (n0 : Int) := by omega
      have dz : decide ((i : Int) < 0) = false := decide_eq_false (by omega)
      have hkl : i < P.length := by rw [← HN.out]; exact h0
      obtain ⟨a, c, T, hT, hR, hB, hS⟩ := Q.out
      have RT := Lib.hid hT
      have RO := Lib.hid hR
      have BW := Lib.hid (And.intro hB hS)
      clear hT hR hB hS Q
      obtain ⟨bb, off, ea, q0, q1, q2, q3⟩ := row_atR (HV.out.below BW.out.1) i hkl
      subst ea
      obtain ⟨⟨xp, xn, xs, xv⟩, hx⟩ : ∃ x, x = P.getD i Bd.z := ⟨_, rfl⟩
      have XE := Lib.hid hx
      rw [← hx] at q0 q1 q2 q3
      simp only at q0 q1 q2 q3
      have XP : Hid (xp.size ≤ 1048576) := Lib.hid (by have := HP.out _ (getD_inR (d := Bd.z) hkl); rw [← hx] at this; exact this)
      have CL : Hid (∀ W, Below wr.heap.size wr W → W.cell? ⟨bb, off + i * 4, none⟩ = some (.string xp) ∧ W.cell? ⟨bb, off + i * 4 + 1, none⟩ = some (.string xn) ∧ W.cell? ⟨bb, off + i * 4 + 2, none⟩ = some (.string xs) ∧ W.cell? ⟨bb, off + i * 4 + 3, none⟩ = some (.int .i64 xv)) := Lib.hid (fun W hW => ⟨(hW.cell (block_lt_of_cell q0)).trans q0, (hW.cell (block_lt_of_cell q1)).trans q1, (hW.cell (block_lt_of_cell q2)).trans q2, (hW.cell (block_lt_of_cell q3)).trans q3⟩)
      have TL : Hid (T.length ≤ 900000) := Lib.hid (by rw [RO.out.n]; omega)
      have TS : Hid (∀ y ∈ T, y.1.p.size ≤ 1048576 ∧ y.1.p.size ≤ maxLen ∧ y.1.n.size ≤ maxLen) := Lib.hid (fun y hy => by
        have q := (bd_code _).2 (ro_sizes RO.out (by omega) y hy)
        have f := bd_fit q
        have g := bd_max q
        exact ⟨by omega, g.1, g.2⟩)
      clear hx q0 q1 q2 q3
      obtain ⟨S, hS⟩ : ∃ S, S = bdS ⟨xp, xn, xs, xv⟩ := ⟨_, rfl⟩
      have ES := Lib.hid hS
      obtain ⟨ai, hai⟩ : ∃ k, k = atI T xp xn := ⟨_, rfl⟩
      have AI := Lib.hid hai
      have VQ : Hid (∀ (dq : Nat) (os : Array Obj), Calls Tryd.prog 14 #[.agg #[.string xp, .string xn, .string xs, .int .i64 xv]] (Go.Sort.grow (redrawn wr dq) os) fun e w'' => e = .returned (.int .i64 (jdR S)) ∧ ∃ p : Regrown, w'' = Go.Sort.grow (redrawn wr p.d) p.os) := Lib.hid (fun dq os => by rw [hS]; exact Calls.regrown_of (refValidB_any ⟨xp, xn, xs, xv⟩ _ XP.out))
      have AQ : Hid (∀ (dq : Nat) (os : Array Obj), Calls Tryd.prog 15 #[.pointer (some ⟨r, 0, none⟩), .string xp, .string xn] (Go.Sort.grow (redrawn wr dq) os) fun e w'' => e = .returned (.int .i64 ai) ∧ ∃ p : Regrown, w'' = Go.Sort.grow (redrawn wr p.d) p.os) := Lib.hid (fun dq os => by rw [hai]; exact Calls.regrown_of (refAt_ex xp xn _ r (r + 1) a c T (RT.out.below (below_regrown wr dq os)) (by have := TL.out; omega)))
      have e0 : ∀ (dq : Nat) (os : Array Obj), (Go.Sort.grow (redrawn wr dq) os).cell? ⟨bb, off + i * 4, none⟩ = some (.string xp) := fun dq os => (CL.out _ (below_regrown wr dq os)).1
      have e1 : ∀ (dq : Nat) (os : Array Obj), (Go.Sort.grow (redrawn wr dq) os).cell? ⟨bb, off + i * 4 + 1, none⟩ = some (.string xn) := fun dq os => (CL.out _ (below_regrown wr dq os)).2.1
      have e2 : ∀ (dq : Nat) (os : Array Obj), (Go.Sort.grow (redrawn wr dq) os).cell? ⟨bb, off + i * 4 + 2, none⟩ = some (.string xs) := fun dq os => (CL.out _ (below_regrown wr dq os)).2.2.1
      have e3 : ∀ (dq : Nat) (os : Array Obj), (Go.Sort.grow (redrawn wr dq) os).cell? ⟨bb, off + i * 4 + 3, none⟩ = some (.int .i64 xv) := fun dq os => (CL.out _ (below_regrown wr dq os)).2.2.2
      clear hS hai
      go_upto_region 5 with fail
      go_cut [34] (fun s34 wx => s34 = .bool (S && decide (0 ≤ ai)) ∧ Hid (Below wr.heap.size wr wx))
      case first => as_aux_lemma =>
        cases S with
        | false =>
          unfold jdR at VQ
          simp only [Bool.false_eq_true, if_false] at VQ
          refine wp_region_quiet_below (by kernel_rfl) (by kernel_rfl) ?_
          repeat (go_big_quiet_step (first | with_reducible exact VQ.out _ _ | with_reducible exact AQ.out _ _))
          refine wpQuiet_nil ?_
          intro _ hw'
          obtain ⟨⟨dq, osq⟩, hw''⟩ := hw'
          subst hw''
          go_wp2_with fail
          go_meet
          case rel => exact ⟨rfl, Lib.hid (below_regrown wr dq osq)⟩
        | true =>
          unfold jdR at VQ
          simp only [if_true] at VQ
          by_cases hz : 0 ≤ ai
          · have d1 : decide (ai ≥ 0) = true := decide_eq_true hz
            have d2 : decide (0 ≤ ai) = true := decide_eq_true hz
            refine wp_region_quiet_below (by kernel_rfl) (by kernel_rfl) ?_
            repeat (go_big_quiet_step (first | with_reducible exact VQ.out _ _ | with_reducible exact AQ.out _ _))
            refine wpQuiet_nil ?_
            intro _ hw'
            obtain ⟨⟨dq, osq⟩, hw''⟩ := hw'
            subst hw''
            go_wp2_with fail
            go_meet
            case rel => exact ⟨by rw [d2]; rfl, Lib.hid (below_regrown wr dq osq)⟩
          · have d1 : decide (ai ≥ 0) = false := decide_eq_false hz
            have d2 : decide (0 ≤ ai) = false := decide_eq_false hz
            refine wp_region_quiet_below (by kernel_rfl) (by kernel_rfl) ?_
            repeat (go_big_quiet_step (first | with_reducible exact VQ.out _ _ | with_reducible exact AQ.out _ _))
            refine wpQuiet_nil ?_
            intro _ hw'
            obtain ⟨⟨dq, osq⟩, hw''⟩ := hw'
            subst hw''
            go_wp2_with fail
            go_meet
            case rel => exact ⟨by rw [d2]; rfl, Lib.hid (below_regrown wr dq osq)⟩
      case rest =>
        obtain ⟨rfl, BC⟩ := hcut
        clear e0 e1 e2 e3 VQ AQ
        have BX : Hid (Below w.heap.size w wc ∧ r + 1 ≤ wc.heap.size) := Lib.hid ⟨BW.out.1.trans (BC.out.mono BW.out.1.size), Nat.le_trans BW.out.2 BC.out.size⟩
        cases hb : (S && decide (0 ≤ ai)) with
        | true =>
          have OE : Hid (OfR P i 190) := Lib.hid (by
            rw [Bool.and_eq_true, decide_eq_true_eq] at hb
            have hv := (at_pos T xp xn).1 (by rw [← AI.out]; exact hb.2)
            exact ⟨RO.out.o, Or.inr ⟨hkl, Or.inr (Or.inl ⟨by rw [← XE.out, ← ES.out]; exact hb.1, by rw [← XE.out]; exact (RO.out.has ⟨xp, xn, xs, xv⟩).1 hv, rfl⟩), by decide⟩⟩)
          clear hb
          go_wp2_with fail
          go_ret2
          exact ⟨BX.out.1, i, 190, OE.out, Or.inl ⟨by decide, rfl⟩⟩
        | false =>
          have NV : Hid (bdS ⟨xp, xn, xs, xv⟩ = true → ¬ hasV T xp xn) := Lib.hid (fun hs hv => by
            have h1 := (at_pos T xp xn).2 hv
            rw [← AI.out] at h1
            have h2 : S = true := by rw [ES.out]; exact hs
            rw [h2, decide_eq_true h1] at hb
            exact absurd hb (by decide))
          have SE := Lib.hid (refSet_new ⟨xp, xn, xs, xv⟩ wc r (r + 1) a c T (RT.out.below BC.out) BX.out.2 (by have := TL.out; omega) XP.out NV.out (fun y hy => (TS.out y hy).1))
          unfold Bd.val at SE
          simp only at SE
          obtain ⟨p0, p1, p2, p3⟩ := CL.out wc BC.out
          clear hb
          go_wp2_with fail
          refine SE.out.mono ?_
          rintro e w5 ⟨kc, rfl, ⟨s1, rfl, hb5⟩ | ⟨s1, s2, rfl, hb5⟩ | ⟨s1, s2, rfl, hv, a', c', hT5, hk5⟩⟩
          · have OE : Hid (OfR P i 130) := Lib.hid ⟨RO.out.o, Or.inr ⟨hkl, Or.inl ⟨by rw [← XE.out]; exact s1, rfl⟩, by decide⟩⟩
            have F5 := Lib.hid (BX.out.1.trans (hb5.mono BX.out.1.size))
            clear hb5 SE p0 p1 p2 p3
            go_wp2_with fail
            go_ret2
            exact ⟨F5.out, i, 130, OE.out, Or.inl ⟨by decide, rfl⟩⟩
          · have OE : Hid (OfR P i 194) := Lib.hid ⟨RO.out.o, Or.inr ⟨hkl, Or.inr (Or.inr (Or.inl ⟨by rw [← XE.out]; exact s1, by rw [← XE.out]; exact fun h => NV.out s1 ((RO.out.has ⟨xp, xn, xs, xv⟩).2 h), by rw [← XE.out, ← RO.out.c]; exact s2, rfl⟩)), by decide⟩⟩
            have F5 := Lib.hid (BX.out.1.trans (hb5.mono BX.out.1.size))
            clear hb5 SE p0 p1 p2 p3
            go_wp2_with fail
            go_ret2
            exact ⟨F5.out, i, 194, OE.out, Or.inl ⟨by decide, rfl⟩⟩
          · have FN : Hid (∃ a c T, Rt w5 r (r + 1) a c T ∧ Ro P (i + 1) T ∧ Below w.heap.size w w5 ∧ r + 1 ≤ w5.heap.size) := Lib.hid (by
              have hx : (⟨xp, xn, xs, xv⟩ : Bd) = P.getD i Bd.z := XE.out
              refine ⟨a', c', _, hT5, ?_, BX.out.1.trans (hk5.below BX.out.1.size (fun y e => by rw [e]; have := X1.out.2.2.1; omega)), Nat.le_trans BX.out.2 hk5.size⟩
              have key := RO.out.put hkl (by rw [← hx]; exact hv) (by rw [← hx]; exact s1) (by rw [← hx]; exact fun h => NV.out s1 ((RO.out.has ⟨xp, xn, xs, xv⟩).2 h)) (by rw [← hx]; exact s2) (fun y hy => (TS.out y hy).2)
              have e : Bv.mk (P.getD i Bd.z) (by rw [← hx]; exact hv) = Bv.mk ⟨xp, xn, xs, xv⟩ hv := Subtype.ext hx.symm
              rw [e] at key
              exact key)
            clear hT5 hk5 SE p0 p1 p2 p3
            go_wp2_with fail
            go_roundg (n0 - (i + 1))
            case measure => have := G.out; omega
            case rel => exact ⟨i + 1, by omega, rfl, by go_num, FN⟩
    · obtain ⟨a, c, T, hT, hR, hB, hS⟩ := Q.out
      have ei : i = P.length := by rw [← HN.out]; omega
      have FN : Hid (Below w.heap.size w wr ∧ Rt wr r (r + 1) a c T ∧ Ro P P.length T ∧ OfR P P.length 0) := Lib.hid ⟨hB, hT, by rw [← ei]; exact hR, ⟨by rw [← ei]; exact hR.o, Or.inl ⟨rfl, rfl⟩⟩⟩
      clear hT hR hB hS Q ei
      go_wp2_with fail
      go_ret2
      exact ⟨FN.out.1, P.length, 0, FN.out.2.2.2, Or.inr ⟨rfl, r, r + 1, a, c, T, rfl, FN.out.2.1, FN.out.2.2.1⟩⟩
end Ac
end Go.Proofs.YtlbnmafopfljcaaDoor
