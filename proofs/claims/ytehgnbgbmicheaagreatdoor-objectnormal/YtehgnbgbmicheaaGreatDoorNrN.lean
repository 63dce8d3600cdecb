/-
  Normal of every list.
-/
import Derived.Test.YtehgnbgbmicheaaGreatDoorNrS
import Derived.Test.YtehgnbgbmicheaaGreatDoorNrE
import Derived.Test.YtehgnbgbmicheaaGreatDoorObV
import Derived.Shelf.SlSortCmp.NoneTotal
namespace Go.Proofs.YtehgnbgbmicheaaGreatDoor
open Go.RowKit Go.Lib
open Go.Sort (grow)
open Classical in
/-- The error and the list that Normal tells. -/
noncomputable def nrE (l : List Am) : Int := if l.all amB = false then 31 else if Ov (ent l) then 7 else if 16 < (nmsOf (ent l)).length then 23 else 0
open Classical in
noncomputable def nrL (l : List Am) : List Am := if l.all amB = false then [] else if Ov (ent l) then [] else if 16 < (nmsOf (ent l)).length then [] else outL (ent l)
theorem add_ok (x y : Int) (hx : 0 ≤ x) (hy : 0 ≤ y) (h : x + y ≤ 9223372036854775807) (w : World) : Calls Tryz.prog 67 #[.int .i64 x, .int .i64 y] w fun e w' => e = .returned (.tuple #[.int .i64 (x + y), .int .i64 0]) ∧ w' = w := by
  have gx : decide (x < 0) = false := decide_eq_false (by omega)
  have gy : decide (y < 0) = false := decide_eq_false (by omega)
  have go : decide (x > 9223372036854775807 - y) = false := decide_eq_false (by omega)
  go_enter Tryz.func67, Tryz.ntmps67
  go_wp2_with fail
  go_ret2
  exact ⟨rfl, rfl⟩
theorem add_over (x y : Int) (hx : 0 ≤ x) (hy : 0 ≤ y) (hy' : y ≤ 9223372036854775807) (h : 9223372036854775807 < x + y) (w : World) : Calls Tryz.prog 67 #[.int .i64 x, .int .i64 y] w fun e w' => e = .returned (.tuple #[.int .i64 0, .int .i64 7]) ∧ w' = w := by
  have gx : decide (x < 0) = false := decide_eq_false (by omega)
  have gy : decide (y < 0) = false := decide_eq_false (by omega)
  have go : decide (x > 9223372036854775807 - y) = true := decide_eq_true (by omega)
  go_enter Tryz.func67, Tryz.ntmps67
  go_wp2_with fail
  go_ret2
  exact ⟨rfl, rfl⟩
theorem am_pos {l : List Am} (h : l.all amB = true) : ∀ x ∈ l, 0 ≤ x.v := by
  intro x hx
  have q := List.all_eq_true.1 h x hx
  unfold amB at q
  rw [Bool.and_eq_true] at q
  exact of_decide_eq_true q.1
theorem ent_pos {l : List Am} (h : ∀ x ∈ l, 0 ≤ x.v) : ∀ e ∈ ent l, 0 ≤ e.2 := by
  intro e he
  obtain ⟨x, hx, rfl⟩ := List.mem_map.1 he
  exact h x hx
theorem Ov_perm {es fs : List En} (h : es.Perm fs) : Ov es ↔ Ov fs := by
  unfold Ov
  constructor
  · rintro ⟨n, q⟩; exact ⟨n, by rw [← Tot_perm h n]; exact q⟩
  · rintro ⟨n, q⟩; exact ⟨n, by rw [Tot_perm h n]; exact q⟩
/-- What is told of the sorted list is what is told of the list. -/
theorem row_cells {w : World} {b off n cap : Nat} {l : List Am} (H : Row kAm w (.slice (some ⟨b, off, none⟩) n cap) l) : ∀ j u, (cellsR kAm l)[j]? = some u → w.cell? ⟨b, off + j, none⟩ = some u := by
  intro j u hj
  have hlen : j < l.length * 2 := by
    have := (List.getElem?_eq_some_iff.1 hj).1
    rw [cellsR_length okAm] at this
    exact this
  have e : j = j / 2 * kAm.k + j % 2 := by show j = j / 2 * 2 + j % 2; omega
  rw [e, cellsR_at okAm l (j / 2) (by omega) (j % 2) (Nat.mod_lt _ (by decide))] at hj
  obtain ⟨b', off', e', hc⟩ := H.at (j / 2) (by omega)
  simp only [Option.some.injEq, Addr.mk.injEq, and_true] at e'
  obtain ⟨rfl, rfl⟩ := e'
  have q := hc (j % 2) u hj
  rw [Nat.add_assoc, ← e] at q
  exact q
theorem nr_of {l S : List Am} (hp : S.Perm l) (hR : Ris S) (ha : l.all amB = true) (ho : ¬ Ov (ent S)) : nrE l = (if 16 < (sms (ent S)).length then 23 else 0) ∧ nrL l = (if 16 < (sms (ent S)).length then [] else sms (ent S)) := by
  have e1 := outL_perm (ent_perm hp)
  have e2 := sms_out S hR
  have e3 : ¬ Ov (ent l) := fun q => ho ((Ov_perm (ent_perm hp)).2 q)
  have e4 : (nmsOf (ent l)).length = (sms (ent S)).length := by rw [e2, e1, out_len]
  refine ⟨?_, ?_⟩
  · unfold nrE
    rw [ha, if_neg (show ¬ true = false by decide), if_neg e3, e4]
  · unfold nrL
    rw [ha, if_neg (show ¬ true = false by decide), if_neg e3, e4, e2, e1]
set_option maxHeartbeats 8000000 in
set_option maxRecDepth 100000 in
theorem normal_any (v : Value) (l : List Am) (w : World) (hv : Row kAm w v l) (hpl : ∀ ad n c, v = .slice (some ad) n c → ∃ b off, ad = ⟨b, off, none⟩) (hz : l.length * 24 ≤ 140737488355328) (hf : ∀ x ∈ l, x.v ≤ 9223372036854775807) :
    Calls Tryz.prog 35 #[v] w fun e w' => ∃ a n c, e = .returned (.tuple #[.slice a n c, .int .i64 (nrE l)]) ∧ OwnR kAm w.heap.size w' (.slice a n c) (nrL l) ∧ Below w.heap.size w w' := by
  have V := Lib.hid hv
  obtain ⟨va, vc, rfl, hlc, hcm⟩ := hv.len
  unfold maxLen at hcm
  obtain ⟨n, hn⟩ : ∃ n, n = l.length := ⟨_, rfl⟩
  rw [← hn] at hlc hz V ⊢
  have HN := Lib.hid hn
  have NZ := Lib.hid hz
  have HF := Lib.hid hf
  have HPL : Hid (∀ ad, va = some ad → ∃ b off, ad = ⟨b, off, none⟩) := Lib.hid fun ad e => hpl ad n vc (by rw [e, hn])
  clear hv hn hf hz hpl
  go_enter Tryz.func35, Tryz.ntmps35
  go_wp2_with fail
  go_loopg [15] n (fun g si wr => ∃ (k : Nat), k ≤ n ∧ g = n - k ∧ si = .int .i64 k ∧ (l.take k).all amB = true ∧ Below w.heap.size w wr)
  case atStart => exact ⟨0, Nat.zero_le _, rfl, rfl, by simp, Below.refl _ _⟩
  case round =>
    obtain ⟨k, hk, hg, rfl, ha, hb⟩ := hrel
    have R : Hid (gk = n - k ∧ (l.take k).all amB = true ∧ Below w.heap.size w wr) := Lib.hid ⟨hg, ha, hb⟩
    clear hg ha hb
    by_cases hlt : k < n
    · have hlt' : (k : Int) < (n : Int) := by omega
      have hkl : k < l.length := by rw [← HN.out]; exact hlt
      obtain ⟨b, off, rfl, pc⟩ := (V.out.below R.out.2.2).at k hkl
      have TK := Lib.hid (take_onez l k kAm.z hkl)
      have IN := Lib.hid (getD_in (d := kAm.z) hkl)
      obtain ⟨⟨xn, xv⟩, hx⟩ : ∃ x, x = l.getD k kAm.z := ⟨_, rfl⟩
      rw [← hx] at pc TK IN
      have c0 : wr.cell? ⟨b, off + k * 2, none⟩ = some (.string xn) := pc 0 _ rfl
      have c1 : wr.cell? ⟨b, off + k * 2 + 1, none⟩ = some (.int .i64 xv) := pc 1 _ rfl
      clear hx pc hkl
      obtain ⟨bb, hbb⟩ : ∃ bb, bb = amB ⟨xn, xv⟩ := ⟨_, rfl⟩
      have AM : Hid (∀ o, Calls Tryz.prog 62 #[.agg #[.string xn, .int .i64 xv]] (wr.alloc o) fun e w' => e = .returned (.bool bb) ∧ Below w.heap.size w w') := Lib.hid fun o => by
        have b1 : Below w.heap.size w (wr.alloc o) := R.out.2.2.alloc R.out.2.2.size _
        rw [hbb]
        exact (amount_any ⟨xn, xv⟩ _).mono fun _ _ ⟨e, q⟩ => ⟨e, b1.trans (q.mono b1.size)⟩
      have HB := Lib.hid hbb
      clear hbb
      go_wp2_with fail
      refine (AM.out _).mono ?_
      rintro e w1 ⟨rfl, hb1⟩
      have B1 := Lib.hid hb1
      clear hb1 AM c0 c1
      cases bb with
      | true =>
        go_wp2_with fail
        go_roundg (n - (k + 1))
        case measure => have := R.out.1; omega
        case rel => exact ⟨k + 1, by omega, rfl, by go_num, by rw [TK.out, List.all_append, R.out.2.1]; show (amB ⟨xn, xv⟩ && true) = true; rw [← HB.out]; rfl, B1.out⟩
      | false =>
        have E : Hid (nrE l = 31 ∧ nrL l = []) := Lib.hid (by
          have q : l.all amB = false := by
            cases h : l.all amB with
            | false => rfl
            | true => have := List.all_eq_true.1 h _ IN.out; rw [← HB.out] at this; cases this
          unfold nrE nrL
          rw [if_pos q, if_pos q]; exact ⟨rfl, rfl⟩)
        go_wp2_with fail
        go_ret2
        refine ⟨none, 0, 0, by rw [E.out.1]; rfl, ?_, B1.out⟩
        rw [E.out.2]; exact OwnR.nil _ _ _
    · have AA : Hid (l.all amB = true) := Lib.hid (by have := R.out.2.1; rw [List.take_of_length_le (by rw [← HN.out]; omega)] at this; exact this)
      have B0 := Lib.hid R.out.2.2
      obtain ⟨w1, hw1⟩ : ∃ W, W = wr := ⟨_, rfl⟩
      rw [← hw1] at B0 ⊢
      clear hw1 R
      cases va with
      | none =>
        have L0 : Hid (l = [] ∧ n = 0) := Lib.hid (by
          obtain ⟨a, cap, e, h1, h2, h0, _⟩ := V.out
          simp only [Value.slice.injEq] at e
          have z : cap = 0 := h0 e.1.symm
          have z2 : l.length = 0 := by omega
          exact ⟨List.length_eq_zero_iff.1 z2, by rw [HN.out]; exact z2⟩)
        obtain rfl : n = 0 := L0.out.2
        have E : Hid (nrE l = 0 ∧ nrL l = []) := Lib.hid (by
          have h := nr_of (l := l) (S := l) (List.Perm.refl _) (by rw [L0.out.1]; exact List.Pairwise.nil) AA.out (by rw [L0.out.1]; rintro ⟨y, hy⟩; simp [ent, Tot, maxA] at hy)
          rw [L0.out.1] at h ⊢
          exact h)
        have CN := Lib.hid (Tryz.slices_Clone_nil_f63 0 vc w1)
        have SN := Lib.hid (AnyF.slices_SortFunc_none Tryz.laysSlF06_f64 none 0 (.func (.func 65) #[] #[]) w1)
        go_wp2_with fail
        refine CN.out.mono ?_
        rintro e w2 ⟨rfl, rfl⟩
        go_wp2_with fail
        refine SN.out.mono ?_
        rintro e w3 ⟨rfl, rfl⟩
        go_wp2_with fail
        refine wp_loop_rounds 1 ?_
        rw [rounds_succ]
        go_wp2_with fail
        go_ret2
        refine ⟨none, 0, 0, by rw [E.out.1]; rfl, ?_, B0.out⟩
        rw [E.out.2]; exact OwnR.nil _ _ _
      | some ad =>
        obtain ⟨b, off, rfl⟩ := HPL.out ad rfl
        obtain ⟨i0, hi, hz0, hz1, hz2⟩ := amt_info
        have CL := Lib.hid (Tryz.slices_Clone_f63 i0 _ 2 24 hi hz0 hz1 hz2 rfl (by decide) amt_size b off n vc (cellsR kAm l) w1 (by rw [cellsR_length okAm, HN.out]; rfl) (by unfold maxLen; omega) NZ.out (row_cells (V.out.below B0.out)) (cellsR_one okAm l))
        clear hi hz0 hz1 hz2
        go_wp2_with fail
        refine CL.out.mono ?_
        rintro e w2 ⟨v', rfl, hown, hne, hb2⟩
        obtain ⟨g, cap, rfl, hO⟩ : ∃ g cap, v' = .slice (some ⟨g, 0, none⟩) n cap ∧ OwnR kAm w1.heap.size w2 (.slice (some ⟨g, 0, none⟩) n cap) l := by
          have hO : OwnR kAm w1.heap.size w2 v' l := by show w2.ownsRow _ _ _ _ _ _; rw [← HN.out]; exact hown
          obtain ⟨_, ⟨q, _⟩ | ⟨g, cap, cur, hv, _⟩⟩ := hown
          · exact absurd q hne
          · subst hv; exact ⟨g, cap, rfl, hO⟩
        have C2 : Hid (OwnR kAm w1.heap.size w2 (.slice (some ⟨g, 0, none⟩) n cap) l ∧ Below w.heap.size w w2) := Lib.hid ⟨hO, B0.out.trans (hb2.mono B0.out.size)⟩
        have SO := Lib.hid (sort_any C2.out.1 (by rw [← HN.out]; have := NZ.out; omega))
        clear hown hne hb2 hO CL
        go_wp2_with fail
        refine SO.out.mono ?_
        rintro e w3 ⟨rfl, S, hp, hR, hrow, hgr⟩
        have C3 : Hid (Row kAm w3 (.slice (some ⟨g, 0, none⟩) n cap) S ∧ S.Perm l ∧ Ris S ∧ Below w.heap.size w w3) := Lib.hid ⟨hrow, hp, hR, by
          have q := C2.out.2
          exact q.grown hgr q.size (fun j hj => by cases hj; exact Nat.le_trans B0.out.size (C2.out.1.lt g rfl).1)⟩
        have SL : Hid (S.length = n) := Lib.hid (by rw [hp.length_eq, HN.out])
        clear hp hR hrow hgr SO
        have hcc : n ≤ cap ∧ cap ≤ 9223372036854775807 := by
          obtain ⟨_, _, e1, q1, q2⟩ := C3.out.1.len
          simp only [Value.slice.injEq] at e1
          unfold maxLen at q2
          rw [← e1.2.2] at q1 q2
          rw [SL.out] at q1
          exact ⟨q1, q2⟩
        obtain ⟨hcc1, hcc2⟩ := hcc
        go_wp2_with fail
        go_loopg [7, 29] n (fun g0 so si wr => ∃ (k : Nat) (sa : Option Addr) (m c : Nat), k ≤ n ∧ g0 = n - k ∧ si = .int .i64 k ∧ so = .slice sa m c ∧ OwnR kAm w3.heap.size wr (.slice sa m c) (sms (ent (S.take k))) ∧ ¬ Ov (ent (S.take k)) ∧ Below w3.heap.size w3 wr)
        case atStart => exact ⟨0, none, 0, 0, Nat.zero_le _, rfl, rfl, rfl, OwnR.nil _ _ _, (by rintro ⟨y, hy⟩; simp [ent, Tot, maxA] at hy), Below.refl _ _⟩
        case round =>
          obtain ⟨k, sa, m, c, hk, hg, rfl, rfl, ho, hov, hb⟩ := hrel
          obtain ⟨E, hE⟩ : ∃ E, E = ent (S.take k) := ⟨_, rfl⟩
          rw [← hE] at ho hov
          have R : Hid (gk = n - k ∧ OwnR kAm w3.heap.size wr (.slice sa m c) (sms E) ∧ ¬ Ov E ∧ Below w3.heap.size w3 wr) := Lib.hid ⟨hg, ho, hov, hb⟩
          have LM : Hid (m = (nmF E).length) := Lib.hid (by obtain ⟨_, _, e⟩ := ho.slice; simp only [Value.slice.injEq] at e; rw [← sms_len]; exact e.2.1)
          have EE := Lib.hid hE
          clear hg ho hov hb hE
          by_cases hlt2 : k < n
          · have hlt' : (k : Int) < (n : Int) := by omega
            have hkl : k < S.length := by rw [SL.out]; exact hlt2
            obtain ⟨b2, off2, e2, pc⟩ := (C3.out.1.below R.out.2.2.2).at k hkl
            simp only [Option.some.injEq, Addr.mk.injEq, and_true] at e2
            obtain ⟨rfl, rfl⟩ := e2
            have RN := Lib.hid (ris_names S C3.out.2.2.1 k (by omega))
            have XI := Lib.hid (getD_in (d := kAm.z) hkl)
            have PR : Hid (0 < k → (S.getD (k - 1) kAm.z).n.data.toList ≤ (S.getD k kAm.z).n.data.toList) := Lib.hid (fun h0 => by
              have q := List.pairwise_iff_getElem.1 C3.out.2.2.1 (k - 1) k (by omega) hkl (by omega)
              rw [getD_ge _ _ _ (by omega), getD_ge _ _ _ hkl]; exact q)
            have ES : Hid (ent (S.take (k + 1)) = E ++ [((S.getD k kAm.z).n.data.toList, (S.getD k kAm.z).v)]) := Lib.hid (by rw [take_onez S k kAm.z hkl, ent_app, EE.out]; rfl)
            have EL : Hid (E.length = k) := Lib.hid (by rw [EE.out]; simp [ent]; omega)
            obtain ⟨⟨xn, xv⟩, hx⟩ : ∃ x, x = S.getD k kAm.z := ⟨_, rfl⟩
            rw [← hx] at pc XI PR ES
            simp only at ES PR
            rw [← EE.out] at RN
            have XV : Hid (0 ≤ xv ∧ xv ≤ 9223372036854775807) := Lib.hid (by
              have q := C3.out.2.1.mem_iff.1 XI.out
              exact ⟨am_pos AA.out _ q, HF.out _ q⟩)
            have c0 : wr.cell? ⟨g, 0 + k * 2, none⟩ = some (.string xn) := pc 0 _ rfl
            have c1 : wr.cell? ⟨g, 0 + k * 2 + 1, none⟩ = some (.int .i64 xv) := pc 1 _ rfl
            rw [Nat.zero_add] at c0 c1
            clear hx pc hkl
            obtain ⟨Wb, hWb⟩ : ∃ W, W = wr.alloc (.cells #[.string xn, .int .i64 xv] 56) := ⟨_, rfl⟩
            obtain ⟨gx, hgx⟩ : ∃ x, x = wr.heap.size := ⟨_, rfl⟩
            have BW : Hid (OwnR kAm w3.heap.size Wb (.slice sa m c) (sms E) ∧ Below w3.heap.size w3 Wb ∧ Wb.cell? ⟨gx, 0, none⟩ = some (.string xn) ∧ Wb.cell? ⟨gx, 1, none⟩ = some (.int .i64 xv)) := Lib.hid (by
              have q : Below wr.heap.size wr Wb := by rw [hWb]; exact (Below.refl _ wr).alloc (Nat.le_refl _) _
              refine ⟨R.out.2.1.below q, R.out.2.2.2.trans (q.mono R.out.2.2.2.size), ?_, ?_⟩
              · rw [hWb, hgx, World.cell?_alloc_new]; rfl
              · rw [hWb, hgx, World.cell?_alloc_new]; rfl)
            have EW := Lib.hid (And.intro hWb hgx)
            clear hWb hgx
            have hmb : m ≤ k := by rw [LM.out]; exact Nat.le_trans (nmF_len E) (by rw [EL.out]; exact Nat.le_refl _)
            rcases Nat.eq_zero_or_pos m with hm0 | hm0
            · subst hm0
              have NI : Hid (xn.data.toList ∉ nmF E) := Lib.hid (by
                have z := LM.out
                rw [List.length_eq_zero_iff.1 z.symm]; simp)
              go_wp2_with fail
              rw [← EW.out.1, ← EW.out.2]
              clear EW
              refine wp_region_quiet_below (by kernel_rfl) (by kernel_rfl) ?_
              repeat (go_big_quiet_step (fail))
              refine wpQuiet_nil ?_
              rintro _ ⟨⟨dq, osq⟩, hw''⟩
              subst hw''
              have QB := below_regrown Wb dq osq
              obtain ⟨W5, hW5⟩ : ∃ W, W = grow (redrawn Wb dq) osq := ⟨_, rfl⟩
              rw [← hW5] at QB ⊢
              have S5 : Hid (OwnR kAm w3.heap.size W5 (.slice sa 0 c) (sms E) ∧ Below w3.heap.size w3 W5 ∧ W5.cell? ⟨gx, 0, none⟩ = some (.string xn) ∧ W5.cell? ⟨gx, 1, none⟩ = some (.int .i64 xv)) := Lib.hid ⟨BW.out.1.below QB, BW.out.2.1.trans (QB.mono BW.out.2.1.size), (QB.cell (block_lt_of_cell BW.out.2.2.1)).trans BW.out.2.2.1, (QB.cell (block_lt_of_cell BW.out.2.2.2)).trans BW.out.2.2.2⟩
              clear hW5 QB
              have LN : Hid (((sms E).length + 1) * kAm.b ≤ 140737488355328) := Lib.hid (by
                have q : (sms E).length ≤ k := by rw [sms_len]; exact Nat.le_trans (nmF_len E) (by rw [EL.out]; exact Nat.le_refl _)
                have q2 := NZ.out
                show ((sms E).length + 1) * 24 ≤ _
                omega)
              have NX : Hid (sms (ent (S.take (k + 1))) = sms E ++ [(⟨xn, xv⟩ : Am)]) := Lib.hid (by
                rw [ES.out]; exact sms_new E _ xv NI.out)
              have NO : Hid (¬ Ov (ent (S.take (k + 1)))) := Lib.hid (by
                rw [ES.out]
                rintro ⟨y, hy⟩
                rw [Tot_app, Tot_one] at hy
                simp only at hy
                split at hy
                · rename_i q
                  rw [← q, Tot_none (fun z => NI.out ((mem_nmF _ _).2 z))] at hy
                  have := XV.out
                  unfold maxA at hy
                  omega
                · exact R.out.2.2.1 ⟨y, by simpa using hy⟩)
              have WZ : Hid (w3.heap.size ≤ W5.heap.size) := Lib.hid S5.out.2.1.size
              have t0 := S5.out.2.2.1
              have t1 := S5.out.2.2.2
              go_wp2_with (at_builtin; refine app_rowB okAm (gg := W5.heap.size) rfl _ _ rfl rfl S5.out.1 WZ.out ⟨xn, xv⟩ (by simp) rfl rfl LN.out ?_; intro v' w' h1 h2)
              obtain ⟨a2, c2, rfl⟩ := h1.slice
              have Z : Hid (OwnR kAm w3.heap.size w' (.slice a2 (sms E ++ [(⟨xn, xv⟩ : Am)]).length c2) (sms (ent (S.take (k + 1)))) ∧ Below w3.heap.size w3 w') := Lib.hid ⟨by rw [NX.out]; exact h1, S5.out.2.1.trans (grown_belowR h2 S5.out.1 WZ.out)⟩
              clear h1 h2 t0 t1
              go_wp2_with fail
              go_roundg (n - (k + 1))
              case measure => have := R.out.1; omega
              case rel => exact ⟨k + 1, a2, _, c2, by omega, rfl, by go_num, rfl, Z.out.1, NO.out, Z.out.2⟩
            · obtain ⟨p, rfl⟩ : ∃ p, m = p + 1 := ⟨m - 1, by omega⟩
              obtain ⟨g7, ega, -, hB7, hl7⟩ := R.out.2.1.someOf (by rw [sms_len, ← LM.out]; omega)
              subst ega
              have PL : Hid (p < (nmF E).length) := Lib.hid (by rw [← LM.out]; omega)
              obtain ⟨qn, hqn⟩ : ∃ q, q = (nmF E).getD p [] := ⟨_, rfl⟩
              obtain ⟨q0, hq0⟩ : ∃ q : ByteArray, q = ⟨qn.toArray⟩ := ⟨_, rfl⟩
              obtain ⟨T, hT⟩ : ∃ T, T = Tot E qn := ⟨_, rfl⟩
              have LA : Hid ((sms E).getD p kAm.z = ⟨q0, T⟩) := Lib.hid (by rw [sms_at E p PL.out, ← hqn]; unfold fAm; rw [hq0, hT])
              have YC : Hid (∀ W, OwnR kAm w3.heap.size W (.slice (some ⟨g7, 0, none⟩) (p + 1) c) (sms E) → W.cell? ⟨g7, p * 2, none⟩ = some (.string q0) ∧ W.cell? ⟨g7, p * 2 + 1, none⟩ = some (.int .i64 T) ∧ W.frozen? ⟨g7, p * 2 + 1, none⟩ = false) := Lib.hid fun W hW => by
                obtain ⟨cur, -, -, hq, -⟩ := hW.parts
                obtain ⟨b', off', e', hcc⟩ := (hW.row okAm).at p (by rw [sms_len]; exact PL.out)
                simp only [Option.some.injEq, Addr.mk.injEq, and_true] at e'
                obtain ⟨rfl, rfl⟩ := e'
                rw [LA.out] at hcc
                have t0 := hcc 0 _ rfl
                have t1 := hcc 1 _ rfl
                rw [Nat.zero_add] at t0 t1
                exact ⟨t0, t1, frozen_row hq _⟩
              have QN : Hid (qn = (nmF E).getD p [] ∧ q0 = ⟨qn.toArray⟩ ∧ T = Tot E qn) := Lib.hid ⟨hqn, hq0, hT⟩
              have LS : Hid (qn = (S.getD (k - 1) kAm.z).n.data.toList ∧ 0 < k) := Lib.hid (by
                have h0 : 0 < k := by omega
                have q := (RN.out.2.2 h0).2
                rw [← LM.out] at q
                rw [hqn]
                exact ⟨q, h0⟩)
              clear hqn hq0 hT
              obtain ⟨y0, y1, -⟩ := YC.out Wb BW.out.1
              have z0 := BW.out.2.2.1
              have r0 : ∀ (dq : Nat) (os : Array Obj), (grow (redrawn Wb dq) os).cell? ⟨g7, p * 2, none⟩ = some (.string q0) := fun dq os => cell_regrown y0 dq os
              have r1 : ∀ (dq : Nat) (os : Array Obj), (grow (redrawn Wb dq) os).cell? ⟨gx, 0, none⟩ = some (.string xn) := fun dq os => cell_regrown z0 dq os
              have hp1 : (p : Int) < (p : Int) + 1 := by omega
              have gp : decide ((p : Int) < 0) = false := decide_eq_false (by omega)
              clear y0 y1 z0
              by_cases he : xn.data.toList = qn
              · have ge : (q0.toList == xn.toList) = true := by
                  rw [ByteArray.toList_eq, ByteArray.toList_eq, QN.out.2.1]
                  show (qn.toArray.toList == xn.data.toList) = true
                  rw [he]; simp
                have HE := Lib.hid he
                clear he
                go_wp2_with fail
                rw [← EW.out.1, ← EW.out.2]
                clear EW
                refine wp_region_quiet_below (by kernel_rfl) (by kernel_rfl) ?_
                repeat (go_big_quiet_step (fail))
                refine wpQuiet_nil ?_
                rintro _ ⟨⟨dq, osq⟩, hw''⟩
                subst hw''
                have QB := below_regrown Wb dq osq
                obtain ⟨W5, hW5⟩ : ∃ W, W = grow (redrawn Wb dq) osq := ⟨_, rfl⟩
                rw [← hW5] at QB ⊢
                have S5 : Hid (OwnR kAm w3.heap.size W5 (.slice (some ⟨g7, 0, none⟩) (p + 1) c) (sms E) ∧ Below w3.heap.size w3 W5 ∧ W5.cell? ⟨gx, 0, none⟩ = some (.string xn) ∧ W5.cell? ⟨gx, 1, none⟩ = some (.int .i64 xv)) := Lib.hid ⟨BW.out.1.below QB, BW.out.2.1.trans (QB.mono BW.out.2.1.size), (QB.cell (block_lt_of_cell BW.out.2.2.1)).trans BW.out.2.2.1, (QB.cell (block_lt_of_cell BW.out.2.2.2)).trans BW.out.2.2.2⟩
                clear hW5 QB r0 r1
                obtain ⟨u0, u1, -⟩ := YC.out W5 S5.out.1
                have u2 := S5.out.2.2.2
                have s0 : ∀ (dq : Nat) (os : Array Obj), (grow (redrawn W5 dq) os).cell? ⟨g7, p * 2 + 1, none⟩ = some (.int .i64 T) := fun dq os => cell_regrown u1 dq os
                have s1 : ∀ (dq : Nat) (os : Array Obj), (grow (redrawn W5 dq) os).cell? ⟨gx, 1, none⟩ = some (.int .i64 xv) := fun dq os => cell_regrown u2 dq os
                have TP : Hid (0 ≤ T) := Lib.hid (by
                  rw [QN.out.2.2, EE.out]
                  exact Tot_pos (ent_pos fun x hx => am_pos AA.out x (C3.out.2.1.mem_iff.1 (List.mem_of_mem_take hx))) qn)
                clear u0 u1 u2
                by_cases hov : T + xv ≤ 9223372036854775807
                · have AQ : Hid (∀ d os, Calls Tryz.prog 67 #[.int .i64 T, .int .i64 xv] (grow (redrawn W5 d) os) fun e w'' => e = .returned (.tuple #[.int .i64 (T + xv), .int .i64 0]) ∧ ∃ p : Regrown, w'' = grow (redrawn W5 p.d) p.os) := Lib.hid fun d os => Calls.regrown_of ((add_ok T xv TP.out XV.out.1 hov _).mono fun _ _ ⟨e, q⟩ => ⟨e, by rw [q]; exact Below.refl _ _⟩)
                  have NX : Hid (sms (ent (S.take (k + 1))) = (sms E).set p ⟨q0, T + xv⟩) := Lib.hid (by
                    rw [ES.out, sms_old E xn.data.toList xv p PL.out (by rw [HE.out, QN.out.1]), HE.out, QN.out.2.1, QN.out.2.2])
                  have NO : Hid (¬ Ov (ent (S.take (k + 1)))) := Lib.hid (by
                    rw [ES.out]
                    rintro ⟨y, hy⟩
                    rw [Tot_app, Tot_one] at hy
                    simp only at hy
                    split at hy
                    · rename_i q
                      rw [← q, HE.out, ← QN.out.2.2] at hy
                      unfold maxA at hy
                      omega
                    · exact R.out.2.2.1 ⟨y, by simpa using hy⟩)
                  clear hov
                  go_wp2_with fail
                  refine wp_region_quiet_below (by kernel_rfl) (by kernel_rfl) ?_
                  repeat (go_big_quiet_step (first | with_reducible exact AQ.out _ _))
                  refine wpQuiet_nil ?_
                  rintro _ ⟨⟨dq, osq⟩, hw''⟩
                  subst hw''
                  have QB := below_regrown W5 dq osq
                  obtain ⟨W6, hW6⟩ : ∃ W, W = grow (redrawn W5 dq) osq := ⟨_, rfl⟩
                  rw [← hW6] at QB ⊢
                  have S6 : Hid (OwnR kAm w3.heap.size W6 (.slice (some ⟨g7, 0, none⟩) (p + 1) c) (sms E) ∧ Below w3.heap.size w3 W6) := Lib.hid ⟨S5.out.1.below QB, S5.out.2.1.trans (QB.mono S5.out.2.1.size)⟩
                  clear hW6 QB s0 s1 AQ
                  obtain ⟨-, u1, u3⟩ := YC.out W6 S6.out.1
                  have ST : Hid (OwnR kAm w3.heap.size (W6.setCell ⟨g7, p * 2 + 1, none⟩ (.int .i64 (T + xv))) (.slice (some ⟨g7, 0, none⟩) (p + 1) c) (sms (ent (S.take (k + 1)))) ∧ Below w3.heap.size w3 (W6.setCell ⟨g7, p * 2 + 1, none⟩ (.int .i64 (T + xv)))) := Lib.hid ⟨by
                    rw [NX.out]
                    exact S6.out.1.set okAm p 1 (by rw [sms_len]; exact PL.out) (by decide) ⟨q0, T + xv⟩ (.int .i64 (T + xv)) (by rw [LA.out]; rfl), S6.out.2.setCell (p := ⟨g7, p * 2 + 1, none⟩) hB7 _⟩
                  go_wp2_with fail
                  obtain ⟨W7, hW7⟩ : ∃ W, W = W6.setCell ⟨g7, p * 2 + 1, none⟩ (.int .i64 (T + xv)) := ⟨_, rfl⟩
                  rw [← hW7] at ST ⊢
                  clear hW7 u1 u3
                  go_wp2_with fail
                  go_roundg (n - (k + 1))
                  case measure => have := R.out.1; omega
                  case rel => exact ⟨k + 1, some ⟨g7, 0, none⟩, p + 1, c, by omega, rfl, by go_num, rfl, ST.out.1, NO.out, ST.out.2⟩
                · have AQ : Hid (∀ d os, Calls Tryz.prog 67 #[.int .i64 T, .int .i64 xv] (grow (redrawn W5 d) os) fun e w'' => e = .returned (.tuple #[.int .i64 0, .int .i64 7]) ∧ ∃ p : Regrown, w'' = grow (redrawn W5 p.d) p.os) := Lib.hid fun d os => Calls.regrown_of ((add_over T xv TP.out XV.out.1 XV.out.2 (by omega) _).mono fun _ _ ⟨e, q⟩ => ⟨e, by rw [q]; exact Below.refl _ _⟩)
                  have EO : Hid (nrE l = 7 ∧ nrL l = []) := Lib.hid (by
                    have o1 : Ov (ent (S.take (k + 1))) := by
                      rw [ES.out]
                      refine ⟨qn, ?_⟩
                      rw [Tot_app, Tot_one, if_pos (by simp only; exact HE.out), ← QN.out.2.2]
                      unfold maxA
                      simp only
                      omega
                    have o2 : Ov (ent S) := by
                      have q : ent S = ent (S.take (k + 1)) ++ ent (S.drop (k + 1)) := by rw [← ent_app, List.take_append_drop]
                      rw [q]
                      exact Ov_app o1 (ent_pos fun x hx => am_pos AA.out x (C3.out.2.1.mem_iff.1 (List.mem_of_mem_drop hx)))
                    have o3 := (Ov_perm (ent_perm C3.out.2.1)).1 o2
                    unfold nrE nrL
                    rw [AA.out]
                    simp only [Bool.true_eq_false, if_false, if_pos o3, and_self])
                  have FB : Hid (∀ W, Below w3.heap.size w3 W → Below w.heap.size w W) := Lib.hid fun W hb => C3.out.2.2.2.trans (hb.mono C3.out.2.2.2.size)
                  clear hov
                  go_wp2_with fail
                  refine wp_region_quiet_below (by kernel_rfl) (by kernel_rfl) ?_
                  repeat (go_big_quiet_step (first | with_reducible exact AQ.out _ _))
                  refine wpQuiet_nil ?_
                  rintro _ ⟨⟨dq, osq⟩, hw''⟩
                  subst hw''
                  go_wp2_with fail
                  go_ret2
                  refine ⟨none, 0, 0, by rw [EO.out.1]; rfl, ?_, FB.out _ (S5.out.2.1.trans ((below_regrown W5 dq osq).mono S5.out.2.1.size))⟩
                  rw [EO.out.2]; exact OwnR.nil _ _ _
              · have ge : (q0.toList == xn.toList) = false := by
                  rw [ByteArray.toList_eq, ByteArray.toList_eq, QN.out.2.1, beq_eq_false_iff_ne]
                  show qn.toArray.toList ≠ xn.data.toList
                  rw [List.toList_toArray]
                  exact fun e => he e.symm
                have NI : Hid (xn.data.toList ∉ nmF E) := Lib.hid (fun q => he (by
                  have q1 := RN.out.2.1 _ q LS.out.2
                  have q2 := PR.out LS.out.2
                  rw [LS.out.1]
                  exact List.le_antisymm q1 q2))
                clear he
                go_wp2_with fail
                rw [← EW.out.1, ← EW.out.2]
                clear EW
                refine wp_region_quiet_below (by kernel_rfl) (by kernel_rfl) ?_
                repeat (go_big_quiet_step (fail))
                refine wpQuiet_nil ?_
                rintro _ ⟨⟨dq, osq⟩, hw''⟩
                subst hw''
                have QB := below_regrown Wb dq osq
                obtain ⟨W5, hW5⟩ : ∃ W, W = grow (redrawn Wb dq) osq := ⟨_, rfl⟩
                rw [← hW5] at QB ⊢
                have S5 : Hid (OwnR kAm w3.heap.size W5 (.slice (some ⟨g7, 0, none⟩) (p + 1) c) (sms E) ∧ Below w3.heap.size w3 W5 ∧ W5.cell? ⟨gx, 0, none⟩ = some (.string xn) ∧ W5.cell? ⟨gx, 1, none⟩ = some (.int .i64 xv)) := Lib.hid ⟨BW.out.1.below QB, BW.out.2.1.trans (QB.mono BW.out.2.1.size), (QB.cell (block_lt_of_cell BW.out.2.2.1)).trans BW.out.2.2.1, (QB.cell (block_lt_of_cell BW.out.2.2.2)).trans BW.out.2.2.2⟩
                clear hW5 QB r0 r1
                have LN : Hid (((sms E).length + 1) * kAm.b ≤ 140737488355328) := Lib.hid (by
                  have q : (sms E).length ≤ k := by rw [sms_len]; exact Nat.le_trans (nmF_len E) (by rw [EL.out]; exact Nat.le_refl _)
                  have q2 := NZ.out
                  show ((sms E).length + 1) * 24 ≤ _
                  omega)
                have NX : Hid (sms (ent (S.take (k + 1))) = sms E ++ [(⟨xn, xv⟩ : Am)]) := Lib.hid (by
                  rw [ES.out]; exact sms_new E _ xv NI.out)
                have NO : Hid (¬ Ov (ent (S.take (k + 1)))) := Lib.hid (by
                  rw [ES.out]
                  rintro ⟨y, hy⟩
                  rw [Tot_app, Tot_one] at hy
                  simp only at hy
                  split at hy
                  · rename_i q
                    rw [← q, Tot_none (fun z => NI.out ((mem_nmF _ _).2 z))] at hy
                    have := XV.out
                    unfold maxA at hy
                    omega
                  · exact R.out.2.2.1 ⟨y, by simpa using hy⟩)
                have WZ : Hid (w3.heap.size ≤ W5.heap.size) := Lib.hid S5.out.2.1.size
                have t0 := S5.out.2.2.1
                have t1 := S5.out.2.2.2
                go_wp2_with (at_builtin; refine app_rowB okAm (gg := W5.heap.size) rfl _ _ rfl rfl S5.out.1 WZ.out ⟨xn, xv⟩ (by simp) rfl rfl LN.out ?_; intro v' w' h1 h2)
                obtain ⟨a2, c2, rfl⟩ := h1.slice
                have Z : Hid (OwnR kAm w3.heap.size w' (.slice a2 (sms E ++ [(⟨xn, xv⟩ : Am)]).length c2) (sms (ent (S.take (k + 1)))) ∧ Below w3.heap.size w3 w') := Lib.hid ⟨by rw [NX.out]; exact h1, S5.out.2.1.trans (grown_belowR h2 S5.out.1 WZ.out)⟩
                clear h1 h2 t0 t1
                go_wp2_with fail
                go_roundg (n - (k + 1))
                case measure => have := R.out.1; omega
                case rel => exact ⟨k + 1, a2, _, c2, by omega, rfl, by go_num, rfl, Z.out.1, NO.out, Z.out.2⟩
          · have EK : Hid (S.take k = S) := Lib.hid (List.take_of_length_le (by rw [SL.out]; omega))
            have NR := Lib.hid (nr_of C3.out.2.1 C3.out.2.2.1 AA.out (by have := R.out.2.2.1; rw [EE.out, EK.out] at this; exact this))
            have OW : Hid (OwnR kAm w3.heap.size wr (.slice sa m c) (sms (ent S)) ∧ m = (sms (ent S)).length) := Lib.hid (by
              have q := R.out.2.1
              have q2 := LM.out
              rw [← sms_len] at q2
              rw [EE.out, EK.out] at q q2
              exact ⟨q, q2⟩)
            have FB : Hid (Below w.heap.size w wr) := Lib.hid (C3.out.2.2.2.trans (R.out.2.2.2.mono C3.out.2.2.2.size))
            have SZ : Hid (w.heap.size ≤ w3.heap.size) := Lib.hid C3.out.2.2.2.size
            by_cases h16 : 16 < m
            · have g16 : (16 : Int) < (m : Int) := by omega
              have E1 : Hid (nrE l = 23 ∧ nrL l = []) := Lib.hid (by
                have q := NR.out
                rw [← OW.out.2, if_pos h16, if_pos h16] at q
                exact q)
              clear h16
              go_wp2_with fail
              go_ret2
              refine ⟨none, 0, 0, by rw [E1.out.1]; rfl, ?_, FB.out⟩
              rw [E1.out.2]; exact OwnR.nil _ _ _
            · have g16 : ¬ (16 : Int) < (m : Int) := by omega
              have E1 : Hid (nrE l = 0 ∧ nrL l = sms (ent S)) := Lib.hid (by
                have q := NR.out
                rw [← OW.out.2, if_neg h16, if_neg h16] at q
                exact q)
              clear h16
              go_wp2_with fail
              go_ret2
              refine ⟨sa, m, c, by rw [E1.out.1]; rfl, ?_, FB.out⟩
              rw [E1.out.2]; exact OW.out.1.mono SZ.out
end Go.Proofs.YtehgnbgbmicheaaGreatDoor
