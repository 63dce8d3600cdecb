/-
  The document's Free, Held, Give, Take.
-/
import Derived.Test.YtfdhccanacpanaaRfA
import Derived.BigQuiet
namespace Go.Proofs.Ytfdhccanacpanaa
open Go.RowKit
variable {B : Nat} {w w' : World} {d f : Nat} {vw vn : Value} {l l' : List UInt8}
set_option maxHeartbeats 1000000 in
theorem rfreeN_any (h : Rs B w d f vw vn l) :
    Calls Try.prog 32 #[.pointer (some ⟨d, 0, none⟩)] w fun e w' => e = .returned (.int .i64 (freeN l)) ∧ w' = w := by
  have H := Lib.hid h
  obtain ⟨N, hN⟩ : ∃ N, N = l.length := ⟨_, rfl⟩
  have h1 := h.fst
  have h2 : N ≤ 4096 := by rw [hN]; exact h.len
  obtain ⟨E, hE⟩ : ∃ E, E = f + l.length := ⟨_, rfl⟩
  have p0 : w.cell? ⟨d, 0, none⟩ = some (.int .i64 (E : Int)) := by rw [hE]; exact h.c 0
  have p1 : w.cell? ⟨d, 1, none⟩ = some (.int .i64 f) := h.c 1
  have hE2 : E = f + N := by rw [hE, hN]
  have NN := Lib.hid hN
  have EE := Lib.hid hE2
  have hE3 : E ≤ 8192 := by omega
  clear h hN hE hE2
  go_enter Try.func32, Try.ntmps32
  go_wp2_with fail
  go_loopg [3, 4] N (fun g sm si wr => ∃ (q m : Nat), f ≤ q ∧ q ≤ E ∧ g = E - q ∧ si = .int .i64 q ∧ wr = w ∧ sm = .int .i64 m ∧ m ≤ q - f ∧ m = freeN (l.take (q - f)))
  case atStart => exact ⟨f, 0, Nat.le_refl _, by rw [EE.out]; omega, by rw [EE.out]; omega, rfl, rfl, rfl, by omega, by rw [Nat.sub_self]; rfl⟩
  case round =>
    obtain ⟨q, m, hfq, hqE, hg, rfl, rfl, rfl, hmq, hm⟩ := hrel
    have M := Lib.hid hm
    have G := Lib.hid hg
    clear hm hg
    have hm2 : m ≤ 4096 := by have := EE.out; omega
    by_cases hlt : q < E
    · have hlt' : (q : Int) < (E : Int) := by omega
      have hi : q - f < l.length := by have := EE.out; have := NN.out; omega
      have FR := Lib.hid (rfree_any H.out (q - f) hi)
      rw [show ((f + (q - f) : Nat) : Int) = (q : Int) by omega] at FR
      obtain ⟨x, hx⟩ : ∃ x, l[q - f]? = some x := ⟨_, List.getElem?_eq_getElem hi⟩
      rw [show l.getD (q - f) 0 = x by rw [List.getD_eq_getElem?_getD, hx]; rfl] at FR
      have T : Hid (freeN (l.take (q + 1 - f)) = m + if x = 0 then 1 else 0) := Lib.hid (by
        rw [show q + 1 - f = q - f + 1 by omega, List.take_add_one, hx, Option.toList_some, freeN_snoc, ← M.out])
      clear hx hi
      go_wp2_with fail
      refine FR.out.mono ?_
      rintro _ _ ⟨rfl, rfl⟩
      by_cases hz : x = 0
      · rw [decide_eq_true hz]
        rw [if_pos hz] at T
        go_wp2_with fail
        go_roundg (E - (q + 1))
        case measure => have := G.out; omega
        case rel => exact ⟨q + 1, m + 1, by omega, by omega, rfl, by go_num, rfl, by go_num, by omega, T.out.symm⟩
      · rw [decide_eq_false hz]
        rw [if_neg hz] at T
        go_wp2_with fail
        go_roundg (E - (q + 1))
        case measure => have := G.out; omega
        case rel => exact ⟨q + 1, m, by omega, by omega, rfl, by go_num, rfl, rfl, by omega, T.out.symm⟩
    · have hge : ¬ (q : Int) < (E : Int) := by omega
      go_wp2_with fail
      go_ret
      refine ⟨?_, rfl⟩
      have e : m = freeN l := by
        rw [M.out, List.take_of_length_le (by have := EE.out; have := NN.out; omega)]
      rw [e]; rfl
theorem Ints.at0 {w : World} {a : Option Addr} {n c : Nat} {t : List Int} (h : Ints w (.slice a n c) t) (k : Nat) (y : Int) (hy : t[k]? = some y) : ∃ b off, a = some ⟨b, off, none⟩ ∧ w.cell? ⟨b, off + k, none⟩ = some (.int .i64 y) := by
  obtain ⟨a', c', e, _, _, _, h4⟩ := h
  simp only [Value.slice.injEq] at e
  obtain ⟨b, off, ea, hc⟩ := h4 k (List.getElem?_eq_some_iff.1 hy).1
  refine ⟨b, off, by rw [e.1]; exact ea, ?_⟩
  rw [hc, List.getD_eq_getElem?_getD, hy]; rfl
set_option maxHeartbeats 2000000 in
theorem rheld_any (h : Rs B w d f vw vn l) : Calls Try.prog 34 #[.pointer (some ⟨d, 0, none⟩)] w fun e w' => ∃ u, e = .returned u ∧ OwnI w.heap.size w' u (those [3] f l) ∧ Below w.heap.size w w' := by
  have H := Lib.hid h
  rw [← held_is f l h.ok]
  obtain ⟨Wa, hWa⟩ : ∃ Wa, Wa = those [2, 3] f l := ⟨_, rfl⟩
  obtain ⟨No, hNo⟩ : ∃ No, No = those [1, 2] f l := ⟨_, rfl⟩
  have LW : Hid (Wa.length ≤ 4096) := Lib.hid (by rw [hWa]; exact nowL _ _ _ h.len)
  have OW : Hid (OwnI B w vw Wa ∧ OwnI B w vn No) := Lib.hid (by rw [hWa, hNo]; exact ⟨h.ow, h.on⟩)
  rw [← hWa, ← hNo]
  obtain ⟨an, cn, en, hcn, hmn⟩ := OW.out.2.len
  obtain ⟨aw, cw, ew, hcw, hmw⟩ := OW.out.1.len
  obtain ⟨Ln, hLn⟩ : ∃ Ln, Ln = No.length := ⟨_, rfl⟩
  obtain ⟨Lw, hLw⟩ : ∃ Lw, Lw = Wa.length := ⟨_, rfl⟩
  rw [← hLn] at en hcn
  rw [← hLw] at ew hcw LW
  have hLw4 := LW.out
  subst en ew
  have NW := Lib.hid hLw
  clear h hWa hNo hLn hLw
  go_enter Try.func34, Try.ntmps34
  go_wp2_with fail
  go_loopg [3, 4] Lw (fun g sv si wr => ∃ (k : Nat), k ≤ Lw ∧ g = Lw - k ∧ si = .int .i64 k ∧ OwnI w.heap.size wr sv ((Wa.take k).filter (fun b => !decide (b ∈ No))) ∧ Below w.heap.size w wr)
  case atStart => exact ⟨0, Nat.zero_le _, rfl, rfl, OwnI.nil _ _, Below.refl _ _⟩
  case round =>
    obtain ⟨k, hk, hg, rfl, ho, hb⟩ := hrel
    have O := Lib.hid ho
    have Bl := Lib.hid hb
    have G := Lib.hid hg
    have p2 : wr.cell? ⟨d, 2, none⟩ = some (.slice aw Lw cw) := (H.out.below hb).c 2
    have p3 : wr.cell? ⟨d, 3, none⟩ = some (.slice an Ln cn) := (H.out.below hb).c 3
    obtain ⟨a5, n5, c5, e5⟩ := slice_of ho
    subst e5
    clear ho hg hb
    by_cases hlt : k < Lw
    · have hlt' : (k : Int) < (Lw : Int) := by omega
      obtain ⟨x, hx⟩ : ∃ x, Wa[k]? = some x := ⟨_, List.getElem?_eq_getElem (by rw [← NW.out]; exact hlt)⟩
      obtain ⟨b, off, rfl, c0⟩ := (OW.out.1.below Bl.out).ints.at0 k x hx
      have IN : Hid (∀ nq, Calls Try.prog 37 #[.slice an Ln cn, .int .i64 x] (wr.drewN nq) fun e w' => e = .returned (.bool (decide (x ∈ No))) ∧ w' = wr.drewN nq) := Lib.hid (fun nq => rin_any _ _ x _ ((OW.out.2.below Bl.out).below (below_drawn wr nq)).ints)
      have T : Hid ((Wa.take (k + 1)).filter (fun b => !decide (b ∈ No)) = (Wa.take k).filter (fun b => !decide (b ∈ No)) ++ if decide (x ∈ No) = true then [] else [x]) := Lib.hid (by
        rw [List.take_add_one, hx, Option.toList_some, List.filter_append, List.filter_cons, List.filter_nil]
        by_cases q : x ∈ No <;> simp [q])
      have L : Hid (((Wa.take k).filter (fun b => !decide (b ∈ No))).length ≤ 4096) := Lib.hid (by
        have := List.length_filter_le (fun b => !decide (b ∈ No)) (Wa.take k)
        rw [List.length_take] at this
        omega)
      obtain ⟨bb, hbb⟩ : ∃ bb, bb = decide (x ∈ No) := ⟨_, rfl⟩
      rw [← hbb] at IN T
      clear hx hbb
      go_wp2_with fail
      go_quiet (first | (go_at_call 37; refine Calls.quiet_of_same (IN.out _)))
      have O2 := Lib.hid (O.out.below (below_drawn wr nq))
      have B2 := Lib.hid (Bl.out.trans ((below_drawn wr nq).mono Bl.out.size))
      obtain ⟨W, hW⟩ : ∃ W, W = wr.drewN nq := ⟨_, rfl⟩
      have q2 : W.cell? ⟨d, 2, none⟩ = some (.slice (some ⟨b, off, none⟩) Lw cw) := by rw [hW, World.cell?_drewN]; exact p2
      have c2 : W.cell? ⟨b, off + k, none⟩ = some (.int .i64 x) := by rw [hW, World.cell?_drewN]; exact c0
      rw [← hW] at O2 B2 ⊢
      clear hW p2 p3 c0 O Bl IN
      cases bb
      · rw [if_neg (by simp)] at T
        go_wp2_with (refine app_new rfl (.tmp 27) (.tmp 35) rfl (m := [x]) rfl rfl O2.out B2.out.size rfl rfl (by have := L.out; simp; omega) ?_)
        intro v' W' o1 o2 o3
        have A : Hid (OwnI w.heap.size W' v' ((Wa.take (k + 1)).filter (fun b => !decide (b ∈ No))) ∧ Below w.heap.size w W') := Lib.hid ⟨by rw [T.out]; exact o1, B2.out.trans ((Below.refl _ _).grown o2 B2.out.size fun k hk => (O2.out.lt k hk).1)⟩
        clear o1 o2 o3
        go_wp2_with fail
        go_roundg (Lw - (k + 1))
        case measure => have := G.out; omega
        case rel => exact ⟨k + 1, by omega, rfl, by go_num, A.out⟩
      · rw [if_pos rfl, List.append_nil] at T
        go_wp2_with fail
        go_roundg (Lw - (k + 1))
        case measure => have := G.out; omega
        case rel => exact ⟨k + 1, by omega, rfl, by go_num, by rw [T.out]; exact O2.out, B2.out⟩
    · have hge : ¬ (k : Int) < (Lw : Int) := by omega
      have EK : Hid (Wa.take k = Wa) := Lib.hid (List.take_of_length_le (by rw [← NW.out]; omega))
      go_wp2_with fail
      go_ret
      have := O.out
      rw [EK.out] at this
      exact ⟨_, rfl, this, Bl.out⟩
set_option maxHeartbeats 2000000 in
theorem rgive_any (h : Rs B w d f vw vn l) (hB : B ≤ w.heap.size) (b : Int) (_hb : -9223372036854775808 ≤ b ∧ b < 9223372036854775808) :
    Calls Try.prog 29 #[.pointer (some ⟨d, 0, none⟩), .int .i64 b] w fun e w' => e = .returned (.int .i64 (giveR f l b).1) ∧ (∃ vn', Rs B w' d f vw vn' (giveR f l b).2) ∧ Kept (fun k => k = d) w w' := by
  have H := Lib.hid h
  obtain ⟨E, hE⟩ : ∃ E, E = f + l.length := ⟨_, rfl⟩
  have p0 : w.cell? ⟨d, 0, none⟩ = some (.int .i64 (E : Int)) := by rw [hE]; exact h.c 0
  have p1 : w.cell? ⟨d, 1, none⟩ = some (.int .i64 f) := h.c 1
  obtain ⟨No, hNo⟩ : ∃ No, No = those [1, 2] f l := ⟨_, rfl⟩
  have ON : Hid (OwnI B w vn No) := Lib.hid (by rw [hNo]; exact h.on)
  have LN : Hid (No.length ≤ 4096) := Lib.hid (by rw [hNo]; exact nowL _ _ _ h.len)
  obtain ⟨an, cn, en, hcn, hmn⟩ := ON.out.len
  obtain ⟨Ln, hLn⟩ : ∃ Ln, Ln = No.length := ⟨_, rfl⟩
  rw [← hLn] at en hcn LN
  have hLn4 := LN.out
  subst en
  have p3 : w.cell? ⟨d, 3, none⟩ = some (.slice an Ln cn) := h.c 3
  have NL := Lib.hid hLn
  have NO := Lib.hid hNo
  have EE := Lib.hid hE
  have h1 := h.fst
  have h2 := h.len
  clear h hNo hLn
  go_enter Try.func29, Try.ntmps29
  by_cases q1 : b < (f : Int)
  · have E1 : Hid (giveR f l b = (1, l)) := Lib.hid (by unfold giveR; rw [if_neg (by omega)])
    have g1 : decide (b < (f : Int)) = true := decide_eq_true q1
    clear hE
    go_wp2_with fail
    go_ret
    rw [E1.out]
    exact ⟨rfl, ⟨_, H.out⟩, Kept.refl _ _⟩
  · have g1 : decide (b < (f : Int)) = false := decide_eq_false q1
    by_cases q2 : b < (E : Int)
    · have g2 : decide (b ≥ (E : Int)) = false := decide_eq_false (by omega)
      obtain ⟨i, hi⟩ : ∃ i : Nat, b = ((f + i : Nat) : Int) := ⟨(b - f).toNat, by omega⟩
      have hil : i < l.length := by omega
      have et : (b - (f : Int)).toNat = i := by omega
      have GR : Hid (giveR f l b = if l.getD i 0 = 1 then (0, l.set i 0) else if l.getD i 0 = 2 then (0, l.set i 3) else (81, l)) := Lib.hid (by unfold giveR; rw [if_pos (by omega), et])
      have hx : l.getD i 0 = 0 ∨ l.getD i 0 = 1 ∨ l.getD i 0 = 2 ∨ l.getD i 0 = 3 := by
        rw [List.getD_eq_getElem?_getD, List.getElem?_eq_getElem hil]; exact H.out.ok _ (List.getElem_mem hil)
      have IN := Lib.hid (rin_any _ _ b w ON.out.ints)
      rw [show decide (b ∈ No) = ([1, 2] : List UInt8).contains (l.getD i 0) by rw [Bool.eq_iff_iff, decide_eq_true_iff, NO.out, hi]; exact mem_it [1, 2] f l i hil] at IN
      have CS : Hid ((([1, 2] : List UInt8).contains (l.getD i 0) = false ∧ giveR f l b = (81, l)) ∨ (([1, 2] : List UInt8).contains (l.getD i 0) = true ∧ ∃ x, (x = 0 ∨ x = 1 ∨ x = 2 ∨ x = 3) ∧ giveR f l b = (0, l.set i x) ∧ No.filter (fun y => !decide (y = b)) = those [1, 2] f (l.set i x) ∧ those [2, 3] f (l.set i x) = those [2, 3] f l)) := Lib.hid (by
        rcases hx with e | e | e | e
        · left; rw [GR.out, e]; exact ⟨rfl, rfl⟩
        · right
          refine ⟨by rw [e]; rfl, 0, by simp, by rw [GR.out, e]; rfl, ?_, was_set f l i 0 hil (by rw [e]; rfl)⟩
          rw [NO.out, hi]; exact now_give f l i 0 hil rfl
        · right
          refine ⟨by rw [e]; rfl, 3, by simp, by rw [GR.out, e]; rfl, ?_, was_set f l i 3 hil (by rw [e]; rfl)⟩
          rw [NO.out, hi]; exact now_give f l i 3 hil rfl
        · left; rw [GR.out, e]; exact ⟨rfl, rfl⟩)
      clear hi hil et hx GR hE q2
      rcases CS.out with ⟨e1, e2⟩ | ⟨e1, x, hx, e2, e3, e4⟩
      · rw [e1] at IN
        have E2 := Lib.hid e2
        clear e1 e2 q1
        go_wp2_with fail
        refine IN.out.mono ?_
        rintro _ _ ⟨rfl, rfl⟩
        go_wp2_with fail
        go_ret
        rw [E2.out]
        exact ⟨rfl, ⟨_, H.out⟩, Kept.refl _ _⟩
      · rw [e1] at IN
        have E2 := Lib.hid e2
        have E3 := Lib.hid e3
        have E4 := Lib.hid e4
        clear e1 e2 e3 e4 q1 CS
        go_wp2_with fail
        refine IN.out.mono ?_
        rintro _ w9 ⟨rfl, h9⟩
        obtain rfl := h9.symm
        clear IN
        go_wp2_with fail
        go_loopg [6, 7] Ln (fun g sv si wr => ∃ (k : Nat), k ≤ Ln ∧ g = Ln - k ∧ si = .int .i64 k ∧ OwnI w.heap.size wr sv ((No.take k).filter (fun y => !decide (y = b))) ∧ Below w.heap.size w wr)
        case atStart => exact ⟨0, Nat.zero_le _, rfl, rfl, OwnI.nil _ _, Below.refl _ _⟩
        case round =>
          obtain ⟨k, hk, hg, rfl, ho, hbl⟩ := hrel
          have O := Lib.hid ho
          have Bl := Lib.hid hbl
          have G := Lib.hid hg
          have r3 : wr.cell? ⟨d, 3, none⟩ = some (.slice an Ln cn) := (H.out.below hbl).c 3
          have r4 := (H.out.below hbl).free 3
          obtain ⟨a5, n5, c5, e5⟩ := slice_of ho
          subst e5
          clear ho hg hbl p0 p1 p3
          by_cases hlt : k < Ln
          · have hlt' : (k : Int) < (Ln : Int) := by omega
            obtain ⟨y, hy⟩ : ∃ y, No[k]? = some y := ⟨_, List.getElem?_eq_getElem (by rw [← NL.out]; exact hlt)⟩
            obtain ⟨b', off, rfl, c0⟩ := (ON.out.below Bl.out).ints.at0 k y hy
            have T : Hid ((No.take (k + 1)).filter (fun y => !decide (y = b)) = (No.take k).filter (fun y => !decide (y = b)) ++ if y = b then [] else [y]) := Lib.hid (by
              rw [List.take_add_one, hy, Option.toList_some, List.filter_append, List.filter_cons, List.filter_nil]
              by_cases q : y = b <;> simp [q])
            have L : Hid (((No.take k).filter (fun y => !decide (y = b))).length ≤ 4096) := Lib.hid (by
              have := List.length_filter_le (fun y => !decide (y = b)) (No.take k)
              rw [List.length_take] at this
              omega)
            clear hy
            by_cases q : y = b
            · have f1 : (y == b) = true := by rw [q]; exact beq_self_eq_true _
              rw [if_pos q, List.append_nil] at T
              clear q
              go_wp2_with fail
              go_roundg (Ln - (k + 1))
              case measure => have := G.out; omega
              case rel => exact ⟨k + 1, by omega, rfl, by go_num, by rw [T.out]; exact O.out, Bl.out⟩
            · have f1 : (y == b) = false := by rw [beq_eq_false_iff_ne]; exact q
              rw [if_neg q] at T
              clear q
              go_wp2_with (refine app_new rfl (.tmp 48) (.tmp 56) rfl (m := [y]) rfl rfl O.out Bl.out.size rfl rfl (by have := L.out; simp; omega) ?_)
              intro v' W' o1 o2 o3
              have A : Hid (OwnI w.heap.size W' v' ((No.take (k + 1)).filter (fun y => !decide (y = b))) ∧ Below w.heap.size w W') := Lib.hid ⟨by rw [T.out]; exact o1, Bl.out.trans ((Below.refl _ _).grown o2 Bl.out.size fun k hk => (O.out.lt k hk).1)⟩
              clear o1 o2 o3
              go_wp2_with fail
              go_roundg (Ln - (k + 1))
              case measure => have := G.out; omega
              case rel => exact ⟨k + 1, by omega, rfl, by go_num, A.out⟩
          · have hge : ¬ (k : Int) < (Ln : Int) := by omega
            have o9 := O.out
            rw [show No.take k = No from List.take_of_length_le (by rw [← NL.out]; omega), E3.out] at o9
            have R := Lib.hid (H.out.set3 (l' := l.set i x) Bl.out (o9.mono hB) (by simp) (sts_set H.out.ok _ _ hx) E4.out)
            clear o9
            go_wp2_with fail
            go_ret
            rw [E2.out]
            exact ⟨rfl, ⟨_, R.out.1⟩, R.out.2⟩
    · have E1 : Hid (giveR f l b = (1, l)) := Lib.hid (by unfold giveR; rw [if_neg (by omega)])
      have g2 : decide (b ≥ (E : Int)) = true := decide_eq_true (by omega)
      clear hE
      go_wp2_with fail
      go_ret
      rw [E1.out]
      exact ⟨rfl, ⟨_, H.out⟩, Kept.refl _ _⟩
end Go.Proofs.Ytfdhccanacpanaa
