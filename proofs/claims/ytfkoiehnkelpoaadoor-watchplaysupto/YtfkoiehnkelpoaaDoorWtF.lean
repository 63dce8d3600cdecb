/-
  Push.
-/
import Derived.Test.YtfkoiehnkelpoaaDoorWtE
namespace Go.Proofs.YtfkoiehnkelpoaaDoor
open Go.RowKit
namespace Wt
theorem right_sizes {e : Ev} (h : rightB e = true) : e.p.size ≤ 64 ∧ e.n.size ≤ 32 := by
  unfold rightB at h
  simp only [Bool.and_eq_true, decide_eq_true_eq] at h
  obtain ⟨-, -, h1, h2⟩ := h
  refine ⟨?_, ?_⟩
  · cases hs : L.splitO e.p with
    | none => rw [L.splitE_none hs] at h1; cases h1
    | some ts =>
      obtain ⟨e1, hg⟩ := L.splitO_some hs
      rw [e1, L.pth_size]
      exact hg.2.2
  · by_cases q : e.k = 0
    · rw [if_pos q] at h2
      have := of_decide_eq_true h2
      omega
    · rw [if_neg q] at h2
      unfold L.nameB at h2
      simp only [Bool.and_eq_true, decide_eq_true_eq] at h2
      exact h2.1.2
theorem step_rowE {ops : Array Oper} {o : Oper} {a : Act} {K : Act → World → Prop} {Q : Exit → Act → World → Prop} {E : Prop} (hgd : o.guard = none) (s y : Operand)
    (ho : o.op = .call { callee := .builtin .append, args := #[s, y], argTypes := #[28, 28] })
    {B : Nat} {w0 : World} {v : Value} {es : List Ev} (hs : a.eval s = v) (hown : OwnR kE B w0 v es) (hB : B ≤ w0.heap.size) (p : Ev) {cs : Array Value} (hcs : cs = (kE.c p).toArray)
    (hx : a.eval y = .slice (some ⟨w0.heap.size, 0, none⟩) 1 1) (hl : es.length ≤ 1000000)
    (h : ∀ a' n' c' w', Hid (OwnR kE B w' (.slice a' n' c') (es ++ [p]) ∧ w0.grownBy w' v.ownBlock ∧ At v (.slice a' n' c') w0) → K (a.put o.dst (.slice a' n' c')) w') :
    if Region.wanted o (yielded ops a.tmps) = true then Oper.wp Tryd.prog o a (w0.alloc (.cells cs 33)) K Q else E := by
  subst hcs
  have ok := okE
  obtain ⟨zv, hinf, hzc⟩ := ok.inf
  obtain ⟨i0, hi, hz0, hz1, hz2⟩ := info_parts hinf
  obtain ⟨v', w', hr, h2, h3, -, h5⟩ := run_append_own_at (P := Tryd.prog) (w0.alloc (.cells (kE.c p).toArray 33)) B 28 o.type 33 i0 zv kE.k kE.b ok.und hi hz0 hz1 hz2 hzc ok.pos v es.length (cellsR kE es) (World.ownsRow.alloc hown _) ⟨w0.heap.size, 0, none⟩ 1 1 (kE.c p) (by rw [ok.len, Nat.one_mul]) (by
    intro j u hj
    rw [add_plain, Nat.zero_add, World.cell?_alloc_new, ← Array.getElem?_toList]; exact hj) (ok.one p) (by unfold maxLen; omega) (by show (_ + 1) * 56 ≤ _; omega) (by simp; omega)
  have hw : Region.wanted o (yielded ops a.tmps) = true := by simp [Region.wanted, hgd]
  rw [if_pos hw]
  unfold Oper.wp
  simp [execOp, ho, resolve, invoke, builtin, hs, hx, hr, Result.andThen]
  have ow : OwnR kE B w' v' (es ++ [p]) := by
    show w'.ownsRow _ _ _ _ _ _
    rw [cellsR_app, List.length_append, cellsR_single]
    exact h2
  obtain ⟨a', c', e'⟩ := ow.slice
  subst e'
  exact h _ _ _ w' (Lib.hid ⟨ow, grown_alloc h3, at_of h5 (by simp)⟩)
theorem row_kept {w w' : World} {F : Nat → Prop} {u : Value} {l : List Ev} (H : Row kE w u l) (hk : Kept F w w') (hF : ∀ k, u.ownBlock = some k → ¬ F k) : Row kE w' u l := by
  obtain ⟨a, cap, e, h1, h2, h0, h3⟩ := H
  refine ⟨a, cap, e, h1, h2, h0, fun k hk' => ?_⟩
  obtain ⟨b, off, ea, hc⟩ := h3 k hk'
  refine ⟨b, off, ea, fun j y hy => ?_⟩
  have h := hc j y hy
  have hb := hk.block b (block_lt_of_cell h) (hF b (by rw [e, ea]; rfl))
  rw [World.cell?_of_block hb]
  exact h
/-- What Push tells and leaves. -/
def Ps (w : World) (g : Nat) (v : Value) (s : St) (l : List Ev) (w' : World) : Prop :=
  (pushE s l ≠ 0 → Below w.heap.size w w') ∧ (pushE s l = 0 → ∃ v' s', Kp s l s' ∧ Hd w g v v' s' w')
set_option maxHeartbeats 16000000 in
set_option maxRecDepth 100000 in
theorem push_any (l : List Ev) (u : Value) (w : World) (g : Nat) (v : Value) (s : St) (hm : L.HasM w) (H : Hb w g v s) (ok : s.Ok) (HL : Row kE w u l) (hap : ∀ k, u.ownBlock = some k → ¬ HF g v k) :
    Calls Tryd.prog 28 #[.pointer (some ⟨g, 0, none⟩), u] w fun e w' => e = .returned (.int .i64 (pushE s l)) ∧ Ps w g v s l w' := by
  obtain ⟨lo, hi, es⟩ := s
  have H' := Lib.hid H
  have OK := Lib.hid ok
  have HU := Lib.hid (And.intro HL hap)
  obtain ⟨a, cap, rfl, hlc, hcm⟩ := HL.len
  unfold maxLen at hcm
  obtain ⟨n, hn⟩ : ∃ n, n = l.length := ⟨_, rfl⟩
  rw [← hn] at hlc HU ⊢
  have HN := Lib.hid hn
  have PE : Hid (∀ e, (e = pushE ⟨lo, hi, es⟩ l → e ≠ 0 → Ps w g v ⟨lo, hi, es⟩ l = fun w' => Below w.heap.size w w')) := Lib.hid fun e he h0 => by
    funext w'
    unfold Ps
    rw [← he]
    simp [h0]
  obtain ⟨b0, b1, b2⟩ := ok.b
  simp only at b0 b1 b2
  have c1 := H.c1
  simp only at c1
  have AR : Hid (Calls Tryd.prog 46 #[.slice a n cap, .int .i64 (hi + 1)] w fun e w' => e = .returned (.bool (l.all fun e => decide (e.v = hi + 1) && rightB e)) ∧ Below w.heap.size w w') := Lib.hid (allRight_any l (hi + 1) _ w hm HU.out.1)
  clear H ok HL hap hm hn
  go_enter Tryd.func28, Tryd.ntmps28
  by_cases h1 : hi = 1152921504606846976
  · have E : Hid (pushE ⟨lo, hi, es⟩ l = 1) := Lib.hid (by unfold pushE; rw [if_pos (.inl h1)])
    subst h1
    go_wp2_with fail
    go_ret
    exact ⟨by rw [E.out]; rfl, by rw [PE.out 1 E.out.symm (by decide)]; exact Below.refl _ _⟩
  have g1 : (hi == 1152921504606846976) = false := by rw [beq_eq_false_iff_ne]; exact h1
  by_cases h2 : n = 0
  · have E : Hid (pushE ⟨lo, hi, es⟩ l = 1) := Lib.hid (by unfold pushE; rw [if_pos (.inr (.inl (by rw [← HN.out]; exact h2)))])
    subst h2
    go_wp2_with fail
    go_ret
    exact ⟨by rw [E.out]; rfl, by rw [PE.out 1 E.out.symm (by decide)]; exact Below.refl _ _⟩
  have g2 : ((n : Int) == 0) = false := by rw [beq_eq_false_iff_ne]; omega
  go_wp2_with fail
  refine AR.out.mono ?_
  rintro e w1 ⟨rfl, hb⟩
  have B1 := Lib.hid hb
  clear hb AR
  by_cases h3 : (l.all fun e => decide (e.v = hi + 1) && rightB e) = true
  · rw [h3]
    have HA : Hid (∀ e ∈ l, e.v = hi + 1 ∧ rightB e = true) := Lib.hid fun e he => by
      have := List.all_eq_true.1 h3 e he
      simp only [Bool.and_eq_true, decide_eq_true_eq] at this
      exact this
    clear h3
    by_cases h4 : n > 128
    · have h4' : (n : Int) > 128 := by omega
      have E : Hid (pushE ⟨lo, hi, es⟩ l = 23) := Lib.hid (by
        unfold pushE
        rw [if_neg (by rintro (q | q | q); exact h1 q; exact h2 (by rw [HN.out]; exact q); exact q HA.out), if_pos (by rw [← HN.out]; exact h4)])
      go_wp2_with fail
      go_ret
      exact ⟨by rw [E.out]; rfl, by rw [PE.out 23 E.out.symm (by decide)]; exact B1.out⟩
    · have E : Hid (pushE ⟨lo, hi, es⟩ l = 0) := Lib.hid (by
        unfold pushE
        rw [if_neg (by rintro (q | q | q); exact h1 q; exact h2 (by rw [HN.out]; exact q); exact q HA.out), if_neg (by rw [← HN.out]; exact h4)])
      have H1 : Hid (Hb w1 g v ⟨lo, hi, es⟩) := Lib.hid (H'.out.below B1.out)
      clear c1
      go_wp2_with fail
      go_loopg [34] n (fun m si wr => ∃ (k : Nat) (v' : Value), k ≤ n ∧ m = n - k ∧ si = .int .i64 k ∧ Hid (Hd w g v v' ⟨lo, hi, es ++ l.take k⟩ wr))
      case atStart => exact ⟨0, v, Nat.zero_le _, rfl, rfl, Lib.hid ⟨by rw [List.take_zero, List.append_nil]; exact H1.out, Below.kept B1.out _, At.refl _ _⟩⟩
      case round =>
        obtain ⟨k, v', hk, hg, rfl, R⟩ := hrel
        have G := Lib.hid hg
        clear hg
        by_cases hlt : k < n
        · have hlt' : (k : Int) < (n : Int) := by omega
          have hkl : k < l.length := by rw [← HN.out]; exact hlt
          obtain ⟨b, off, rfl, c0, c1, c2, c3, c4⟩ := row_at (row_kept HU.out.1 R.out.2.1 HU.out.2) k hkl
          have SZ := Lib.hid (right_sizes (HA.out _ (getD_in (d := Ev.z) hkl)).2)
          have TK := Lib.hid (take_onez l k Ev.z hkl)
          obtain ⟨y, hy⟩ : ∃ y, y = l.getD k Ev.z := ⟨_, rfl⟩
          rw [← hy] at c0 c1 c2 c3 c4 SZ TK
          clear hy hkl
          obtain ⟨yv, yk, yg, yp, yn⟩ := y
          simp only at c0 c1 c2 c3 c4 SZ
          obtain ⟨X, hX⟩ : ∃ X, X = wr.alloc (.cells #[.int .i64 yv, .int .i64 yk, .bool yg, .string yp, .string yn] 33) := ⟨_, rfl⟩
          have AX : Hid (Below wr.heap.size wr X.drew) := Lib.hid (by
            rw [hX]; exact ((Below.refl _ wr).alloc (Nat.le_refl _) _).drew)
          have CX : Hid (∀ i y, #[Value.int .i64 yv, .int .i64 yk, .bool yg, .string yp, .string yn][i]? = some y → X.drew.cell? ⟨wr.heap.size, i, none⟩ = some y) := Lib.hid fun i y h => by
            show X.cell? _ = _
            rw [hX, World.cell?_alloc_new]; exact h
          have x0 := CX.out 0 _ rfl
          have x1 := CX.out 1 _ rfl
          have x2 := CX.out 2 _ rfl
          have x3 := CX.out 3 _ rfl
          have x4 := CX.out 4 _ rfl
          obtain ⟨n1, a1, cap1, rfl⟩ : ∃ n1 a1 c1, v' = .slice a1 n1 c1 := by (obtain ⟨a', c', e'⟩ := R.out.1.row.slice; exact ⟨_, a', c', e'⟩)
          have HX : Hid (Hb X.drew g (.slice a1 n1 cap1) ⟨lo, hi, es ++ l.take k⟩) := Lib.hid (R.out.1.below AX.out)
          have z2 : X.drew.cell? ⟨g, 2, none⟩ = some (.slice a1 n1 cap1) := HX.out.c2
          have OA : Hid (Calls Tryd.prog 47 #[.agg #[.int .i64 yv, .int .i64 yk, .bool yg, .string yp, .string yn]] X.drew fun e w' => ∃ V, e = .returned V ∧ V = .agg #[.int .i64 yv, .int .i64 yk, .bool yg, .string yp, .string yn] ∧ Below X.drew.heap.size X.drew w') := Lib.hid ((own_any ⟨yv, yk, yg, yp, yn⟩ X.drew (by have := SZ.out.1; simp only; omega) (by have := SZ.out.2; simp only; omega)).mono fun _ _ q => ⟨_, q.1, rfl, q.2⟩)
          have LL : Hid ((es ++ l.take k).length ≤ 1000000) := Lib.hid (by
            have := OK.out.n
            simp only at this
            rw [List.length_append, List.length_take]; omega)
          have hX' := hX.symm
          clear hX
          have M1 : True := trivial
          go_wp2_with fail
          go_region_law (first
            | (refine step_calls (enters _ _ Tryd.func47 (by kernel_rfl) (by kernel_rfl)) rfl #[.tmp 43] _ rfl (us := #[.agg #[.int .i64 yv, .int .i64 yk, .bool yg, .string yp, .string yn]]) (by simp only [List.map_toArray, List.map_cons, List.map_nil]; rfl) OA.out ?_; intro V1 y1 q1; obtain ⟨rfl, hb1⟩ := q1.out
               have HY : Hid (Hb y1 g (.slice a1 n1 cap1) ⟨lo, hi, es ++ l.take k⟩ ∧ Below wr.heap.size wr y1) := Lib.hid ⟨HX.out.below hb1, AX.out.trans (hb1.mono AX.out.size)⟩
               have zz2 : y1.cell? ⟨g, 2, none⟩ = some (.slice a1 n1 cap1) := HY.out.1.c2
               have zz3 := cellA zz2 (Obj.cells #[.int .i64 yv, .int .i64 yk, .bool yg, .string yp, .string yn] 33)
               clear hb1 q1)
            | (refine step_rowE rfl (.tmp 42) (.tmp 45) rfl (B := 0) (w0 := y1) (v := .slice a1 n1 cap1) (es := es ++ l.take k) rfl HY.out.1.row (Nat.zero_le _) ⟨yv, yk, yg, yp, yn⟩ rfl rfl LL.out ?_; intro a2 n2 c2 w7 q7
               have h7 : w7.heap[g]? = some (.cells #[.int .i64 lo, .int .i64 hi, .slice a1 n1 cap1] 65 (0, 0)) := (q7.out.2.1.block g (lt_of_some HY.out.1.hb) (fun e => HY.out.1.ne g e.symm rfl)).trans HY.out.1.hb
               have t2 : w7.cell? ⟨g, 2, none⟩ = some (.slice a1 n1 cap1) := cell_of_row _ _ 2 _ _ _ h7
               have tf := frozen_row h7 2
               have FN : Hid (Hd w g v (.slice a2 n2 c2) ⟨lo, hi, es ++ l.take (k + 1)⟩ (w7.setCell ⟨g, 2, none⟩ (.slice a2 n2 c2))) := Lib.hid (by
                 refine ⟨?_, ?_, ?_⟩
                 · have h1 := Hb.setEs (s := ⟨lo, hi, []⟩) h7 q7.out.1 (own_ne (s := ⟨lo, hi, []⟩) h7 q7.out.1)
                   rw [TK.out, ← List.append_assoc]
                   exact h1
                 · refine ((R.out.2.1.trans (Below.kept HY.out.2 (fun _ => False)) (fun _ _ q => q.elim)).trans (grown_kept q7.out.2.1) (fun x hx q => ?_)).trans (HF.set w7 g v 2 _) (fun _ _ q => q)
                   rcases R.out.2.2 x q with c | c
                   · exact .inr c
                   · omega
                 · exact R.out.2.2.trans q7.out.2.2 (Nat.le_trans R.out.2.1.size HY.out.2.size))
               clear h7 q7))
          all_goals
            go_wp2_with fail
            go_roundg (n - (k + 1))
            case measure => have := G.out; omega
            case rel => exact ⟨k + 1, _, by omega, rfl, by go_num, FN⟩
        · have EK : Hid (l.take k = l) := Lib.hid (List.take_of_length_le (by rw [← HN.out]; omega))
          rw [EK.out] at R
          have c1 := R.out.1.c1
          simp only at c1
          have f1 := R.out.1.frozen 1
          have S1 : Hid (Hd w g v v' ⟨lo, hi + 1, es ++ l⟩ (wr.setCell ⟨g, 1, none⟩ (.int .i64 (hi + 1)))) := Lib.hid ⟨R.out.1.setHi _, R.out.2.1.trans (HF.set wr g v 1 _) (fun _ _ q => q), R.out.2.2⟩
          have FG := Lib.hid (forget_any (es ++ l) lo (hi + 1) _ g v' S1.out.1 (List.pairwise_append.2 ⟨OK.out.so, List.pairwise_of_forall_mem_list (fun a ha b hb => by rw [(HA.out a ha).1, (HA.out b hb).1]; exact Int.le_refl _), fun a ha b hb => by have := OK.out.r a ha; have := (HA.out b hb).1; simp only at *; omega⟩) (fun e he => by
            rcases List.mem_append.1 he with q | q
            · have := OK.out.r e q; simp only at this; omega
            · have := (HA.out e q).1; omega) ⟨b0, by omega, by omega⟩ (by
            have := OK.out.n
            have := HN.out
            simp only at *
            rw [List.length_append]; omega))
          go_wp2_with fail
          refine FG.out.mono ?_
          rintro e w9 ⟨rfl, lo', v9, hd, p1, p2, p3, p4⟩
          have FN : Hid (Kp ⟨lo, hi, es⟩ l ⟨lo', hi + 1, (es ++ l).filter (gt lo')⟩ ∧ Hd w g v v9 ⟨lo', hi + 1, (es ++ l).filter (gt lo')⟩ w9) := Lib.hid ⟨⟨rfl, ⟨p1, p2⟩, rfl, p3, p4⟩, hd.1, S1.out.2.1.trans hd.2.1 (fun x hx q => by
            rcases q with q | q
            · exact .inl q
            · rcases S1.out.2.2 x q with c | c
              · exact .inr c
              · omega), S1.out.2.2.trans hd.2.2 S1.out.2.1.size⟩
          clear hd p1 p2 p3 p4
          go_wp2_with fail
          go_ret
          exact ⟨by rw [E.out]; rfl, fun q => absurd E.out q, fun _ => ⟨_, _, FN.out.1, FN.out.2⟩⟩
  · have h3' : (l.all fun e => decide (e.v = hi + 1) && rightB e) = false := by simpa using h3
    have E : Hid (pushE ⟨lo, hi, es⟩ l = 1) := Lib.hid (by
      unfold pushE
      rw [if_pos (.inr (.inr fun q => h3 (List.all_eq_true.2 fun e he => by have := q e he; simp [this.1, this.2])))])
    rw [h3']
    go_wp2_with fail
    go_ret
    exact ⟨by rw [E.out]; rfl, by rw [PE.out 1 E.out.symm (by decide)]; exact B1.out⟩
end Wt
end Go.Proofs.YtfkoiehnkelpoaaDoor
