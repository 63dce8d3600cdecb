/-
  The document's Push.
-/
import Derived.Test.YtfkoiehnkelpoaaDoorWpC
import Derived.Test.YtfkoiehnkelpoaaDoorWtW
import Derived.Lib.QuietBelow
import Derived.BigQuiet
namespace Go.Proofs.YtfkoiehnkelpoaaDoor
open Go.RowKit
section
variable {α : Type} {K : Kd α}
theorem row_cells (ok : K.Ok) {w : World} {ad : Addr} {n c : Nat} {m : List α} (H : Row K w (.slice (some ad) n c) m) : ∀ j u, (cellsR K m)[j]? = some u → w.cell? (ad.add j) = some u := by
  intro j y hj
  obtain ⟨a', c', e, hlc, hcm, hn, hc⟩ := H
  simp only [Value.slice.injEq] at e
  obtain ⟨rfl, rfl, rfl⟩ := e
  have hjl : j < m.length * K.k := by
    rcases Nat.lt_or_ge j (m.length * K.k) with q | q
    · exact q
    · rw [List.getElem?_eq_none (by rw [cellsR_length ok]; exact q)] at hj; simp at hj
  have hkp := ok.pos
  have hq : j / K.k < m.length := Nat.div_lt_of_lt_mul (by rw [Nat.mul_comm]; exact hjl)
  have hr : j % K.k < K.k := Nat.mod_lt _ hkp
  have e : j = j / K.k * K.k + j % K.k := by rw [Nat.mul_comm]; exact (Nat.div_add_mod j K.k).symm
  obtain ⟨b, off, ea, hcc⟩ := hc (j / K.k) hq
  simp only [Option.some.injEq] at ea
  subst ea
  rw [add_plain]
  rw [e, cellsR_at ok m _ hq _ hr] at hj
  have := hcc _ _ hj
  rw [e, ← Nat.add_assoc]
  exact this
theorem Row.full {w : World} {a : Option Addr} {n cap : Nat} {l : List α} (H : Row K w (.slice a n cap) l) : Row K w (.slice a n n) l := by
  obtain ⟨a', c', e, hlc, hcm, hn, hc⟩ := H
  simp only [Value.slice.injEq] at e
  obtain ⟨rfl, rfl, rfl⟩ := e
  exact ⟨a, l.length, rfl, Nat.le_refl _, Nat.le_trans hlc hcm, fun h => by have := hn h; omega, hc⟩
/-- An append to a row that has no room. -/
theorem run_full (ok : K.Ok) (ty : TypeId) {w : World} {a : Option Addr} {n : Nat} {u : Value} {l m : List α} (hv : Row K w (.slice a n n) l) (hu : Row K w u m) (hne : m ≠ []) (hl : (l.length + m.length) * K.b ≤ 140737488355328) :
    ∃ v' w', (Builtin.append_ #[K.s, K.s] ty #[.slice a n n, u]).run Tryd.prog w = .ok v' w' ∧ OwnR K w.heap.size w' v' (l ++ m) ∧ w.grownBy w' none := by
  obtain ⟨zv, hinf, hzc⟩ := ok.inf
  obtain ⟨i0, hi, hz0, hz1, hz2⟩ := info_parts hinf
  have hb0 := ok.by0
  have hml : (cellsR K m).length = m.length * K.k := cellsR_length ok m
  have hxl : (cellsR K l).length = l.length * K.k := cellsR_length ok l
  obtain ⟨ad, cap2, rfl, hlc2, hcm2, hn2, hc2⟩ := id hu
  have hpos : 0 < m.length := by cases m with | nil => exact absurd rfl hne | cons _ _ => simp
  obtain ⟨ad, rfl⟩ : ∃ x, ad = some x := by
    cases ad with
    | none =>
      have := hn2 rfl
      omega
    | some x => exact ⟨x, rfl⟩
  have hnews := row_cells ok hu
  have hmx : l.length + m.length ≤ maxLen := by have := Nat.le_mul_of_pos_right (l.length + m.length) hb0.1; unfold maxLen; omega
  cases a with
  | none =>
    obtain ⟨a', c', e, hlc, hcm, hn, hc⟩ := hv
    simp only [Value.slice.injEq] at e
    obtain ⟨rfl, rfl, rfl⟩ := e
    have hl0 : l.length = 0 := hn rfl
    obtain rfl : l = [] := List.eq_nil_of_length_eq_zero hl0
    obtain ⟨v', w', hr, h2, h3, -, h5⟩ := run_append_own_at (P := Tryd.prog) w w.heap.size K.s ty K.t i0 zv K.k K.b ok.und hi hz0 hz1 hz2 hzc ok.pos (.slice none 0 0) 0 [] (OwnR.nil K w.heap.size w) ad m.length cap2 (cellsR K m) hml hnews (cellsR_one ok m) (by simpa using hmx) (by simpa using hl) (Nat.le_refl _)
    refine ⟨v', w', hr, ?_, h3⟩
    show w'.ownsRow _ _ _ _ _ _
    simpa using h2
  | some b =>
    have hcells := row_cells ok hv
    obtain ⟨a', c', e, hlc, hcm, hn, hc⟩ := hv
    simp only [Value.slice.injEq] at e
    obtain ⟨rfl, rfl, rfl⟩ := e
    obtain ⟨v', w', hr, h2, h3⟩ := run_append_arg_grows (P := Tryd.prog) (w := w) K.s ty K.t i0 zv K.k K.b ok.und hi hz0 hz1 hz2 hzc ok.pos b l.length l.length (cellsR K l) hxl hcells ad m.length cap2 (cellsR K m) hml hnews (by omega) hmx hl
    refine ⟨v', w', hr, ?_, h3⟩
    show w'.ownsRow _ _ _ _ _ _
    rw [cellsR_app, List.length_append]
    exact h2
theorem step_full (ok : K.Ok) {ops : Array Oper} {o : Oper} {a : Act} {K' : Act → World → Prop} {Q : Exit → Act → World → Prop} {E : Prop} (hgd : o.guard = none) (s x : Operand)
    (ho : o.op = .call { callee := .builtin .append, args := #[s, x], argTypes := #[K.s, K.s] })
    {w : World} {av : Option Addr} {n : Nat} {u : Value} {l m : List α} (hs : a.eval s = .slice av n n) (hv : Row K w (.slice av n n) l) (hx : a.eval x = u) (hu : Row K w u m) (hne : m ≠ []) (hl : (l.length + m.length) * K.b ≤ 140737488355328)
    (h : ∀ a' n' c' w', Hid (OwnR K w.heap.size w' (.slice a' n' c') (l ++ m) ∧ w.grownBy w' none) → K' (a.put o.dst (.slice a' n' c')) w') :
    if Region.wanted o (yielded ops a.tmps) = true then Oper.wp Tryd.prog o a w K' Q else E := by
  obtain ⟨v', w', hr, h1, h2⟩ := run_full ok o.type hv hu hne hl
  obtain ⟨a', c', e'⟩ := h1.slice
  subst e'
  have hw : Region.wanted o (yielded ops a.tmps) = true := by simp [Region.wanted, hgd]
  rw [if_pos hw]
  unfold Oper.wp execOp
  simp only [ho, resolve, invoke, builtin, Sem.run_bind, Sem.run_pure, Result.andThen_ok, List.map_toArray, List.map_cons, List.map_nil, hs, hx, hr]
  exact h _ _ _ _ (Lib.hid ⟨h1, h2⟩)
end
namespace Wt
/-- What the document's Push leaves. -/
def Rs (w : World) (g : Nat) (s : St) (l : List Ev) (w' : World) : Prop :=
  (pushE s l ≠ 0 → Below w.heap.size w w') ∧ (pushE s l = 0 → ∃ v' s', Kp s l s' ∧ Rb w' g v' s' ∧ (∀ k, v'.ownBlock = some k → w.heap.size ≤ k) ∧ Kept (fun k => k = g) w w')
/-- The hub alone is turned, its list a new one. -/
def Rd (w : World) (g : Nat) (v' : Value) (s : St) (w' : World) : Prop := Rb w' g v' s ∧ (∀ k, v'.ownBlock = some k → w.heap.size ≤ k) ∧ Kept (fun k => k = g) w w'
set_option maxHeartbeats 16000000 in
set_option maxRecDepth 100000 in
theorem rpush_any (l : List Ev) (u : Value) (w : World) (g : Nat) (v : Value) (s : St) (H : Rb w g v s) (ok : s.Ok) (HL : Row kE w u l) (hz : ∀ e ∈ l, e.p.size ≤ 1048576) :
    Calls Tryd.prog 37 #[.pointer (some ⟨g, 0, none⟩), u] w fun e w' => e = .returned (.int .i64 (pushE s l)) ∧ Rs w g s l w' := by
  obtain ⟨lo, hi, es⟩ := s
  have H' := Lib.hid H
  have OK := Lib.hid ok
  have HU := Lib.hid HL
  have SZ := Lib.hid hz
  obtain ⟨a, cap, rfl, hlc, hcm⟩ := HL.len
  unfold maxLen at hcm
  obtain ⟨n, hn⟩ : ∃ n, n = l.length := ⟨_, rfl⟩
  rw [← hn] at hlc HU ⊢
  have HN := Lib.hid hn
  have PE : Hid (∀ e, (e = pushE ⟨lo, hi, es⟩ l → e ≠ 0 → Rs w g ⟨lo, hi, es⟩ l = fun w' => Below w.heap.size w w')) := Lib.hid fun e he h0 => by
    funext w'
    unfold Rs
    rw [← he]
    simp [h0]
  obtain ⟨b0, b1, b2⟩ := ok.b
  simp only at b0 b1 b2
  have c1 := H.c1
  simp only at c1
  clear H ok HL hz hn
  go_enter Tryd.func37, Tryd.ntmps37
  by_cases h1 : hi ≥ 1152921504606846976
  · have E : Hid (pushE ⟨lo, hi, es⟩ l = 1) := Lib.hid (by unfold pushE; rw [if_pos (.inl (by simp only; omega))])
    go_wp2_with fail
    go_ret
    exact ⟨by rw [E.out]; rfl, by rw [PE.out 1 E.out.symm (by decide)]; exact Below.refl _ _⟩
  by_cases h2 : n = 0
  · have E : Hid (pushE ⟨lo, hi, es⟩ l = 1) := Lib.hid (by unfold pushE; rw [if_pos (.inr (.inl (by rw [← HN.out]; exact h2)))])
    subst h2
    go_wp2_with fail
    go_ret
    exact ⟨by rw [E.out]; rfl, by rw [PE.out 1 E.out.symm (by decide)]; exact Below.refl _ _⟩
  have g2 : ((n : Int) == 0) = false := by rw [beq_eq_false_iff_ne]; omega
  have h1' : hi < 1152921504606846976 := by omega
  go_wp2_with fail
  go_loopg [5] n (fun gk si wr => ∃ k : Nat, k ≤ n ∧ gk = n - k ∧ si = .int .i64 k ∧ Hid ((∀ i, i < k → (l.getD i Ev.z).v = hi + 1 ∧ rightB (l.getD i Ev.z) = true) ∧ Below w.heap.size w wr))
  case atStart => exact ⟨0, Nat.zero_le _, rfl, rfl, Lib.hid ⟨fun i hi => by omega, Below.refl _ _⟩⟩
  case round =>
    obtain ⟨k, hk, hgk, rfl, R⟩ := hrel
    have G := Lib.hid hgk
    clear hgk c1
    by_cases hlt : k < n
    · have hlt' : (k : Int) < (n : Int) := by omega
      have hkl : k < l.length := by rw [← HN.out]; exact hlt
      obtain ⟨b, off, rfl, c0, c1, c2, c3, c4⟩ := row_at (HU.out.below R.out.2) k hkl
      have NO : Hid (¬ ((l.getD k Ev.z).v = hi + 1 ∧ rightB (l.getD k Ev.z) = true) → pushE ⟨lo, hi, es⟩ l = 1) := Lib.hid fun h => by
        unfold pushE
        rw [if_pos (.inr (.inr fun q => h (q _ (getD_in (d := Ev.z) hkl))))]
      have YES : Hid ((l.getD k Ev.z).v = hi + 1 ∧ rightB (l.getD k Ev.z) = true → ∀ i, i < k + 1 → (l.getD i Ev.z).v = hi + 1 ∧ rightB (l.getD i Ev.z) = true) := Lib.hid fun h i hi => by
        rcases Nat.lt_or_ge i k with q | q
        · exact R.out.1 i q
        · rw [show i = k by omega]; exact h
      have ES := Lib.hid (SZ.out _ (getD_in (d := Ev.z) hkl))
      have CB : Hid (∀ W : World, Below wr.heap.size wr W → W.cell? ⟨b, off + k * 5, none⟩ = some (.int .i64 (l.getD k Ev.z).v) ∧ W.cell? ⟨g, 1, none⟩ = some (.int .i64 hi) ∧ Below w.heap.size w W) := Lib.hid fun W hb => by
        have hb2 := R.out.2.trans (hb.mono R.out.2.size)
        obtain ⟨b', off', eb, hc⟩ := (HU.out.below hb2).at k hkl
        simp only [Option.some.injEq, Addr.mk.injEq, and_true] at eb
        obtain ⟨rfl, rfl⟩ := eb
        exact ⟨hc 0 _ rfl, (H'.out.below hb2).c1, hb2⟩
      obtain ⟨y, hy⟩ : ∃ y, y = l.getD k Ev.z := ⟨_, rfl⟩
      rw [← hy] at c0 c1 c2 c3 c4 NO YES ES CB
      clear hy hkl
      obtain ⟨yv, yk, yg, yp, yn⟩ := y
      simp only at c0 c1 c2 c3 c4 NO YES ES CB
      have e0 : ∀ (dq : Nat) (os : Array Obj), (Go.Sort.grow (redrawn wr dq) os).cell? ⟨b, off + k * 5, none⟩ = some (.int .i64 yv) := fun dq os => cell_regrown c0 dq os
      have e1 : ∀ (dq : Nat) (os : Array Obj), (Go.Sort.grow (redrawn wr dq) os).cell? ⟨b, off + k * 5 + 1, none⟩ = some (.int .i64 yk) := fun dq os => cell_regrown c1 dq os
      have e2 : ∀ (dq : Nat) (os : Array Obj), (Go.Sort.grow (redrawn wr dq) os).cell? ⟨b, off + k * 5 + 2, none⟩ = some (.bool yg) := fun dq os => cell_regrown c2 dq os
      have e3 : ∀ (dq : Nat) (os : Array Obj), (Go.Sort.grow (redrawn wr dq) os).cell? ⟨b, off + k * 5 + 3, none⟩ = some (.string yp) := fun dq os => cell_regrown c3 dq os
      have e4 : ∀ (dq : Nat) (os : Array Obj), (Go.Sort.grow (redrawn wr dq) os).cell? ⟨b, off + k * 5 + 4, none⟩ = some (.string yn) := fun dq os => cell_regrown c4 dq os
      have eh : ∀ (dq : Nat) (os : Array Obj), (Go.Sort.grow (redrawn wr dq) os).cell? ⟨g, 1, none⟩ = some (.int .i64 hi) := fun dq os => cell_regrown (CB.out wr (Below.refl _ _)).2.1 dq os
      obtain ⟨r, hr⟩ : ∃ r, r = rightB ⟨yv, yk, yg, yp, yn⟩ := ⟨_, rfl⟩
      have RQ : Hid (∀ (dq : Nat) (os : Array Obj), Calls Tryd.prog 54 #[.agg #[.int .i64 yv, .int .i64 yk, .bool yg, .string yp, .string yn]] (Go.Sort.grow (redrawn wr dq) os) fun e w'' => e = .returned (.bool r) ∧ ∃ p : Regrown, w'' = Go.Sort.grow (redrawn wr p.d) p.os) := Lib.hid (fun dq os => Calls.regrown_of (by rw [hr]; exact rright_any ⟨yv, yk, yg, yp, yn⟩ _ ES.out))
      rw [← hr] at NO YES
      clear hr c0 c1 c2 c3 c4
      cases r with
      | false =>
        have N2 := Lib.hid (NO.out (by simp))
        go_wp2_with fail
        refine wp_region_quiet_below (by kernel_rfl) (by kernel_rfl) ?_
        repeat (go_big_quiet_step (with_reducible exact RQ.out _ _))
        refine wpQuiet_nil ?_
        intro _ hw'
        obtain ⟨⟨dq, osq⟩, hw''⟩ := hw'
        subst hw''
        have XB : Hid (Below w.heap.size w (Go.Sort.grow (redrawn wr dq) osq)) := Lib.hid (R.out.2.trans ((below_regrown wr dq osq).mono R.out.2.size))
        go_wp2_with fail
        go_ret
        exact ⟨by rw [N2.out]; rfl, by rw [PE.out 1 N2.out.symm (by decide)]; exact XB.out⟩
      | true =>
        by_cases he : yv = hi + 1
        · subst he
          have Y2 := Lib.hid (YES.out ⟨rfl, rfl⟩)
          go_wp2_with fail
          refine wp_region_quiet_below (by kernel_rfl) (by kernel_rfl) ?_
          repeat (go_big_quiet_step (with_reducible exact RQ.out _ _))
          refine wpQuiet_nil ?_
          intro _ hw'
          obtain ⟨⟨dq, osq⟩, hw''⟩ := hw'
          subst hw''
          have XB : Hid (Below w.heap.size w (Go.Sort.grow (redrawn wr dq) osq)) := Lib.hid (R.out.2.trans ((below_regrown wr dq osq).mono R.out.2.size))
          go_wp2_with fail
          go_roundg (n - (k + 1))
          case measure => have := G.out; omega
          case rel => exact ⟨k + 1, by omega, rfl, by go_num, Lib.hid ⟨Y2.out, XB.out⟩⟩
        · have g3 : (yv == hi + 1) = false := by rw [beq_eq_false_iff_ne]; exact he
          have N2 := Lib.hid (NO.out (by simp [he]))
          go_wp2_with fail
          refine wp_region_quiet_below (by kernel_rfl) (by kernel_rfl) ?_
          repeat (go_big_quiet_step (with_reducible exact RQ.out _ _))
          refine wpQuiet_nil ?_
          intro _ hw'
          obtain ⟨⟨dq, osq⟩, hw''⟩ := hw'
          subst hw''
          have XB : Hid (Below w.heap.size w (Go.Sort.grow (redrawn wr dq) osq)) := Lib.hid (R.out.2.trans ((below_regrown wr dq osq).mono R.out.2.size))
          go_wp2_with fail
          go_ret
          exact ⟨by rw [N2.out]; rfl, by rw [PE.out 1 N2.out.symm (by decide)]; exact XB.out⟩
    · have HA : Hid (∀ e ∈ l, e.v = hi + 1 ∧ rightB e = true) := Lib.hid fun e he => by
        obtain ⟨i, hi, rfl⟩ := List.mem_iff_getElem.1 he
        have := R.out.1 i (by have := HN.out; omega)
        rw [List.getD_eq_getElem?_getD, List.getElem?_eq_getElem hi] at this
        exact this
      have hkn : ¬ (k : Int) < (n : Int) := by omega
      by_cases h4 : n > 128
      · have h4' : (n : Int) > 128 := by omega
        have E : Hid (pushE ⟨lo, hi, es⟩ l = 23) := Lib.hid (by
          unfold pushE
          rw [if_neg (by rintro (q | q | q); simp only at q; omega; exact h2 (by rw [HN.out]; exact q); exact q HA.out), if_pos (by rw [← HN.out]; exact h4)])
        go_wp2_with fail
        go_ret
        exact ⟨by rw [E.out]; rfl, by rw [PE.out 23 E.out.symm (by decide)]; exact R.out.2⟩
      · have E : Hid (pushE ⟨lo, hi, es⟩ l = 0) := Lib.hid (by
          unfold pushE
          rw [if_neg (by rintro (q | q | q); simp only at q; omega; exact h2 (by rw [HN.out]; exact q); exact q HA.out), if_neg (by rw [← HN.out]; exact h4)])
        have h4' : ¬ (n : Int) > 128 := by omega
        obtain ⟨a2, cap2, rfl, hlc2, hcm2⟩ := (H'.out.row.row okE).len
        simp only at H' hlc2 hcm2
        unfold maxLen at hcm2
        have hes : es.length ≤ 128 := OK.out.n
        obtain ⟨n2, hn2⟩ : ∃ n2, n2 = es.length := ⟨_, rfl⟩
        rw [← hn2] at H' hlc2 hes
        have HN2 := Lib.hid hn2
        clear hn2
        have HW : Hid (Rb wr.drew g (.slice a2 n2 cap2) ⟨lo, hi, es⟩ ∧ Row kE wr.drew (.slice a n cap) l) := Lib.hid ⟨(H'.out.below R.out.2).below (below_drawn wr 1), (HU.out.below R.out.2).below (below_drawn wr 1)⟩
        have z2 : wr.drew.cell? ⟨g, 2, none⟩ = some (.slice a2 n2 cap2) := HW.out.1.c2
        have hnc : (n2 : Int) ≤ (cap2 : Int) := by omega
        have hn0 : (0 : Int) ≤ (n2 : Int) := by omega
        have LZ : Hid ((es.length + l.length) * kE.b ≤ 140737488355328) := Lib.hid (by
          rw [← HN2.out, ← HN.out]
          show _ * 56 ≤ _
          omega)
        have LB : Hid ((es ++ l).length ≤ 256) := Lib.hid (by rw [List.length_append, ← HN2.out, ← HN.out]; omega)
        have NE : Hid (l ≠ []) := Lib.hid fun q => h2 (by rw [HN.out, q]; rfl)
        go_wp2_with fail
        go_region_law (
          (refine step_full okE rfl (.tmp 61) (.tmp 62) rfl (w := wr.drew) (av := a2) (n := n2) (l := es) (m := l) rfl (Row.full (HW.out.1.row.row okE)) rfl HW.out.2 NE.out LZ.out ?_; intro a7 n7 c7 w7 q7
           have h7 : w7.heap[g]? = some (.cells #[.int .i64 lo, .int .i64 hi, .slice a2 n2 cap2] 72 (0, 0)) := (q7.out.2.block g (lt_of_some HW.out.1.hb) (by simp)).trans HW.out.1.hb
           have t2 : w7.cell? ⟨g, 2, none⟩ = some (.slice a2 n2 cap2) := cell_of_row _ _ 2 _ _ _ h7
           have tf := frozen_row h7 2
           have FN : Hid (Rd w g (.slice a7 n7 c7) ⟨lo, hi, es ++ l⟩ (w7.setCell ⟨g, 2, none⟩ (.slice a7 n7 c7))) := Lib.hid (by
             refine ⟨Rb.setEs (s := ⟨lo, hi, []⟩) h7 (q7.out.1.mono (Nat.zero_le _)) (rown_ne (s := ⟨lo, hi, []⟩) h7 (q7.out.1.mono (Nat.zero_le _))), fun k hk => Nat.le_trans R.out.2.size (q7.out.1.lt k hk).1, ?_⟩
             refine (((Below.kept R.out.2 _).trans (Below.kept (below_drawn wr 1) (fun _ => False)) (fun _ _ q => q.elim)).trans (grown_kept q7.out.2) (fun x hx q => by cases q)).trans (kept_set w7 _ _ (F := fun k => k = g) rfl) (fun _ _ q => q))
           clear h7 q7))
        all_goals
          generalize w7.setCell ⟨g, 2, none⟩ (.slice a7 n7 c7) = w8 at FN ⊢
          have c1 := FN.out.1.c1
          simp only at c1
          have f1 := FN.out.1.frozen 1
          have S1 : Hid (Rd w g (.slice a7 n7 c7) ⟨lo, hi + 1, es ++ l⟩ (w8.setCell ⟨g, 1, none⟩ (.int .i64 (hi + 1)))) := Lib.hid ⟨FN.out.1.setHi _, FN.out.2.1, FN.out.2.2.trans (kept_set w8 _ _ (F := fun k => k = g) rfl) (fun _ _ q => q)⟩
          go_wp2_with fail
          go_loopg [] (hi + 1 - lo).toNat (fun m wr => ∃ (lo' : Int) (v' : Value), m = (hi + 1 - lo').toNat ∧ lo ≤ lo' ∧ lo' ≤ hi + 1 ∧ Hid (Rd w g v' ⟨lo', hi + 1, (es ++ l).filter (gt lo')⟩ wr ∧ (lo' = lo ∨ 128 < ((es ++ l).filter (gt (lo' - 1))).length)))
          case atStart =>
            refine ⟨lo, .slice a7 n7 c7, rfl, Int.le_refl _, by omega, Lib.hid ⟨?_, .inl rfl⟩⟩
            have : (es ++ l).filter (gt lo) = es ++ l := List.filter_eq_self.2 fun e he => by
              rcases List.mem_append.1 he with q | q
              · have := (OK.out.r e q).1; simpa using this
              · have := (HA.out e q).1; simp; omega
            rw [this]; exact S1.out
          case round =>
            clear c1 f1 tf t2 z2 R FN S1
            obtain ⟨lo', v', hm, hlo, hhi, R⟩ := hrel
            have G := Lib.hid hm
            clear hm
            obtain ⟨F, hF⟩ : ∃ F, F = (es ++ l).filter (gt lo') := ⟨_, rfl⟩
            have HE := Lib.hid hF
            rw [← hF] at R
            obtain ⟨a3, cap3, rfl, hlc3, hcm3⟩ := (R.out.1.1.row.row okE).len
            unfold maxLen at hcm3
            try simp only at hlc3 R
            obtain ⟨n3, hn3⟩ : ∃ n3, n3 = F.length := ⟨_, rfl⟩
            rw [← hn3] at hlc3 R
            have HN3 : Hid (n3 = F.length ∧ n3 ≤ 256) := Lib.hid ⟨hn3, by rw [hn3, hF]; exact Nat.le_trans (List.length_filter_le _ _) LB.out⟩
            have hn3b : n3 ≤ 256 := HN3.out.2
            clear hn3 hF
            have d2 := R.out.1.1.c2
            try simp only at d2
            by_cases hgt : n3 > 128
            · have hgt' : (n3 : Int) > 128 := by omega
              have hlt3 : lo' < hi + 1 := by
                rcases Int.lt_or_le lo' (hi + 1) with q | q
                · exact q
                · have hz : F = [] := by
                    rw [HE.out, List.filter_eq_nil_iff]
                    intro e he
                    have : e.v ≤ hi + 1 := by
                      rcases List.mem_append.1 he with c | c
                      · have := (OK.out.r e c).2; simp only at this; omega
                      · have := (HA.out e c).1; omega
                    simp; omega
                  have := HN3.out.1
                  rw [hz] at this
                  simp at this; omega
              have d0 := R.out.1.1.c0
              try simp only at d0
              have f0 := R.out.1.1.frozen 0
              obtain ⟨w9, hw9⟩ : ∃ w9, w9 = wr.setCell ⟨g, 0, none⟩ (.int .i64 (lo' + 1)) := ⟨_, rfl⟩
              have S9 : Hid (Rd w g (.slice a3 n3 cap3) ⟨lo' + 1, hi + 1, F⟩ w9) := Lib.hid (by
                rw [hw9]
                exact ⟨R.out.1.1.setLo _, R.out.1.2.1, R.out.1.2.2.trans (kept_set wr _ _ (F := fun k => k = g) rfl) (fun _ _ q => q)⟩)
              have hw9' := hw9.symm
              clear hw9
              go_wp2_with fail
              go_loopg [6, 7] n3 (fun gk so si wx => ∃ (k : Nat) (a' : Option Addr) (m c : Nat), k ≤ n3 ∧ gk = n3 - k ∧ si = .int .i64 k ∧ so = .slice a' m c ∧ Hid (OwnR kE w9.heap.size wx (.slice a' m c) ((F.take k).filter (gt (lo' + 1))) ∧ Below w9.heap.size w9 wx))
              case atStart => exact ⟨0, none, 0, 0, Nat.zero_le _, rfl, rfl, rfl, Lib.hid ⟨OwnR.nil _ _ _, Below.refl _ _⟩⟩
              case round =>
                clear d2 d0 f0
                obtain ⟨w10, rfl⟩ : ∃ w10, w10 = wr := ⟨_, rfl⟩
                obtain ⟨j, a', m, c, hj, hgj, rfl, rfl, T⟩ := hrel
                have GJ := Lib.hid hgj
                clear hgj
                have y2 := (S9.out.1.below T.out.2).c2
                try simp only at y2
                by_cases hjt : j < n3
                · have hjt' : (j : Int) < (n3 : Int) := by omega
                  have hjl : j < F.length := by rw [← HN3.out.1]; exact hjt
                  obtain ⟨b3, off3, rfl, -⟩ := row_at ((S9.out.1.below T.out.2).row.row okE) j hjl
                  have CB : Hid (∀ (dq : Nat) (os : Array Obj), ((Go.Sort.grow (redrawn w10 dq) os).cell? ⟨g, 2, none⟩ = some (.slice (some ⟨b3, off3, none⟩) n3 cap3) ∧ (Go.Sort.grow (redrawn w10 dq) os).cell? ⟨g, 0, none⟩ = some (.int .i64 (lo' + 1))) ∧ ∀ i y, (kE.c (F.getD j Ev.z))[i]? = some y → (Go.Sort.grow (redrawn w10 dq) os).cell? ⟨b3, off3 + j * 5 + i, none⟩ = some y) := Lib.hid fun dq os => by
                    have hh := S9.out.1.below (T.out.2.trans ((below_regrown w10 dq os).mono T.out.2.size))
                    refine ⟨⟨hh.c2, hh.c0⟩, fun i y hy => ?_⟩
                    obtain ⟨b', off', eb, hc⟩ := (hh.row.row okE).at j hjl
                    simp only [Option.some.injEq, Addr.mk.injEq, and_true] at eb
                    obtain ⟨rfl, rfl⟩ := eb
                    exact hc i y hy
                  have FT := Lib.hid (filter_take (gt (lo' + 1)) F j hjl)
                  have LZ3 : Hid ((((F.take j).filter (gt (lo' + 1))).length + 1) * kE.b ≤ 140737488355328) := Lib.hid (by
                    have := filter_le (gt (lo' + 1)) F j
                    show (_ + 1) * 56 ≤ _
                    omega)
                  obtain ⟨y, hy⟩ : ∃ y, y = F.getD j Ev.z := ⟨_, rfl⟩
                  rw [← hy] at CB FT
                  clear hy hjl
                  obtain ⟨yv, yk, yg, yp, yn⟩ := y
                  try simp only at FT
                  have q2 : ∀ (dq : Nat) (os : Array Obj), (Go.Sort.grow (redrawn w10 dq) os).cell? ⟨g, 2, none⟩ = some (.slice (some ⟨b3, off3, none⟩) n3 cap3) := fun dq os => (CB.out dq os).1.1
                  have q0 : ∀ (dq : Nat) (os : Array Obj), (Go.Sort.grow (redrawn w10 dq) os).cell? ⟨g, 0, none⟩ = some (.int .i64 (lo' + 1)) := fun dq os => (CB.out dq os).1.2
                  have x0 : ∀ (dq : Nat) (os : Array Obj), (Go.Sort.grow (redrawn w10 dq) os).cell? ⟨b3, off3 + j * 5, none⟩ = some (.int .i64 yv) := fun dq os => (CB.out dq os).2 0 _ rfl
                  go_wp2_with fail
                  refine wp_region_quiet_below (by kernel_rfl) (by kernel_rfl) ?_
                  repeat (go_big_quiet_step (fail))
                  refine wpQuiet_nil ?_
                  intro _ hw'
                  obtain ⟨⟨dq, osq⟩, hw''⟩ := hw'
                  subst hw''
                  have z0 := x0 dq osq
                  have z1 : (Go.Sort.grow (redrawn w10 dq) osq).cell? ⟨b3, off3 + j * 5 + 1, none⟩ = some (.int .i64 yk) := (CB.out dq osq).2 1 _ rfl
                  have z2 : (Go.Sort.grow (redrawn w10 dq) osq).cell? ⟨b3, off3 + j * 5 + 2, none⟩ = some (.bool yg) := (CB.out dq osq).2 2 _ rfl
                  have z3 : (Go.Sort.grow (redrawn w10 dq) osq).cell? ⟨b3, off3 + j * 5 + 3, none⟩ = some (.string yp) := (CB.out dq osq).2 3 _ rfl
                  have z4 : (Go.Sort.grow (redrawn w10 dq) osq).cell? ⟨b3, off3 + j * 5 + 4, none⟩ = some (.string yn) := (CB.out dq osq).2 4 _ rfl
                  have zq := q2 dq osq
                  have BW : Hid (Below w9.heap.size w9 (Go.Sort.grow (redrawn w10 dq) osq) ∧ OwnR kE w9.heap.size (Go.Sort.grow (redrawn w10 dq) osq) (.slice a' m c) ((F.take j).filter (gt (lo' + 1)))) := Lib.hid ⟨T.out.2.trans ((below_regrown w10 dq osq).mono T.out.2.size), T.out.1.below (below_regrown w10 dq osq)⟩
                  generalize Go.Sort.grow (redrawn w10 dq) osq = w11 at z0 z1 z2 z3 z4 zq BW ⊢
                  clear x0 q0 q2 CB T
                  by_cases hv : yv > lo' + 1
                  · have F2 := Lib.hid (FT.out.trans (by rw [if_pos (by simpa using hv)]))
                    go_wp2_with (at_builtin; refine app_rowB okE (gg := w11.heap.size) rfl _ _ rfl rfl BW.out.2 BW.out.1.size ⟨yv, yk, yg, yp, yn⟩ rfl rfl rfl LZ3.out ?_; intro v' w' h1 h2)
                    obtain ⟨a5, d5, rfl⟩ := h1.slice
                    have A : Hid (OwnR kE w9.heap.size w' (.slice a5 _ d5) ((F.take (j + 1)).filter (gt (lo' + 1))) ∧ Below w9.heap.size w9 w') := Lib.hid ⟨by rw [F2.out]; exact h1, BW.out.1.grown h2 BW.out.1.size (fun j hj => (BW.out.2.lt j hj).1)⟩
                    clear h1 h2
                    go_wp2_with fail
                    go_roundg (n3 - (j + 1))
                    case measure => have := GJ.out; omega
                    case rel => exact ⟨j + 1, a5, _, d5, by omega, rfl, by go_num, rfl, A⟩
                  · have F2 := Lib.hid (FT.out.trans (by rw [if_neg (by simpa using hv), List.append_nil]))
                    go_wp2_with fail
                    go_roundg (n3 - (j + 1))
                    case measure => have := GJ.out; omega
                    case rel => exact ⟨j + 1, a', m, c, by omega, rfl, by go_num, rfl, Lib.hid ⟨by rw [F2.out]; exact BW.out.2, BW.out.1⟩⟩
                · have EJ : Hid ((F.take j).filter (gt (lo' + 1)) = (es ++ l).filter (gt (lo' + 1))) := Lib.hid (by
                    rw [List.take_of_length_le (by rw [← HN3.out.1]; omega), HE.out, filter_gt_gt _ (by omega)])
                  rw [EJ.out] at T
                  have y2f := (S9.out.1.below T.out.2).frozen 2
                  have hjn : ¬ (j : Int) < (n3 : Int) := by omega
                  have FX : Hid (Rd w g (.slice a' m c) ⟨lo' + 1, hi + 1, (es ++ l).filter (gt (lo' + 1))⟩ (w10.setCell ⟨g, 2, none⟩ (.slice a' m c))) := Lib.hid (by
                    have hh := (S9.out.1.below T.out.2).hb
                    refine ⟨Rb.setEs (s := ⟨lo' + 1, hi + 1, []⟩) hh (T.out.1.mono (Nat.zero_le _)) (rown_ne (s := ⟨lo' + 1, hi + 1, []⟩) hh (T.out.1.mono (Nat.zero_le _))), fun k hk => Nat.le_trans S9.out.2.2.size (T.out.1.lt k hk).1, ?_⟩
                    exact (S9.out.2.2.trans (Below.kept T.out.2 (fun _ => False)) (fun _ _ q => q.elim)).trans (kept_set w10 _ _ (F := fun k => k = g) rfl) (fun _ _ q => q))
                  go_wp2_with fail
                  go_roundg ((hi + 1 - (lo' + 1)).toNat)
                  case measure => have := G.out; omega
                  case rel => exact ⟨lo' + 1, _, rfl, by omega, by omega, Lib.hid ⟨FX.out, .inr (by rw [show lo' + 1 - 1 = lo' by omega, ← HE.out, ← HN3.out.1]; exact hgt)⟩⟩
            · have hgt' : ¬ (n3 : Int) > 128 := by omega
              have KP : Hid (Kp ⟨lo, hi, es⟩ l ⟨lo', hi + 1, F⟩) := Lib.hid ⟨rfl, ⟨hlo, hhi⟩, HE.out, by have := HN3.out.1; simp only; omega, R.out.2⟩
              go_wp2_with fail
              go_ret
              exact ⟨by rw [E.out]; rfl, fun q => absurd E.out q, fun _ => ⟨_, _, KP.out, R.out.1.1, R.out.1.2.1, R.out.1.2.2⟩⟩
end Wt
end Go.Proofs.YtfkoiehnkelpoaaDoor
