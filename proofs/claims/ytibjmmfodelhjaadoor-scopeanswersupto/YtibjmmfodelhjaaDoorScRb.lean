/-
  The document's below, In.
-/
import Derived.Test.YtibjmmfodelhjaaDoorScR
namespace Go.Proofs.YtibjmmfodelhjaaDoor
open Go.RowKit
open Go.Sort (grow)
set_option maxHeartbeats 4000000 in
set_option maxRecDepth 100000 in
theorem refBelow_any (u : Value) (l : List Am) (w : World) (hu : Row kAm w u l) :
    Calls Tryd.prog 39 #[u] w fun e w' => e = .returned (.bool (l.any negB)) ∧ w' = w := by
  have U := Lib.hid hu
  obtain ⟨a, cap, rfl, hlc, hcm⟩ := hu.len
  unfold maxLen at hcm
  obtain ⟨n, hn⟩ : ∃ n, n = l.length := ⟨_, rfl⟩
  rw [← hn] at hlc U ⊢
  have HN := Lib.hid hn
  clear hu hn
  go_enter Tryd.func39, Tryd.ntmps39
  go_wp2_with fail
  go_loopg [3] n (fun g si wr => ∃ (k : Nat), k ≤ n ∧ g = n - k ∧ si = .int .i64 k ∧ wr = w ∧ (l.take k).any negB = false)
  case atStart => exact ⟨0, Nat.zero_le _, rfl, rfl, rfl, by simp⟩
  case round =>
    obtain ⟨k, hk, hg, rfl, rfl, hz⟩ := hrel
    have R : Aside (gk = n - k ∧ (l.take k).any negB = false) := ⟨hg, hz⟩
    clear hg hz
    by_cases hlt : k < n
    · have hlt' : (k : Int) < (n : Int) := by omega
      have hkl : k < l.length := by rw [← HN.out]; exact hlt
      obtain ⟨b, off, rfl, pc⟩ := U.out.at k hkl
      have TK := Lib.hid (take_onez l k kAm.z hkl)
      have IN := Lib.hid (getD_in (d := kAm.z) hkl)
      obtain ⟨⟨xn, xv⟩, hx⟩ : ∃ x, x = l.getD k kAm.z := ⟨_, rfl⟩
      rw [← hx] at pc TK IN
      have p1 : wr.cell? ⟨b, off + k * 2 + 1, none⟩ = some (.int .i64 xv) := pc 1 _ rfl
      clear hx pc hkl
      by_cases heq : xv < 0
      · have HS : Hid (l.any negB = true) := Lib.hid (List.any_eq_true.2 ⟨_, IN.out, decide_eq_true heq⟩)
        go_wp2_with fail
        go_ret
        exact ⟨by rw [HS.out]; rfl, rfl⟩
      · have HS : Hid ((l.take (k + 1)).any negB = false) := Lib.hid (by
          rw [TK.out, List.any_append, R.out.2]
          show (false || (decide (xv < 0) || false)) = false
          rw [decide_eq_false heq]; rfl)
        go_wp2_with fail
        go_roundg (n - (k + 1))
        case measure => have := R.out.1; omega
        case rel => exact ⟨k + 1, by omega, rfl, by go_num, rfl, HS.out⟩
    · have HS : Hid (l.any negB = false) := Lib.hid (by
        have := R.out.2
        rw [List.take_of_length_le (by rw [← HN.out]; omega)] at this
        exact this)
      go_wp2_with fail
      go_ret
      exact ⟨by rw [HS.out]; rfl, rfl⟩
theorem nam_take (l : List Pt) (k : Nat) (h : k < l.length) : onamB (l.take (k + 1)) = (onamB (l.take k) || namB (l.getD k ⟨⟨#[]⟩, [], []⟩)) := by
  unfold onamB
  rw [take_onez l k ⟨⟨#[]⟩, [], []⟩ h, List.any_append]
  simp
set_option maxHeartbeats 8000000 in
set_option maxRecDepth 100000 in
theorem refIn_any (o : Ob) (la : Option Addr) (ln lc : Nat) (pa : Option Addr) (pn pc : Nat) (k a : Int) (w : World) (h : Pts w (.slice pa pn pc) o.ps) (hz : ∀ p ∈ o.ps, p.r.length + p.l.length ≤ 9223372036854775807) :
    Calls Tryd.prog 27 #[o.val (.slice la ln lc) (.slice pa pn pc), .agg #[.int .i64 k, .int .i64 a]] w fun e w' => e = .returned (.bool (inB o k a)) ∧ Below w.heap.size w w' := by
  obtain ⟨op, on, ols, opr, odl, ops, over⟩ := o
  obtain ⟨_, _, e1, hlc, hcm⟩ := h.len
  simp only [Value.slice.injEq] at e1 hlc
  rw [← e1.2.2] at hlc hcm
  rw [← e1.2.1] at hlc
  unfold maxLen at hcm
  have PN : Hid (pn = ops.length) := Lib.hid e1.2.1
  clear e1
  have H := Lib.hid h
  have HZ := Lib.hid hz
  clear h hz
  simp only at H HZ
  obtain ⟨X, hX⟩ : ∃ X, X = (w.alloc (.cells #[.string op, .string on, .slice la ln lc, .int .i64 opr, .int .i64 odl, .slice pa pn pc, .int .i64 over] 25)).alloc (.cells #[.int .i64 k, .int .i64 a] 41) := ⟨_, rfl⟩
  have BX : Hid (Below w.heap.size w X) := Lib.hid (by rw [hX]; have q := (below_alR w).out (.cells #[.string op, .string on, .slice la ln lc, .int .i64 opr, .int .i64 odl, .slice pa pn pc, .int .i64 over] 25); exact q.alloc q.size _)
  have HC : (X.cell? ⟨w.heap.size, 0, none⟩ = some (.string op) ∧ X.cell? ⟨w.heap.size, 1, none⟩ = some (.string on) ∧ X.cell? ⟨w.heap.size, 2, none⟩ = some (.slice la ln lc) ∧ X.cell? ⟨w.heap.size, 3, none⟩ = some (.int .i64 opr) ∧ X.cell? ⟨w.heap.size, 4, none⟩ = some (.int .i64 odl) ∧ X.cell? ⟨w.heap.size, 5, none⟩ = some (.slice pa pn pc) ∧ X.cell? ⟨w.heap.size, 6, none⟩ = some (.int .i64 over) ∧ X.cell? ⟨w.heap.size + 1, 0, none⟩ = some (.int .i64 k) ∧ X.cell? ⟨w.heap.size + 1, 1, none⟩ = some (.int .i64 a)) := by
    subst hX
    have q : ∀ j v, (#[.string op, .string on, .slice la ln lc, .int .i64 opr, .int .i64 odl, .slice pa pn pc, .int .i64 over] : Array Value)[j]? = some v → ((w.alloc (.cells #[.string op, .string on, .slice la ln lc, .int .i64 opr, .int .i64 odl, .slice pa pn pc, .int .i64 over] 25)).alloc (.cells #[.int .i64 k, .int .i64 a] 41)).cell? ⟨w.heap.size, j, none⟩ = some v := fun j v hv => cell_al (by rw [World.cell?_alloc_new]; exact hv) _
    have q2 : ∀ j v, (#[.int .i64 k, .int .i64 a] : Array Value)[j]? = some v → ((w.alloc (.cells #[.string op, .string on, .slice la ln lc, .int .i64 opr, .int .i64 odl, .slice pa pn pc, .int .i64 over] 25)).alloc (.cells #[.int .i64 k, .int .i64 a] 41)).cell? ⟨w.heap.size + 1, j, none⟩ = some v := fun j v hv => by
      have e : w.heap.size + 1 = (w.alloc (.cells #[.string op, .string on, .slice la ln lc, .int .i64 opr, .int .i64 odl, .slice pa pn pc, .int .i64 over] 25)).heap.size := by simp
      rw [e, World.cell?_alloc_new]; exact hv
    exact ⟨q 0 _ rfl, q 1 _ rfl, q 2 _ rfl, q 3 _ rfl, q 4 _ rfl, q 5 _ rfl, q 6 _ rfl, q2 0 _ rfl, q2 1 _ rfl⟩
  have KC : Hid (∀ W : World, Below X.heap.size X W → (W.cell? ⟨w.heap.size, 0, none⟩ = some (.string op) ∧ W.cell? ⟨w.heap.size, 1, none⟩ = some (.string on) ∧ W.cell? ⟨w.heap.size, 2, none⟩ = some (.slice la ln lc) ∧ W.cell? ⟨w.heap.size, 3, none⟩ = some (.int .i64 opr) ∧ W.cell? ⟨w.heap.size, 4, none⟩ = some (.int .i64 odl) ∧ W.cell? ⟨w.heap.size, 5, none⟩ = some (.slice pa pn pc) ∧ W.cell? ⟨w.heap.size, 6, none⟩ = some (.int .i64 over) ∧ W.cell? ⟨w.heap.size + 1, 0, none⟩ = some (.int .i64 k) ∧ W.cell? ⟨w.heap.size + 1, 1, none⟩ = some (.int .i64 a))) := Lib.hid fun W hb => by
    obtain ⟨h0, h1, h2, h3, h4, h5, h6, h7, h8⟩ := HC
    exact ⟨(hb.cell (block_lt_of_cell h0)).trans h0, (hb.cell (block_lt_of_cell h1)).trans h1, (hb.cell (block_lt_of_cell h2)).trans h2, (hb.cell (block_lt_of_cell h3)).trans h3, (hb.cell (block_lt_of_cell h4)).trans h4, (hb.cell (block_lt_of_cell h5)).trans h5, (hb.cell (block_lt_of_cell h6)).trans h6, (hb.cell (block_lt_of_cell h7)).trans h7, (hb.cell (block_lt_of_cell h8)).trans h8⟩
  clear HC
  unfold Ob.val
  simp only
  have EX := Lib.hid hX
  have VA := Lib.hid (refValid_any k a X)
  clear hX
  go_enter Tryd.func27, Tryd.ntmps27
  go_wp2_with fail
  rw [← EX.out]
  clear EX
  refine VA.out.mono ?_
  rintro e w1 ⟨rfl, hb1⟩
  have B1 : Hid (Below X.heap.size X w1) := Lib.hid hb1
  clear hb1 VA
  cases hv : validB k a with
  | false =>
    have E : Hid (inB ⟨op, on, ols, opr, odl, ops, over⟩ k a = false) := Lib.hid (by unfold inB; rw [hv]; rfl)
    clear hv
    go_wp2_with fail
    go_ret
    exact ⟨by rw [E.out]; rfl, BX.out.trans (B1.out.mono BX.out.size)⟩
  | true =>
    have hk : 0 ≤ k ∧ k < 6 := by unfold validB at hv; have := of_decide_eq_true hv; omega
    have EI : Hid (inB ⟨op, on, ols, opr, odl, ops, over⟩ k a = holdB ⟨op, on, ols, opr, odl, ops, over⟩ k.toNat a) := Lib.hid (by unfold inB; rw [hv]; rfl)
    have HK := Lib.hid hk
    clear hv hk
    go_wp2_with fail
    go_loopg [6, 7] pn (fun g sb si wr => ∃ (i : Nat) (b : Bool), i ≤ pn ∧ g = pn - i ∧ si = .int .i64 i ∧ sb = .bool b ∧ b = onamB (ops.take i) ∧ Below X.heap.size X wr)
    case atStart => exact ⟨0, false, Nat.zero_le _, rfl, rfl, rfl, rfl, B1.out⟩
    case round =>
      obtain ⟨i, b, hi, hg, rfl, rfl, hbb, hb⟩ := hrel
      have R : Hid (gk = pn - i ∧ b = onamB (ops.take i) ∧ Below X.heap.size X wr) := Lib.hid ⟨hg, hbb, hb⟩
      clear hg hbb hb
      by_cases hlt : i < pn
      · have hlt' : (i : Int) < (pn : Int) := by omega
        have hil : i < ops.length := by rw [← PN.out]; exact hlt
        obtain ⟨pb, off, ⟨ra, rn, rc⟩, ⟨sa, sn, sc⟩, rfl, c0, c1, c2, rr, rs⟩ := ((H.out.below BX.out).below R.out.2.2).at i hil
        have NT := Lib.hid (nam_take ops i hil)
        have ZZ := Lib.hid (HZ.out _ (getD_in (d := ⟨⟨#[]⟩, [], []⟩) hil))
        simp only [Sl.v] at c1 c2
        have NB : Hid (namB (ops.getD i ⟨⟨#[]⟩, [], []⟩) = decide (0 < rn + sn) ∧ rn + sn ≤ 9223372036854775807) := Lib.hid (by
          obtain ⟨_, _, e1, _⟩ := rr.len
          obtain ⟨_, _, e2, _⟩ := rs.len
          simp only [Sl.v, Value.slice.injEq] at e1 e2
          unfold namB
          refine ⟨?_, by rw [e1.2.1, e2.2.1]; exact ZZ.out⟩
          rw [← e1.2.1, ← e2.2.1]
          by_cases p1 : 0 < rn
          · rw [decide_eq_true p1, decide_eq_true (by omega : 0 < rn + sn)]; rfl
          · by_cases p2 : 0 < sn
            · rw [decide_eq_true p2, decide_eq_true (by omega : 0 < rn + sn)]; simp
            · rw [decide_eq_false p1, decide_eq_false p2, decide_eq_false (by omega)]; rfl)
        have nb : (rn : Int) + (sn : Int) ≤ 9223372036854775807 := by have := NB.out.2; omega
        obtain ⟨h0, h1, h2, h3, h4, h5, h6, h7, h8⟩ := KC.out wr R.out.2.2
        have r5 := reg h5
        have q1 := reg c1
        have q2 := reg c2
        clear rr rs h0 h1 h2 h3 h4 h6 h7 h8 hil c0
        cases b with
        | true =>
          go_wp2_with fail
          refine wp_region_quiet_below (by kernel_rfl) (by kernel_rfl) ?_
          repeat (go_big_quiet_step (fail))
          refine wpQuiet_nil ?_
          rintro _ ⟨⟨dq, osq⟩, hw''⟩
          subst hw''
          have YB : Hid (Below X.heap.size X (grow (redrawn wr dq) osq)) := Lib.hid (R.out.2.2.trans ((below_regrown wr dq osq).mono R.out.2.2.size))
          obtain ⟨W1, hW⟩ : ∃ W, W = grow (redrawn wr dq) osq := ⟨_, rfl⟩
          rw [← hW] at YB ⊢
          clear hW r5 q1 q2
          go_wp2_with fail
          go_roundg (pn - (i + 1))
          case measure => have := R.out.1; omega
          case rel => exact ⟨i + 1, true, by omega, rfl, by go_num, rfl, by rw [NT.out, ← R.out.2.1]; rfl, YB.out⟩
        | false =>
          by_cases hp : 0 < rn + sn
          · have hd : decide ((rn : Int) + (sn : Int) > 0) = true := decide_eq_true (by omega)
            go_wp2_with fail
            refine wp_region_quiet_below (by kernel_rfl) (by kernel_rfl) ?_
            repeat (go_big_quiet_step (fail))
            refine wpQuiet_nil ?_
            rintro _ ⟨⟨dq, osq⟩, hw''⟩
            subst hw''
            have YB : Hid (Below X.heap.size X (grow (redrawn wr dq) osq)) := Lib.hid (R.out.2.2.trans ((below_regrown wr dq osq).mono R.out.2.2.size))
            obtain ⟨W1, hW⟩ : ∃ W, W = grow (redrawn wr dq) osq := ⟨_, rfl⟩
            rw [← hW] at YB ⊢
            clear hW r5 q1 q2
            go_wp2_with fail
            go_roundg (pn - (i + 1))
            case measure => have := R.out.1; omega
            case rel => exact ⟨i + 1, true, by omega, rfl, by go_num, rfl, by rw [NT.out, ← R.out.2.1, NB.out.1, decide_eq_true hp]; rfl, YB.out⟩
          · have hd : decide ((rn : Int) + (sn : Int) > 0) = false := decide_eq_false (by omega)
            go_wp2_with fail
            refine wp_region_quiet_below (by kernel_rfl) (by kernel_rfl) ?_
            repeat (go_big_quiet_step (fail))
            refine wpQuiet_nil ?_
            rintro _ ⟨⟨dq, osq⟩, hw''⟩
            subst hw''
            have YB : Hid (Below X.heap.size X (grow (redrawn wr dq) osq)) := Lib.hid (R.out.2.2.trans ((below_regrown wr dq osq).mono R.out.2.2.size))
            obtain ⟨W1, hW⟩ : ∃ W, W = grow (redrawn wr dq) osq := ⟨_, rfl⟩
            rw [← hW] at YB ⊢
            clear hW r5 q1 q2
            go_wp2_with fail
            go_roundg (pn - (i + 1))
            case measure => have := R.out.1; omega
            case rel => exact ⟨i + 1, false, by omega, rfl, by go_num, rfl, by rw [NT.out, ← R.out.2.1, NB.out.1, decide_eq_false hp]; rfl, YB.out⟩
      · have EB : Hid (b = onamB ops) := Lib.hid (by have := R.out.2.1; rw [List.take_of_length_le (by rw [← PN.out]; omega)] at this; exact this)
        have FB : Hid (Below w.heap.size w wr) := Lib.hid (BX.out.trans (R.out.2.2.mono BX.out.size))
        obtain ⟨h0, h1, h2, h3, h4, h5, h6, h7, h8⟩ := KC.out wr R.out.2.2
        clear h0 h1 h2 h6
        rcases kind_cases k HK.out.1 HK.out.2 with rfl | rfl | rfl | rfl | rfl | rfl
        · go_wp2_with fail
          go_ret
          exact ⟨by rw [EI.out]; rfl, FB.out⟩
        · go_wp2_with fail
          go_ret
          exact ⟨by rw [EI.out, EB.out]; rfl, FB.out⟩
        · go_wp2_with fail
          go_ret
          exact ⟨by rw [EI.out, EB.out]; rfl, FB.out⟩
        · go_wp2_with fail
          go_ret
          exact ⟨by rw [EI.out]; rfl, FB.out⟩
        · go_wp2_with fail
          go_ret
          exact ⟨by rw [EI.out]; rfl, FB.out⟩
        · go_wp2_with fail
          go_ret
          exact ⟨by rw [EI.out]; rfl, FB.out⟩
end Go.Proofs.YtibjmmfodelhjaaDoor
