/-
  THE WALK of LedgerOrders.
-/
import Derived.Test.YtpamgnnmeelikaaGreatDoorLeZm
namespace Go.Proofs.YtpamgnnmeelikaaGreatDoor
open Go.RowKit Go.Sort
namespace Le
set_option maxHeartbeats 16000000 in
set_option maxRecDepth 100000 in
theorem orders_walk (v u : Value) (rs : List Rb) (is : List Int) (w : World) (G : Gl w) (HO : ObsAt w v rs) (HI : Row kIn w u is) (OZ : OzL rs) :
    Calls Tryz.prog 4 #[v, u] w fun e w' => e = .returned (.bool true) ∧ Below w.heap.size w w' := by
  have GG := Lib.hid G
  have OB := Lib.hid HO
  have IB := Lib.hid HI
  have HZ := Lib.hid OZ
  obtain ⟨oa, oc, rfl, hlo, hco⟩ := HO.r.len
  obtain ⟨qa, qc, rfl, hlq, hcq⟩ := HI.len
  unfold maxLen at hco hcq
  obtain ⟨m, hmm⟩ : ∃ m, m = rs.length := ⟨_, rfl⟩
  obtain ⟨mq, hmq⟩ : ∃ m, m = is.length := ⟨_, rfl⟩
  rw [← hmm] at OB hlo ⊢
  rw [← hmq] at IB hlq ⊢
  have M := Lib.hid (And.intro hmm hmq)
  clear G HO HI OZ hmm hmq
  have LA : Hid (∀ W, Below w.heap.size w W → Calls Tryz.prog 9 #[] W fun e w' => ∃ t b n D, e = .returned (.pointer (some ⟨t, 0, none⟩)) ∧ Lv w w' t b n D (fun _ => 0) ∧ n ≤ 48 ∧ W.heap.size ≤ b ∧ Below W.heap.size W w') := Lib.hid fun W hb => by
    refine (lives_any W (GG.out.below hb)).mono ?_
    rintro e w' ⟨t, b, n, D, rfl, h1, h2⟩
    exact ⟨t, b, n, D, rfl, h1.base hb, h2, h1.b0, h1.bel⟩
  go_enter Tryz.func4, Tryz.ntmps4
  go_wp2_with fail
  refine (LA.out w (Below.refl _ _)).mono ?_
  rintro e w1 ⟨ta, ba, na, Da, rfl, h1, h2, _, _⟩
  have A1 := Lib.hid (And.intro h1 h2)
  clear h1 h2
  go_wp2_with fail
  refine (LA.out w1 A1.out.1.bel).mono ?_
  rintro e w2 ⟨tb, bb, nb, Db, rfl, h1, h2, h3, h4⟩
  have A2 : Hid (Lv w w2 ta ba na Da (fun _ => 0) ∧ Lv w w2 tb bb nb Db (fun _ => 0) ∧ ba ≠ bb ∧ na ≤ 48 ∧ nb ≤ 48) := Lib.hid ⟨A1.out.1.below h4, h1, fun e => by have := A1.out.1.ld.m.lt; omega, A1.out.2, h2⟩
  clear h1 h2 h3 h4 A1 LA
  by_cases hm40 : m ≤ 40
  case neg =>
    have g1 : decide ((m : Int) > 40) = true := decide_eq_true (by omega)
    go_wp2_with fail
    go_ret
    exact ⟨rfl, A2.out.1.bel⟩
  have g1 : decide ((m : Int) > 40) = false := decide_eq_false (by omega)
  by_cases hq : mq = m
  case neg =>
    have g2 : ((mq : Int) != (m : Int)) = true := by rw [bne_iff_ne]; omega
    go_wp2_with fail
    go_ret
    exact ⟨rfl, A2.out.1.bel⟩
  subst hq
  obtain ⟨W3, hmk, hS, hB⟩ := make_bools mq (by omega) w2
  have B3 : Hid (Bn w ta ba tb bb w2.heap.size na nb Da Db (fun _ => 0) (fun _ => 0) (List.replicate mq false) (.slice none 0 0) [] W3) := Lib.hid ⟨A2.out.1.below hB, A2.out.2.1.below hB, A2.out.2.2.1, hS, LsAt.nil, A2.out.1.bel.size, GG.out⟩
  have N3 := Lib.hid (And.intro A2.out.2.2.2.1 A2.out.2.2.2.2)
  clear hS hB A2
  go_wp2_with fail
  clear hmk
  obtain ⟨g, hg8⟩ : ∃ g, g = w2.heap.size := ⟨_, rfl⟩
  rw [← hg8] at B3 ⊢
  clear hg8
  obtain ⟨os, hos⟩ : ∃ os, os = rs.map (·.1) := ⟨_, rfl⟩
  have OS : Hid (os = rs.map (·.1)) := Lib.hid hos
  have OL : Hid (os.length = mq) := Lib.hid (by rw [hos, List.length_map]; exact M.out.1.symm)
  clear hos
  have OWN : Hid (∀ W (x : Rb), x ∈ rs → Below w.heap.size w W → Calls Tryz.prog 10 #[.agg (Rb.c x).toArray] W fun e w' => ∃ la lc pa pc, e = .returned (x.1.val (.slice la x.1.ls.length lc) (.slice pa x.1.ps.length pc)) ∧ OwO W.heap.size w' (.slice la x.1.ls.length lc) (.slice pa x.1.ps.length pc) x.1 ∧ Below W.heap.size W w') := Lib.hid fun W x hx hb => by
    have q := own_any x.1 x.2.1.v x.2.2.v W ((OB.out.o x hx).below hb) (HZ.out.s x hx)
    rw [val_c] at q
    exact q
  go_loopg [7, 9] mq (fun gk s7 s9 wr => ∃ (k : Nat) (la : Option Addr) (lc : Nat) (ls : List Rb), k ≤ mq ∧ gk = mq - k ∧ s7 = .slice la ls.length lc ∧ s9 = .int .i64 k ∧ Hid (∃ sv na Da nb Db, Bn w ta ba tb bb g na nb Da Db (chF (os.take k)) (ssum os sv) sv (.slice la ls.length lc) ls wr ∧ na ≤ 48 + k * 144000000 ∧ nb ≤ 48 + k * 144000000 ∧ (∀ j (h : j < os.length), j < k → mvE true (chF (os.take j)) os[j] = 0) ∧ ls.map (·.1) = os.take k ∧ sv.length = mq ∧ cntT sv = k))
  case atStart =>
    refine ⟨0, none, 0, [], Nat.zero_le _, rfl, rfl, rfl, Lib.hid ⟨_, na, Da, nb, Db, ?_, by have := N3.out.1; omega, by have := N3.out.2; omega, fun j _ h => by omega, by simp, by simp, cnt_none mq⟩⟩
    have e1 : chF (os.take 0) = fun _ => 0 := rfl
    have e2 : ssum os (List.replicate mq false) = fun _ => 0 := funext fun x => ssum_none os mq x
    rw [e1, e2]
    exact B3.out
  case round =>
    obtain ⟨k, la, lc, ls, hk, hg, rfl, rfl, R⟩ := hrel
    have GK : Hid (gk = mq - k) := Lib.hid hg
    clear hg B3 N3
    by_cases hlt : k < mq
    case neg =>
      have ek : k = mq := by omega
      subst ek
      obtain ⟨sv, na, Da, nb, Db, r1, r2, r3, r4, r5, r6, r7⟩ := R.out
      have e1 : os.take k = os := List.take_of_length_le (by rw [OL.out]; exact Nat.le_refl _)
      rw [e1] at r1 r5
      have ZO : Hid (∀ o ∈ os, PSz o.ps) := Lib.hid fun o ho => by
        rw [OS.out] at ho
        obtain ⟨y, hy, rfl⟩ := List.mem_map.1 ho
        exact HZ.out.z y hy
      have CK : Hid (chOk os) := Lib.hid fun i hi => r4 i hi (by rw [OL.out] at hi; exact hi)
      have e2 : ssum os sv = chF os := by
        funext x
        rw [ssum_all os sv (by rw [OL.out, r6]) (by rw [r7, r6]) x]
        have q := chF_tot ZO.out CK.out os.length (Nat.le_refl _) x
        rw [List.take_length] at q
        exact q.symm
      rw [e2] at r1
      have RB := Lib.hid r1
      have RN := Lib.hid (And.intro r2 (And.intro r3 r5))
      have CN : Hid (chF os ⟨⟨#[47]⟩, 0, 0, tCnt⟩ = 1000 * (k : Int)) := Lib.hid (by
        have q := chF_tot ZO.out CK.out os.length (Nat.le_refl _) ⟨⟨#[47]⟩, 0, 0, tCnt⟩
        rw [List.take_length] at q
        rw [q, root_tot (fun o ho => ⟨ZO.out o ho, ?_⟩), OL.out]
        obtain ⟨i, hi, rfl⟩ := List.getElem_of_mem ho
        exact (mv_yes (CK.out i hi)).1)
      have LL : Hid (ls.length = k) := Lib.hid (by rw [← List.length_map (f := fun x : Rb => x.1), r5, OL.out])
      have ZL : Hid (OzL ls) := Lib.hid (by
        have key : ∀ x ∈ ls, ∃ y ∈ rs, y.1 = x.1 := fun x hx => by
          have : x.1 ∈ rs.map (·.1) := by rw [← OS.out, ← r5]; exact List.mem_map.2 ⟨x, hx, rfl⟩
          obtain ⟨y, hy, e⟩ := List.mem_map.1 this
          exact ⟨y, hy, e⟩
        exact ⟨fun x hx => by obtain ⟨y, hy, e⟩ := key x hx; rw [← e]; exact HZ.out.z y hy, fun x hx => by obtain ⟨y, hy, e⟩ := key x hx; rw [← e]; exact HZ.out.p y hy, fun x hx => by obtain ⟨y, hy, e⟩ := key x hx; rw [← e]; exact HZ.out.s y hy⟩)
      clear r1 r2 r3 r4 r5 r6 r7 R e1 e2
      have OF : Hid (Calls Tryz.prog 15 #[.slice la ls.length lc] wr fun e w' => ∃ t b n D, e = .returned (.tuple #[.pointer (some ⟨t, 0, none⟩), .int .i64 0]) ∧ Hid (Lv w w' t b n D (chF os) ∧ n ≤ k * 144000000 ∧ Below wr.heap.size wr w')) := Lib.hid (by
        have q := of_yes wr (.slice la ls.length lc) ls RB.out.a.gl RB.out.l.obs ZL.out (by rw [RN.out.2.2]; exact CK.out) (by rw [LL.out]; omega)
        refine Calls.mono q ?_
        rintro e w' ⟨t, b, n, D, rfl, h1, h2⟩
        rw [RN.out.2.2] at h1
        rw [LL.out] at h2
        exact ⟨t, b, n, D, rfl, Lib.hid ⟨h1.base RB.out.a.bel, h2, h1.bel⟩⟩)
      have hlt' : ¬ (k : Int) < (k : Int) := by omega
      go_wp2_with fail
      refine OF.out.mono ?_
      rintro e w4 ⟨tc, bc, nc, Dc, rfl, F4⟩
      have L4 : Hid (Lv w w4 ta ba na Da (chF os) ∧ Lv w w4 tb bb nb Db (chF os) ∧ Lv w w4 tc bc nc Dc (chF os) ∧ na ≤ 2000000000000 ∧ nb ≤ 2000000000000 ∧ nc ≤ 2000000000000) := Lib.hid ⟨RB.out.a.below F4.out.2.2, RB.out.b.below F4.out.2.2, F4.out.1, by have := RN.out.1; omega, by have := RN.out.2.1; omega, by have := F4.out.2.1; omega⟩
      clear OF F4 RB RN
      have R1 := Lib.hid (rows_lv L4.out.1 L4.out.2.2.2.1)
      go_wp2_with fail
      refine R1.out.mono ?_
      rintro e w5 ⟨v1, S, rfl, h1, h2, hb5⟩
      have D5 := Lib.hid (And.intro h1 h2)
      have L5 := Lib.hid (And.intro (L4.out.1.below hb5) (And.intro (L4.out.2.1.below hb5) (And.intro (L4.out.2.2.1.below hb5) L4.out.2.2.2)))
      clear h1 h2 hb5 R1 L4
      have R2 := Lib.hid (rows_lv L5.out.2.1 L5.out.2.2.2.2.1)
      go_wp2_with fail
      refine R2.out.mono ?_
      rintro e w6 ⟨v2, S2, rfl, h1, h2, hb6⟩
      obtain rfl : S2 = S := rows_eq h2 D5.out.2 L5.out.2.1.rep L5.out.1.rep
      have SM := Lib.hid (sameRows_yes v1 v2 S2 w6 (D5.out.1.below hb6) h1)
      have L6 := Lib.hid (And.intro (L5.out.1.below hb6) (And.intro (L5.out.2.2.1.below hb6) L5.out.2.2.2))
      have DD := Lib.hid D5.out.2
      clear h1 h2 hb6 R2 L5 D5
      go_wp2_with fail
      refine SM.out.mono ?_
      rintro e w7 ⟨rfl, hb7⟩
      have L7 := Lib.hid (And.intro (L6.out.1.below hb7) (And.intro (L6.out.2.1.below hb7) L6.out.2.2))
      clear hb7 SM L6
      have R3 := Lib.hid (rows_lv L7.out.1 L7.out.2.2.1)
      go_wp2_with fail
      refine R3.out.mono ?_
      rintro e w8 ⟨v3, S3, rfl, h1, h2, hb8⟩
      have D8 := Lib.hid (And.intro h1 h2)
      have L8 := Lib.hid (And.intro (L7.out.1.below hb8) (And.intro (L7.out.2.1.below hb8) L7.out.2.2))
      clear h1 h2 hb8 R3 L7
      have R4 := Lib.hid (rows_lv L8.out.2.1 L8.out.2.2.2.2)
      go_wp2_with fail
      refine R4.out.mono ?_
      rintro e w9 ⟨v4, S4, rfl, h1, h2, hb9⟩
      obtain rfl : S4 = S3 := rows_eq h2 D8.out.2 L8.out.2.1.rep L8.out.1.rep
      have SM := Lib.hid (sameRows_yes v3 v4 S4 w9 (D8.out.1.below hb9) h1)
      have L9 := Lib.hid (L8.out.1.below hb9)
      clear h1 h2 hb9 R4 L8 D8
      go_wp2_with fail
      refine SM.out.mono ?_
      rintro e w10 ⟨rfl, hb10⟩
      have L10 := Lib.hid (L9.out.below hb10)
      clear hb10 SM L9
      have CT : Hid (Calls Tryz.prog 16 #[.pointer (some ⟨ta, 0, none⟩), .string ⟨#[47]⟩] w10 fun e w' => e = .returned (.int .i64 (k : Int)) ∧ Below w10.heap.size w10 w') := Lib.hid (by
        have q := count_any (w := w10) ⟨#[47]⟩ L10.out.ld L10.out.rep (by decide)
        rw [CN.out, show 1000 * (k : Int) / 1000 = (k : Int) by omega] at q
        exact q)
      go_wp2_with fail
      refine CT.out.mono ?_
      rintro e w11 ⟨rfl, hb11⟩
      have BF := Lib.hid (L10.out.bel.trans (hb11.mono L10.out.bel.size))
      clear hb11 CT L10
      go_wp2_with fail
      go_ret
      exact ⟨rfl, BF.out⟩
    obtain ⟨sv, na, Da, nb, Db, r1, r2, r3, r4, r5, r6, r7⟩ := R.out
    have RB := Lib.hid r1
    have RN := Lib.hid (And.intro r2 (And.intro r3 (And.intro r4 (And.intro r5 (And.intro r6 r7)))))
    clear r1 r2 r3 r4 r5 r6 r7 R
    have hkl : k < rs.length := by rw [← M.out.1]; exact hlt
    have hlt' : (k : Int) < (mq : Int) := by omega
    obtain ⟨b1, off, rfl, pc⟩ := OB.out.r.at k hkl
    have ex : rs.getD k kOb.z = rs[k] := by rw [List.getD_eq_getElem?_getD, List.getElem?_eq_getElem hkl]; rfl
    rw [ex] at pc
    have XM : Hid (rs[k] ∈ rs ∧ ∀ h : k < os.length, os[k] = (rs[k]).1) := Lib.hid ⟨List.getElem_mem hkl, fun h => by simp [OS.out]⟩
    obtain ⟨x, hx⟩ : ∃ x, x = rs[k] := ⟨_, rfl⟩
    rw [← hx] at pc XM
    clear hx ex
    obtain ⟨⟨op, on, ols, opr, odl, ops, over⟩, ⟨sa, sn, sc⟩, ⟨pa, pn, pcc⟩⟩ := x
    have KC : Hid (∀ W : World, Below w.heap.size w W → W.cell? ⟨b1, off + k * 7, none⟩ = some (.string op) ∧ W.cell? ⟨b1, off + k * 7 + 1, none⟩ = some (.string on) ∧ W.cell? ⟨b1, off + k * 7 + 2, none⟩ = some (.slice sa sn sc) ∧ W.cell? ⟨b1, off + k * 7 + 3, none⟩ = some (.int .i64 opr) ∧ W.cell? ⟨b1, off + k * 7 + 4, none⟩ = some (.int .i64 odl) ∧ W.cell? ⟨b1, off + k * 7 + 5, none⟩ = some (.slice pa pn pcc) ∧ W.cell? ⟨b1, off + k * 7 + 6, none⟩ = some (.int .i64 over)) := Lib.hid fun W hb => by
      have q2 : ∀ i y, (kOb.c (⟨⟨op, on, ols, opr, odl, ops, over⟩, ⟨sa, sn, sc⟩, ⟨pa, pn, pcc⟩⟩ : Rb))[i]? = some y → W.cell? ⟨b1, off + k * 7 + i, none⟩ = some y := fun i y hy => (hb.cell (block_lt_of_cell (pc i y hy))).trans (pc i y hy)
      exact ⟨q2 0 _ rfl, q2 1 _ rfl, q2 2 _ rfl, q2 3 _ rfl, q2 4 _ rfl, q2 5 _ rfl, q2 6 _ rfl⟩
    clear pc
    obtain ⟨c0, c1, c2, c3, c4, c5, c6⟩ := KC.out wr RB.out.a.bel
    have OW : Hid (∀ W, Below w.heap.size w W → Calls Tryz.prog 10 #[.agg #[.string op, .string on, .slice sa sn sc, .int .i64 opr, .int .i64 odl, .slice pa pn pcc, .int .i64 over]] W fun e w' => ∃ xa xc ya yc, e = .returned (.agg #[.string op, .string on, .slice xa ols.length xc, .int .i64 opr, .int .i64 odl, .slice ya ops.length yc, .int .i64 over]) ∧ Hid (OwO W.heap.size w' (.slice xa ols.length xc) (.slice ya ops.length yc) ⟨op, on, ols, opr, odl, ops, over⟩ ∧ Below W.heap.size W w')) := Lib.hid fun W hb => by
      refine Calls.mono (OWN.out W ⟨⟨op, on, ols, opr, odl, ops, over⟩, ⟨sa, sn, sc⟩, ⟨pa, pn, pcc⟩⟩ XM.out.1 hb) ?_
      rintro e w' ⟨xa, xc, ya, yc, rfl, h1, h2⟩
      exact ⟨xa, xc, ya, yc, rfl, Lib.hid ⟨h1, h2⟩⟩
    go_wp2_with fail
    refine (OW.out _ RB.out.a.bel).mono ?_
    rintro e w4 ⟨xa, xc, ya, yc, rfl, F4⟩
    clear c0 c1 c2 c3 c4 c5 c6
    have B4 := Lib.hid (RB.out.below F4.out.2)
    have O4 := Lib.hid B4.out.l.r
    have G4 : Hid (g + 1 ≤ w4.heap.size ∧ g + 1 ≤ wr.heap.size) := Lib.hid ⟨lt_of_some B4.out.s, lt_of_some RB.out.s⟩
    have LN : Hid (ls.length = k ∧ ls.length < 100000000) := Lib.hid (by
      have e : ls.length = k := by
        rw [← List.length_map (f := fun x : Rb => x.1), RN.out.2.2.2.1, List.length_take, OL.out]
        omega
      exact ⟨e, by omega⟩)
    go_wp2_with (at_builtin; refine app_row okOb (gg := w4.heap.size) rfl _ _ rfl rfl O4.out G4.out.1 (⟨⟨op, on, ols, opr, odl, ops, over⟩, ⟨xa, ols.length, xc⟩, ⟨ya, ops.length, yc⟩⟩ : Rb) ?hgg rfl rfl LN.out.2 ?_)
    case hgg => simp
    intro v' w5 h1 h2
    obtain ⟨la', lc', rfl⟩ := h1.slice
    have B5 := Lib.hid (B4.out.app (owo_mono F4.out.1 G4.out.2) h1 h2)
    have MP : Hid ((ls ++ [(⟨⟨op, on, ols, opr, odl, ops, over⟩, ⟨xa, ols.length, xc⟩, ⟨ya, ops.length, yc⟩⟩ : Rb)]).map (·.1) = os.take (k + 1)) := Lib.hid (by
      have hko : k < os.length := by rw [OL.out]; exact hlt
      rw [List.map_append, RN.out.2.2.2.1, List.take_add_one, List.getElem?_eq_getElem hko, XM.out.2 hko]
      rfl)
    obtain ⟨ls', hls⟩ : ∃ l, l = ls ++ [(⟨⟨op, on, ols, opr, odl, ops, over⟩, ⟨xa, ols.length, xc⟩, ⟨ya, ops.length, yc⟩⟩ : Rb)] := ⟨_, rfl⟩
    rw [← hls] at B5 MP ⊢
    clear hls h1 h2 F4 O4 B4 G4 LN RB
    have hkq : k < is.length := by rw [← M.out.2]; exact hlt
    obtain ⟨b2, off2, rfl, pq⟩ := (IB.out.below B5.out.a.bel).at k hkq
    obtain ⟨q, hq⟩ : ∃ q, q = is.getD k kIn.z := ⟨_, rfl⟩
    rw [← hq] at pq
    have d0 : w5.cell? ⟨b2, off2 + k, none⟩ = some (.int .i64 q) := by
      have := pq 0 _ rfl
      simpa [kIn] using this
    clear pq hq
    by_cases q1 : q < 0
    case pos =>
      have g2 : decide (q < 0) = true := decide_eq_true q1
      go_wp2_with fail
      go_ret
      exact ⟨rfl, B5.out.a.bel⟩
    have g2 : decide (q < 0) = false := decide_eq_false q1
    by_cases q2 : (mq : Int) ≤ q
    case pos =>
      have g3 : decide (q ≥ (mq : Int)) = true := decide_eq_true q2
      go_wp2_with fail
      go_ret
      exact ⟨rfl, B5.out.a.bel⟩
    have g3 : decide (q ≥ (mq : Int)) = false := decide_eq_false q2
    obtain ⟨j, hj⟩ : ∃ j : Nat, q = (j : Int) := ⟨q.toNat, by omega⟩
    subst hj
    have hjm : j < mq := by omega
    have hjm' : (j : Int) < (mq : Int) := by omega
    have SA := Lib.hid (B5.out.s.at (k := j) (by rw [RN.out.2.2.2.2.1]; exact hjm))
    have e0 := SA.out
    have e1 := B5.out.s.free j
    cases hsv : sv.getD j false with
    | true =>
      rw [hsv] at e0
      go_wp2_with fail
      go_ret
      exact ⟨rfl, B5.out.a.bel⟩
    | false =>
      rw [hsv] at e0
      have HSV := Lib.hid hsv
      clear hsv
      have B6 := Lib.hid (B5.out.mark j)
      obtain ⟨k0, k1, k2, k3, k4, k5, k6⟩ := KC.out _ B6.out.a.bel
      clear KC
      go_wp2_with fail
      refine (OW.out _ B6.out.a.bel).mono ?_
      rintro e w7 ⟨xa2, xc2, ya2, yc2, rfl, F7⟩
      clear k0 k1 k2 k3 k4 k5 k6 OW B5 e0 e1 d0
      have B7 := Lib.hid (B6.out.below F7.out.2)
      obtain ⟨EA, hEA⟩ : ∃ e, e = mvE true (chF (os.take k)) ⟨op, on, ols, opr, odl, ops, over⟩ := ⟨_, rfl⟩
      have CA : Hid (Calls Tryz.prog 11 #[.pointer (some ⟨ta, 0, none⟩), .agg #[.string op, .string on, .slice xa2 ols.length xc2, .int .i64 opr, .int .i64 odl, .slice ya2 ops.length yc2, .int .i64 over]] w7 fun e W' => e = .returned (.int .i64 EA) ∧ Hid (∃ D' n', Bn w ta ba tb bb g n' nb D' Db (mvF true (chF (os.take k)) ⟨op, on, ols, opr, odl, ops, over⟩) (ssum os sv) (sv.set j true) (.slice la' ls'.length lc') ls' W' ∧ n' ≤ na + 144000000)) := Lib.hid (by
        have sz := HZ.out.z _ XM.out.1
        have q := charge_lvk ⟨op, on, ols, opr, odl, ops, over⟩ (.slice xa2 ols.length xc2) (.slice ya2 ops.length yc2) B7.out.a F7.out.1.obv sz (HZ.out.p _ XM.out.1) (by have := RN.out.1; omega)
        refine Calls.mono q ?_
        rintro e W' ⟨D', n', rfl, h2, h3, h4⟩
        refine ⟨by rw [hEA], Lib.hid ⟨D', n', B7.out.turnA h2 h3, ?_⟩⟩
        have := sh_len ⟨op, on, ols, opr, odl, ops, over⟩ sz
        omega)
      have HEA := Lib.hid hEA
      clear hEA B6
      go_wp2_with fail
      refine CA.out.mono ?_
      rintro e w8 ⟨rfl, F8⟩
      clear CA F7
      obtain ⟨Da8, na8, h8, h8n⟩ := F8.out
      have B8 := Lib.hid h8
      have N8 := Lib.hid h8n
      clear h8 h8n F8 B7
      by_cases eA : EA = 0
      case neg =>
        have g4 : (EA != 0) = true := by rw [bne_iff_ne]; exact eA
        have g5 : (EA == 0) = false := by rw [beq_eq_false_iff_ne]; exact eA
        go_wp2_with fail
        go_ret
        exact ⟨rfl, B8.out.a.bel⟩
      subst eA
      have hjl : j < rs.length := by rw [← M.out.1]; exact hjm
      obtain ⟨b1', off', e', pcj⟩ := OB.out.r.at j hjl
      simp only [Option.some.injEq, Addr.mk.injEq, and_true] at e'
      obtain ⟨rfl, rfl⟩ := e'
      have ex : rs.getD j kOb.z = rs[j] := by rw [List.getD_eq_getElem?_getD, List.getElem?_eq_getElem hjl]; rfl
      rw [ex] at pcj
      have YM : Hid (rs[j] ∈ rs ∧ ∀ h : j < os.length, os[j] = (rs[j]).1) := Lib.hid ⟨List.getElem_mem hjl, fun h => by simp [OS.out]⟩
      obtain ⟨y, hy⟩ : ∃ y, y = rs[j] := ⟨_, rfl⟩
      rw [← hy] at pcj YM
      clear hy ex
      obtain ⟨⟨zp, zn, zls, zpr, zdl, zps, zver⟩, ⟨va, vn, vc⟩, ⟨ua, un, uc⟩⟩ := y
      have q2 : ∀ i y, (kOb.c (⟨⟨zp, zn, zls, zpr, zdl, zps, zver⟩, ⟨va, vn, vc⟩, ⟨ua, un, uc⟩⟩ : Rb))[i]? = some y → w8.cell? ⟨b1, off + j * 7 + i, none⟩ = some y := fun i y hy => (B8.out.a.bel.cell (block_lt_of_cell (pcj i y hy))).trans (pcj i y hy)
      have k0 : w8.cell? ⟨b1, off + j * 7, none⟩ = some (.string zp) := q2 0 _ rfl
      have k1 : w8.cell? ⟨b1, off + j * 7 + 1, none⟩ = some (.string zn) := q2 1 _ rfl
      have k2 : w8.cell? ⟨b1, off + j * 7 + 2, none⟩ = some (.slice va vn vc) := q2 2 _ rfl
      have k3 : w8.cell? ⟨b1, off + j * 7 + 3, none⟩ = some (.int .i64 zpr) := q2 3 _ rfl
      have k4 : w8.cell? ⟨b1, off + j * 7 + 4, none⟩ = some (.int .i64 zdl) := q2 4 _ rfl
      have k5 : w8.cell? ⟨b1, off + j * 7 + 5, none⟩ = some (.slice ua un uc) := q2 5 _ rfl
      have k6 : w8.cell? ⟨b1, off + j * 7 + 6, none⟩ = some (.int .i64 zver) := q2 6 _ rfl
      clear pcj q2
      have OJ : Hid (Calls Tryz.prog 10 #[.agg #[.string zp, .string zn, .slice va vn vc, .int .i64 zpr, .int .i64 zdl, .slice ua un uc, .int .i64 zver]] w8 fun e w' => ∃ xa xc ya yc, e = .returned (.agg #[.string zp, .string zn, .slice xa zls.length xc, .int .i64 zpr, .int .i64 zdl, .slice ya zps.length yc, .int .i64 zver]) ∧ Hid (OwO w8.heap.size w' (.slice xa zls.length xc) (.slice ya zps.length yc) ⟨zp, zn, zls, zpr, zdl, zps, zver⟩ ∧ Below w8.heap.size w8 w')) := Lib.hid (by
        refine Calls.mono (OWN.out w8 ⟨⟨zp, zn, zls, zpr, zdl, zps, zver⟩, ⟨va, vn, vc⟩, ⟨ua, un, uc⟩⟩ YM.out.1 B8.out.a.bel) ?_
        rintro e w' ⟨xa, xc, ya, yc, rfl, h1, h2⟩
        exact ⟨xa, xc, ya, yc, rfl, Lib.hid ⟨h1, h2⟩⟩)
      go_wp2_with fail
      refine OJ.out.mono ?_
      rintro e w9 ⟨xa3, xc3, ya3, yc3, rfl, F9⟩
      clear k0 k1 k2 k3 k4 k5 k6 OJ
      have B9 := Lib.hid (B8.out.below F9.out.2)
      obtain ⟨EB, hEB⟩ : ∃ e, e = mvE true (ssum os sv) ⟨zp, zn, zls, zpr, zdl, zps, zver⟩ := ⟨_, rfl⟩
      have CB : Hid (Calls Tryz.prog 11 #[.pointer (some ⟨tb, 0, none⟩), .agg #[.string zp, .string zn, .slice xa3 zls.length xc3, .int .i64 zpr, .int .i64 zdl, .slice ya3 zps.length yc3, .int .i64 zver]] w9 fun e W' => e = .returned (.int .i64 EB) ∧ Hid (∃ D' n', Bn w ta ba tb bb g na8 n' Da8 D' (mvF true (chF (os.take k)) ⟨op, on, ols, opr, odl, ops, over⟩) (mvF true (ssum os sv) ⟨zp, zn, zls, zpr, zdl, zps, zver⟩) (sv.set j true) (.slice la' ls'.length lc') ls' W' ∧ n' ≤ nb + 144000000)) := Lib.hid (by
        have sz := HZ.out.z _ YM.out.1
        have q := charge_lvk ⟨zp, zn, zls, zpr, zdl, zps, zver⟩ (.slice xa3 zls.length xc3) (.slice ya3 zps.length yc3) B9.out.b F9.out.1.obv sz (HZ.out.p _ YM.out.1) (by have := RN.out.2.1; omega)
        refine Calls.mono q ?_
        rintro e W' ⟨D', n', rfl, h2, h3, h4⟩
        refine ⟨by rw [hEB], Lib.hid ⟨D', n', B9.out.turnB h2 h3, ?_⟩⟩
        have := sh_len ⟨zp, zn, zls, zpr, zdl, zps, zver⟩ sz
        omega)
      have HEB := Lib.hid hEB
      clear hEB B8
      go_wp2_with fail
      refine CB.out.mono ?_
      rintro e w10 ⟨rfl, F10⟩
      clear CB F9
      obtain ⟨Db10, nb10, h10, h10n⟩ := F10.out
      have B10 := Lib.hid h10
      have N10 := Lib.hid h10n
      clear h10 h10n F10 B9
      by_cases eB : EB = 0
      case neg =>
        have g4 : (EB != 0) = true := by rw [bne_iff_ne]; exact eB
        have g5 : (EB == 0) = false := by rw [beq_eq_false_iff_ne]; exact eB
        go_wp2_with fail
        go_ret
        exact ⟨rfl, B10.out.a.bel⟩
      subst eB
      go_wp2_with fail
      go_roundg (mq - (k + 1))
      case measure => have := GK.out; omega
      case rel =>
        have hko : k < os.length := by rw [OL.out]; exact hlt
        have hjo : j < os.length := by rw [OL.out]; exact hjm
        have hsl : j < sv.length := by rw [RN.out.2.2.2.2.1]; exact hjm
        have hs2 : sv.getD j true = false := by
          have h := HSV.out
          rw [List.getD_eq_getElem?_getD, List.getElem?_eq_getElem hsl] at h ⊢
          exact h
        have eo := XM.out.2 hko
        have ej := YM.out.2 hjo
        have f1 : chF (os.take (k + 1)) = mvF true (chF (os.take k)) ⟨op, on, ols, opr, odl, ops, over⟩ := by rw [chF_snoc os k hko, eo]
        have f2 : ssum os (sv.set j true) = mvF true (ssum os sv) ⟨zp, zn, zls, zpr, zdl, zps, zver⟩ := by
          funext x
          rw [mv_at (HZ.out.z _ YM.out.1) HEB.out.symm, ssum_set os sv j hjo hsl hs2, ej]
          simp [sg]
        refine ⟨k + 1, la', lc', ls', by omega, rfl, rfl, by go_num, Lib.hid ⟨sv.set j true, na8, Da8, nb10, Db10, ?_, ?_, ?_, ?_, MP.out, ?_, ?_⟩⟩
        · rw [f1, f2]
          exact B10.out
        · have := N8.out; have := RN.out.1; omega
        · have := N10.out; have := RN.out.2.1; omega
        · intro i hi hik
          by_cases e : i = k
          · subst e
            rw [eo]
            exact HEA.out.symm
          · exact RN.out.2.2.1 i hi (by omega)
        · rw [List.length_set]
          exact RN.out.2.2.2.2.1
        · rw [cnt_set sv j hsl hs2, RN.out.2.2.2.2.2]
end Le
theorem ledgerOrders_walk (v : Value) (rs : List Le.Rb) (u : Value) (is : List Int) (w : World) (G : Le.Gl w) (HO : Le.ObsAt w v rs) (OZ : Le.OzL rs) (HI : Row Le.kIn w u is) :
    Calls Tryz.prog 4 #[v, u] w fun e w' => e = .returned (.bool true) ∧ Below w.heap.size w w' := Le.orders_walk v u rs is w G HO HI OZ
end Go.Proofs.YtpamgnnmeelikaaGreatDoor
