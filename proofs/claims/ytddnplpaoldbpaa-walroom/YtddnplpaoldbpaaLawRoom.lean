/-
  WalRoom.
-/
import Derived.Test.YtddnplpaoldbpaaRmA
import Derived.Test.YtddnplpaoldbpaaMsk
namespace Go.Proofs.Ytddnplpaoldbpaa
open Go.RowKit Go.Maps
theorem and_31 (n : Int) : bits .and .i64 n 31 = (((n % 18446744073709551616).toNat % 32 : Nat) : Int) := and_low n 5 (by decide)
theorem cell_row {W : World} {g i : Nat} {cs : Array Value} {t : TypeId} {u : Value} (h : W.heap[g]? = some (.cells cs t (0, 0))) (hu : cs[i]? = some u) : W.cell? ⟨g, i, none⟩ = some u := by rw [cell_of_row W g i _ _ _ h]; exact hu
set_option maxRecDepth 100000 in
set_option maxHeartbeats 400000000 in
theorem walRoom_walk (m : Int) (v : Value) (l : List OpW) (w : World) (_hm : -9223372036854775808 ≤ m ∧ m ≤ 9223372036854775807) (hv : OpsW w v l) (hl : l.length ≤ 1099511627776) :
    Calls Try.prog 4 #[.int .i64 m, v] w fun e w' => e = .returned (.bool true) ∧ Below w.heap.size w w' := by
  have V := Lib.hid hv
  obtain ⟨_, a, cap, rfl, hlc, hcm, _⟩ := hv
  unfold maxLen at hcm
  obtain ⟨n, hn⟩ : ∃ n, n = l.length := ⟨_, rfl⟩
  rw [← hn] at hlc hl ⊢
  have NN := Lib.hid (And.intro hn hl)
  obtain ⟨q, hq⟩ : ∃ q : Nat, q = (m % 18446744073709551616).toNat % 32 := ⟨_, rfl⟩
  have hq32 : q < 32 := by rw [hq]; exact Nat.mod_lt _ (by decide)
  have ha : bits .and .i64 m 31 = (q : Int) := by rw [hq]; exact and_31 m
  obtain ⟨nn, hnn⟩ : ∃ nn, nn = 8 + q := ⟨_, rfl⟩
  have eN : (8 : Int) + (q : Int) = (nn : Int) := by omega
  have h8 : 8 ≤ nn := by omega
  have h39 : nn ≤ 39 := by omega
  obtain ⟨z, hz⟩ : ∃ z, z = List.replicate 32768 (0 : UInt8) := ⟨_, rfl⟩
  have R5 : Hid (rdB (newD 64 z) 5 = List.replicate 512 0) := Lib.hid (by rw [hz]; exact fx_r0 5 (by decide))
  have NWA : Hid (∀ w : World, Calls Try.prog 10 #[.int .i64 64] w fun e w' => e = .returned (.tuple #[.pointer (some ⟨w.heap.size + 2, 0, none⟩), .int .i64 0]) ∧ Below w.heap.size w w' ∧ Dv w.heap.size w' (w.heap.size + 2) w.heap.size (w.heap.size + 1) (.slice none 0 0) (newD 64 z)) := Lib.hid (fun w => by rw [hz]; exact new_ok 64 w (by decide) (by decide))
  have FX := Lib.hid (fixed_any w)
  clear hn hq hnn hz hl
  go_enter Try.func4, Try.ntmps4
  go_wp2_with fail
  refine FX.out.mono ?_
  rintro e w1 ⟨rfl, hb1⟩
  have B1 := Lib.hid hb1
  obtain ⟨b, hb⟩ : ∃ b, b = w1.heap.size := ⟨_, rfl⟩
  have NW := Lib.hid (NWA.out w1)
  rw [← hb] at NW
  have BB : Hid (b = w1.heap.size ∧ w.heap.size ≤ b) := Lib.hid ⟨hb, by rw [hb]; exact hb1.size⟩
  clear hb1 FX NWA hb
  go_wp2_with fail
  refine NW.out.mono ?_
  rintro e w2 ⟨rfl, hb2, hd2⟩
  have D2 := Lib.hid (And.intro hb2 hd2)
  have s2 : Hid (b ≤ w2.heap.size) := Lib.hid (by rw [BB.out.1]; exact hb2.size)
  have O2 := Lib.hid (open_zero hd2 s2.out 2 nn 9 5 3 ⟨h8, by omega, (by show 2 + nn ≤ 64; omega), by decide, by decide, by decide, by decide, by omega⟩ rfl R5.out)
  clear hb2 hd2 NW
  go_wp2_with fail
  refine O2.out.mono ?_
  rintro e w3 ⟨lg, vr, rfl, hl3, _, hw3, hk3⟩
  have F3 : Hid (Rm b w w3 nn 0 lg 5 5 0 0 (.slice none 0 0) (.slice none 0 0) (rd1 (newD 64 z)) (ls0 2 nn 9 5 3) 0 0) := Lib.hid
    ⟨hw3, rfl, rfl, rfl, rfl, rfl, rfl, rfl, by show 3 = (3 + (5 - 5)) % nn; rw [Nat.sub_self, Nat.add_zero, Nat.mod_eq_of_lt (by omega)], by decide, by omega, ⟨rfl, rfl⟩, rfl, rfl, rfl, rfl, by omega, by omega, by show 0 ≤ _; omega, by
      have q1 : Below w.heap.size w w1 := B1.out
      have q2 : Below w.heap.size w1 w2 := D2.out.1.mono (by have := BB.out; omega)
      have q3 : Below w.heap.size w2 w3 := hk3.below (by have := s2.out; have := BB.out.2; omega) (fun x hx => by have := BB.out.2; omega)
      exact (q1.trans q2).trans q3⟩
  clear hl3 hw3 hk3 O2
  go_wp2_with fail
  go_loopg [10, 11, 12, 13, 14] n (fun gg s10 s11 s12 s13 si wr => ∃ (k fr en by_ ct : Nat) (cv pv : Value) (ds : DS) (s : LS) (c f : Nat), k ≤ n ∧ gg = n - k ∧ si = .int .i64 (k : Int) ∧ s10 = .int .i64 (fr : Int) ∧ s11 = .int .i64 (en : Int) ∧ s12 = .int .i64 (by_ : Int) ∧ s13 = .int .i64 (ct : Int) ∧ Rm b w wr nn k lg fr en by_ ct cv pv ds s c f)
  case atStart => exact ⟨0, 5, 5, 0, 0, _, _, _, _, 0, 0, Nat.zero_le _, rfl, rfl, rfl, rfl, rfl, rfl, F3.out⟩
  case round =>
    obtain ⟨k, fr, en, by_, ct, cv, pv, ds, s, c, f, hk, hg, rfl, rfl, rfl, rfl, rfl, hr⟩ := hrel
    have R := Lib.hid (And.intro hg hr)
    clear hg hr
    by_cases hlt : k < n
    · have hlt' : (k : Int) < (n : Int) := by omega
      obtain ⟨o, ho⟩ : ∃ o, l[k]? = some o := ⟨_, List.getElem?_eq_getElem (by rw [← NN.out.1]; exact hlt)⟩
      obtain ⟨hT0, a', cap', e', _, _, hcc⟩ := V.out.below R.out.2.bel
      simp only [Value.slice.injEq] at e'
      obtain ⟨bb, off, ea, hcell⟩ := hcc (by intro e; rw [e] at ho; simp at ho)
      rw [← e'.1] at ea
      subst ea
      have cl := fun i u hu => hcell k o ho i u hu
      have TS := Lib.hid (hT0 o (List.mem_of_getElem? ho))
      have x0 : wr.cell? ⟨bb, off + k * 12, none⟩ = some (.int .i64 o.kind) := cl 0 _ rfl
      have x1 : wr.cell? ⟨bb, off + k * 12 + 1, none⟩ = some (.bool o.two) := cl 1 _ rfl
      have x2 : wr.cell? ⟨bb, off + k * 12 + 2, none⟩ = some (.string o.text) := cl 2 _ rfl
      have x3 : wr.cell? ⟨bb, off + k * 12 + 3, none⟩ = some (.int .i64 o.k3) := cl 3 _ rfl
      have x4 : wr.cell? ⟨bb, off + k * 12 + 4, none⟩ = some (.int .i64 o.k4) := cl 4 _ rfl
      have x5 : wr.cell? ⟨bb, off + k * 12 + 5, none⟩ = some (.int .i64 o.k5) := cl 5 _ rfl
      have x6 : wr.cell? ⟨bb, off + k * 12 + 6, none⟩ = some (.int .i64 o.k6) := cl 6 _ rfl
      have x7 : wr.cell? ⟨bb, off + k * 12 + 7, none⟩ = some (.int .i64 o.k7) := cl 7 _ rfl
      have x8 : wr.cell? ⟨bb, off + k * 12 + 8, none⟩ = some (.int .i64 o.k8) := cl 8 _ rfl
      have x9 : wr.cell? ⟨bb, off + k * 12 + 9, none⟩ = some (.int .i64 o.k9) := cl 9 _ rfl
      have x10 : wr.cell? ⟨bb, off + k * 12 + 10, none⟩ = some (.slice o.a10 o.n10 o.c10) := cl 10 _ rfl
      have x11 : wr.cell? ⟨bb, off + k * 12 + 11, none⟩ = some (.slice o.a11 o.n11 o.c11) := cl 11 _ rfl
      obtain ⟨kind, two, text, k3, k4, k5, k6, k7, k8, k9, a10, n10, c10, a11, n11, c11⟩ := o
      simp only at x0 x1 x2 x3 x4 x5 x6 x7 x8 x9 x10 x11 TS
      clear hT0 hcc hcell cl e' ho
      obtain ⟨g1, g2, g3, g4, g5⟩ := R.out.2.facts
      have g6 := R.out.2.en2
      have k40 : k < 1099511627776 := by have := NN.out.2; omega
      obtain ⟨U, hU⟩ : ∃ U, U = en - fr := ⟨_, rfl⟩
      have eU : (en : Int) - (fr : Int) = (U : Int) := by omega
      have U39 : U ≤ 39 := by omega
      obtain ⟨F, hF⟩ : ∃ F, F = nn - U := ⟨_, rfl⟩
      have eF : (nn : Int) - (U : Int) = (F : Int) := by omega
      have F39 : F ≤ 39 := by omega
      have by2 : by_ ≤ 18096 := by omega
      obtain ⟨T, hT⟩ : ∃ T, T = (by_ + 463) / 464 := ⟨_, rfl⟩
      have eT : ((by_ : Int) + 463) / 464 = (T : Int) := by omega
      have T39 : T ≤ 39 := by omega
      have ct2 : ct ≤ 18096 := by omega
      have en3 : en ≤ 100000000000000 := by omega
      have fr3 : fr ≤ 100000000000000 := by omega
      have f0 : nn - (en - fr) = F := by omega
      have G := Lib.hid (And.intro hT (And.intro f0 (And.intro g1 (And.intro g3 g4))))
      clear hT f0 g1 g2 g3 g4 g6 hU hF
      obtain ⟨wo, hwo⟩ : ∃ wo, wo = wr.alloc (.cells #[.int .i64 kind, .bool two, .string text, .int .i64 k3, .int .i64 k4, .int .i64 k5, .int .i64 k6, .int .i64 k7, .int .i64 k8, .int .i64 k9, .slice a10 n10 c10, .slice a11 n11 c11] 44) := ⟨_, rfl⟩
      have BO : Hid (Below wr.heap.size wr wo) := Lib.hid (by rw [hwo]; exact (Below.refl _ _).alloc (Nat.le_refl _) _)
      have RO := Lib.hid (R.out.2.below BO.out)
      have HO : Hid (wo.heap[wr.heap.size]? = some (.cells #[.int .i64 kind, .bool two, .string text, .int .i64 k3, .int .i64 k4, .int .i64 k5, .int .i64 k6, .int .i64 k7, .int .i64 k8, .int .i64 k9, .slice a10 n10 c10, .slice a11 n11 c11] 44 (0, 0))) := Lib.hid (by rw [hwo]; exact heap_alloc_new _ _)
      have CN := Lib.hid (counts_any RO.out.wl.dv)
      rw [RO.out.cw, RO.out.cf] at CN
      have hwo' := hwo.symm
      clear hwo
      go_wp2_with fail
      refine CN.out.mono ?_
      rintro e w4 ⟨rfl, hb4⟩
      obtain ⟨X, hX⟩ : ∃ X, X = w4.alloc (.cells #[.int .i64 ds.cr, .int .i64 (c : Int), .int .i64 (f : Int)] 46) := ⟨_, rfl⟩
      have B4 : Hid (Below wo.heap.size wo X) := Lib.hid (by rw [hX]; exact hb4.trans ((Below.refl _ _).alloc hb4.size _))
      have RX := Lib.hid (RO.out.below B4.out)
      have HX : Hid (X.heap[wr.heap.size]? = some (.cells #[.int .i64 kind, .bool two, .string text, .int .i64 k3, .int .i64 k4, .int .i64 k5, .int .i64 k6, .int .i64 k7, .int .i64 k8, .int .i64 k9, .slice a10 n10 c10, .slice a11 n11 c11] 44 (0, 0))) := Lib.hid (by rw [B4.out.block _ (lt_of_heap HO.out)]; exact HO.out)
      have CX : Hid (X.heap[w4.heap.size]? = some (.cells #[.int .i64 ds.cr, .int .i64 (c : Int), .int .i64 (f : Int)] 46 (0, 0))) := Lib.hid (by rw [hX]; exact heap_alloc_new _ _)
      have y0 : X.cell? ⟨wr.heap.size, 0, none⟩ = some (.int .i64 kind) := cell_row HX.out rfl
      have y2 : X.cell? ⟨wr.heap.size, 2, none⟩ = some (.string text) := cell_row HX.out rfl
      have OK : Hid (∀ x, (Foot (b + 2) b (b + 1) cv x ∨ x = lg ∨ some x = pv.ownBlock) → x ≠ wr.heap.size ∧ x ≠ w4.heap.size) := Lib.hid (fun x hx => by
        have q1 := (R.out.2.lt x hx).2
        have q2 := BO.out.size
        have q3 := hb4.size
        omega)
      have bX : Hid (b ≤ X.heap.size) := Lib.hid (by
        have q1 := (R.out.2.lt lg (.inr (.inl rfl)))
        have q2 := BO.out.size
        have q3 := B4.out.size
        omega)
      have hX' := hX.symm
      clear hX hb4 CN hwo' x0 x1 x2 x3 x4 x5 x6 x7 x8 x9 x10 x11
      obtain ⟨kt, hkt⟩ : ∃ kt, kt = text.size := ⟨_, rfl⟩
      have ts : (text.size : Int) = (kt : Int) := by omega
      have KT := Lib.hid hkt
      have kt2 : kt ≤ 140737488355328 := by rw [hkt]; exact TS.out
      clear hkt
      by_cases c2 : kind = 2
      · subst c2
        by_cases a1 : kt < 1
        · as_aux_lemma =>
            have d1 : decide ((kt : Int) < 1) = true := decide_eq_true (by omega)
            have AP := Lib.hid (rm_app_no RX.out (by omega) h39 text 23 (by rw [← KT.out, if_pos (Or.inl a1)]) (by decide))
            have GF : Hid (nn - (en - fr) = F) := Lib.hid G.out.2.1
            go_wp2_with fail
            refine AP.out.mono ?_
            rintro e w6 ⟨rfl, hr6, hk6⟩
            have R6 := Lib.hid hr6
            have y6 : w6.cell? ⟨wr.heap.size, 2, none⟩ = some (.string text) := cell_row (by rw [hk6.block _ (lt_of_heap HX.out) (fun q => (OK.out _ q).1 rfl)]; exact HX.out) rfl
            clear hr6 hk6 AP y0 y2
            go_wp2_with fail
            · have ER : Hid ((roomL s : Int) = 464 * (F : Int) - (by_ : Int) - 4) := Lib.hid (by rw [R6.out.room (by omega) h39, GF.out]; omega)
              have EC := Lib.hid (rm_end R6.out)
              refine EC.out.mono ?_
              rintro e w7 ⟨rfl, hb7⟩
              obtain ⟨ae, hae⟩ : ∃ ae, ae = (3 + (en - 5)) % nn := ⟨_, rfl⟩
              rw [← hae]
              have en5 : 5 ≤ en := by have := R6.out.f5; have := R6.out.facts.1; omega
              have nn0 : (nn : Int) ≠ 0 := by omega
              have ea1 : ((3 : Int) + ((en : Int) - 5)) % (nn : Int) = (ae : Int) := by
                have q : (3 : Int) + ((en : Int) - 5) = ((3 + (en - 5) : Nat) : Int) := by omega
                rw [q, hae]; simp
              obtain ⟨Y, hY⟩ : ∃ Y, Y = w7.alloc (.cells #[.int .i64 (en : Int), .int .i64 (ae : Int)] 30) := ⟨_, rfl⟩
              have BY : Hid (Below w6.heap.size w6 Y) := Lib.hid (by rw [hY]; exact hb7.trans ((Below.refl _ _).alloc hb7.size _))
              have HY : Hid (Y.heap[w7.heap.size]? = some (.cells #[.int .i64 (en : Int), .int .i64 (ae : Int)] 30 (0, 0))) := Lib.hid (by rw [hY]; exact heap_alloc_new _ _)
              have R7 := Lib.hid (R6.out.below BY.out)
              have KS : Hid (∀ Z, Below Y.heap.size Y Z → Z.cell? ⟨w7.heap.size, 0, none⟩ = some (.int .i64 (en : Int)) ∧ Z.cell? ⟨w7.heap.size, 1, none⟩ = some (.int .i64 (ae : Int))) := Lib.hid (fun Z hz => by
                have q : Z.heap[w7.heap.size]? = some (.cells #[.int .i64 (en : Int), .int .i64 (ae : Int)] 30 (0, 0)) := by rw [hz.block _ (lt_of_heap HY.out)]; exact HY.out
                exact ⟨cell_row q rfl, cell_row q rfl⟩)
              have RMC : Hid (∀ Z, Below Y.heap.size Y Z → Calls Try.prog 19 #[.pointer (some ⟨lg, 0, none⟩)] Z fun e w' => e = .returned (.int .i64 (464 * (F : Int) - (by_ : Int) - 4)) ∧ Below Y.heap.size Y w') := Lib.hid (fun Z hz => by
                refine (room_any (R7.out.below hz).wl.lg).mono ?_
                rintro e w' ⟨rfl, hb⟩
                exact ⟨by rw [ER.out], hz.trans (hb.mono hz.size)⟩)
              have PNC : Hid (∀ Z, Below Y.heap.size Y Z → Calls Try.prog 20 #[.pointer (some ⟨lg, 0, none⟩)] Z fun e w' => e = .returned (.int .i64 (ct : Int)) ∧ w' = Z) := Lib.hid (fun Z hz => by
                have q := pendL_any (R7.out.below hz).wl.lg
                rw [R7.out.ct] at q
                exact q)
              have B0 : Hid (Below Y.heap.size Y Y.drew) := Lib.hid (below_drawn Y 1)
              have hY' := hY.symm
              clear hY hb7 EC hae
              go_wp2_with fail
              go_region_held (fun W : World => W.cell? ⟨w7.heap.size, 0, none⟩ = some (.int .i64 (en : Int)) ∧ W.cell? ⟨w7.heap.size, 1, none⟩ = some (.int .i64 (ae : Int))) (first | exact KS.out _ hB8 | exact KS.out _ B0.out) (first | (go_at_call 19; refine (RMC.out _ B0.out).mono ?_; rintro r w8 ⟨rfl, hB8⟩) | (go_at_call 20; refine (PNC.out _ hB8).mono ?_; rintro r w9 ⟨rfl, rfl⟩))
              have R8 := Lib.hid (R7.out.below hB8)
              clear hB8 KS RMC PNC B0 hY'
              go_wp2_with fail
              go_roundg (n - (k + 1))
              case measure => have := R.out.1; omega
              case rel => exact ⟨k + 1, fr, en, by_, ct, cv, pv, ds, s, c, f, by omega, rfl, by go_num, rfl, rfl, rfl, rfl, R8.out⟩
            · have ER : Hid ((roomL s : Int) = 0) := Lib.hid (by rw [R6.out.room (by omega) h39, GF.out]; omega)
              have EC := Lib.hid (rm_end R6.out)
              refine EC.out.mono ?_
              rintro e w7 ⟨rfl, hb7⟩
              obtain ⟨ae, hae⟩ : ∃ ae, ae = (3 + (en - 5)) % nn := ⟨_, rfl⟩
              rw [← hae]
              have en5 : 5 ≤ en := by have := R6.out.f5; have := R6.out.facts.1; omega
              have nn0 : (nn : Int) ≠ 0 := by omega
              have ea1 : ((3 : Int) + ((en : Int) - 5)) % (nn : Int) = (ae : Int) := by
                have q : (3 : Int) + ((en : Int) - 5) = ((3 + (en - 5) : Nat) : Int) := by omega
                rw [q, hae]; simp
              obtain ⟨Y, hY⟩ : ∃ Y, Y = w7.alloc (.cells #[.int .i64 (en : Int), .int .i64 (ae : Int)] 30) := ⟨_, rfl⟩
              have BY : Hid (Below w6.heap.size w6 Y) := Lib.hid (by rw [hY]; exact hb7.trans ((Below.refl _ _).alloc hb7.size _))
              have HY : Hid (Y.heap[w7.heap.size]? = some (.cells #[.int .i64 (en : Int), .int .i64 (ae : Int)] 30 (0, 0))) := Lib.hid (by rw [hY]; exact heap_alloc_new _ _)
              have R7 := Lib.hid (R6.out.below BY.out)
              have KS : Hid (∀ Z, Below Y.heap.size Y Z → Z.cell? ⟨w7.heap.size, 0, none⟩ = some (.int .i64 (en : Int)) ∧ Z.cell? ⟨w7.heap.size, 1, none⟩ = some (.int .i64 (ae : Int))) := Lib.hid (fun Z hz => by
                have q : Z.heap[w7.heap.size]? = some (.cells #[.int .i64 (en : Int), .int .i64 (ae : Int)] 30 (0, 0)) := by rw [hz.block _ (lt_of_heap HY.out)]; exact HY.out
                exact ⟨cell_row q rfl, cell_row q rfl⟩)
              have RMC : Hid (∀ Z, Below Y.heap.size Y Z → Calls Try.prog 19 #[.pointer (some ⟨lg, 0, none⟩)] Z fun e w' => e = .returned (.int .i64 (0)) ∧ Below Y.heap.size Y w') := Lib.hid (fun Z hz => by
                refine (room_any (R7.out.below hz).wl.lg).mono ?_
                rintro e w' ⟨rfl, hb⟩
                exact ⟨by rw [ER.out], hz.trans (hb.mono hz.size)⟩)
              have PNC : Hid (∀ Z, Below Y.heap.size Y Z → Calls Try.prog 20 #[.pointer (some ⟨lg, 0, none⟩)] Z fun e w' => e = .returned (.int .i64 (ct : Int)) ∧ w' = Z) := Lib.hid (fun Z hz => by
                have q := pendL_any (R7.out.below hz).wl.lg
                rw [R7.out.ct] at q
                exact q)
              have B0 : Hid (Below Y.heap.size Y Y.drew) := Lib.hid (below_drawn Y 1)
              have hY' := hY.symm
              clear hY hb7 EC hae
              go_wp2_with fail
              go_region_held (fun W : World => W.cell? ⟨w7.heap.size, 0, none⟩ = some (.int .i64 (en : Int)) ∧ W.cell? ⟨w7.heap.size, 1, none⟩ = some (.int .i64 (ae : Int))) (first | exact KS.out _ hB8 | exact KS.out _ B0.out) (first | (go_at_call 19; refine (RMC.out _ B0.out).mono ?_; rintro r w8 ⟨rfl, hB8⟩) | (go_at_call 20; refine (PNC.out _ hB8).mono ?_; rintro r w9 ⟨rfl, rfl⟩))
              have R8 := Lib.hid (R7.out.below hB8)
              clear hB8 KS RMC PNC B0 hY'
              go_wp2_with fail
              go_roundg (n - (k + 1))
              case measure => have := R.out.1; omega
              case rel => exact ⟨k + 1, fr, en, by_, ct, cv, pv, ds, s, c, f, by omega, rfl, by go_num, rfl, rfl, rfl, rfl, R8.out⟩
        by_cases a2 : 32768 < kt
        · as_aux_lemma =>
            have d1 : decide ((kt : Int) < 1) = false := decide_eq_false (by omega)
            have d2 : decide ((kt : Int) > 32768) = true := decide_eq_true (by omega)
            have AP := Lib.hid (rm_app_no RX.out (by omega) h39 text 23 (by rw [← KT.out, if_pos (Or.inr a2)]) (by decide))
            have GF : Hid (nn - (en - fr) = F) := Lib.hid G.out.2.1
            go_wp2_with fail
            refine AP.out.mono ?_
            rintro e w6 ⟨rfl, hr6, hk6⟩
            have R6 := Lib.hid hr6
            have y6 : w6.cell? ⟨wr.heap.size, 2, none⟩ = some (.string text) := cell_row (by rw [hk6.block _ (lt_of_heap HX.out) (fun q => (OK.out _ q).1 rfl)]; exact HX.out) rfl
            clear hr6 hk6 AP y0 y2
            go_wp2_with fail
            · have ER : Hid ((roomL s : Int) = 464 * (F : Int) - (by_ : Int) - 4) := Lib.hid (by rw [R6.out.room (by omega) h39, GF.out]; omega)
              have EC := Lib.hid (rm_end R6.out)
              refine EC.out.mono ?_
              rintro e w7 ⟨rfl, hb7⟩
              obtain ⟨ae, hae⟩ : ∃ ae, ae = (3 + (en - 5)) % nn := ⟨_, rfl⟩
              rw [← hae]
              have en5 : 5 ≤ en := by have := R6.out.f5; have := R6.out.facts.1; omega
              have nn0 : (nn : Int) ≠ 0 := by omega
              have ea1 : ((3 : Int) + ((en : Int) - 5)) % (nn : Int) = (ae : Int) := by
                have q : (3 : Int) + ((en : Int) - 5) = ((3 + (en - 5) : Nat) : Int) := by omega
                rw [q, hae]; simp
              obtain ⟨Y, hY⟩ : ∃ Y, Y = w7.alloc (.cells #[.int .i64 (en : Int), .int .i64 (ae : Int)] 30) := ⟨_, rfl⟩
              have BY : Hid (Below w6.heap.size w6 Y) := Lib.hid (by rw [hY]; exact hb7.trans ((Below.refl _ _).alloc hb7.size _))
              have HY : Hid (Y.heap[w7.heap.size]? = some (.cells #[.int .i64 (en : Int), .int .i64 (ae : Int)] 30 (0, 0))) := Lib.hid (by rw [hY]; exact heap_alloc_new _ _)
              have R7 := Lib.hid (R6.out.below BY.out)
              have KS : Hid (∀ Z, Below Y.heap.size Y Z → Z.cell? ⟨w7.heap.size, 0, none⟩ = some (.int .i64 (en : Int)) ∧ Z.cell? ⟨w7.heap.size, 1, none⟩ = some (.int .i64 (ae : Int))) := Lib.hid (fun Z hz => by
                have q : Z.heap[w7.heap.size]? = some (.cells #[.int .i64 (en : Int), .int .i64 (ae : Int)] 30 (0, 0)) := by rw [hz.block _ (lt_of_heap HY.out)]; exact HY.out
                exact ⟨cell_row q rfl, cell_row q rfl⟩)
              have RMC : Hid (∀ Z, Below Y.heap.size Y Z → Calls Try.prog 19 #[.pointer (some ⟨lg, 0, none⟩)] Z fun e w' => e = .returned (.int .i64 (464 * (F : Int) - (by_ : Int) - 4)) ∧ Below Y.heap.size Y w') := Lib.hid (fun Z hz => by
                refine (room_any (R7.out.below hz).wl.lg).mono ?_
                rintro e w' ⟨rfl, hb⟩
                exact ⟨by rw [ER.out], hz.trans (hb.mono hz.size)⟩)
              have PNC : Hid (∀ Z, Below Y.heap.size Y Z → Calls Try.prog 20 #[.pointer (some ⟨lg, 0, none⟩)] Z fun e w' => e = .returned (.int .i64 (ct : Int)) ∧ w' = Z) := Lib.hid (fun Z hz => by
                have q := pendL_any (R7.out.below hz).wl.lg
                rw [R7.out.ct] at q
                exact q)
              have B0 : Hid (Below Y.heap.size Y Y.drew) := Lib.hid (below_drawn Y 1)
              have hY' := hY.symm
              clear hY hb7 EC hae
              go_wp2_with fail
              go_region_held (fun W : World => W.cell? ⟨w7.heap.size, 0, none⟩ = some (.int .i64 (en : Int)) ∧ W.cell? ⟨w7.heap.size, 1, none⟩ = some (.int .i64 (ae : Int))) (first | exact KS.out _ hB8 | exact KS.out _ B0.out) (first | (go_at_call 19; refine (RMC.out _ B0.out).mono ?_; rintro r w8 ⟨rfl, hB8⟩) | (go_at_call 20; refine (PNC.out _ hB8).mono ?_; rintro r w9 ⟨rfl, rfl⟩))
              have R8 := Lib.hid (R7.out.below hB8)
              clear hB8 KS RMC PNC B0 hY'
              go_wp2_with fail
              go_roundg (n - (k + 1))
              case measure => have := R.out.1; omega
              case rel => exact ⟨k + 1, fr, en, by_, ct, cv, pv, ds, s, c, f, by omega, rfl, by go_num, rfl, rfl, rfl, rfl, R8.out⟩
            · have ER : Hid ((roomL s : Int) = 0) := Lib.hid (by rw [R6.out.room (by omega) h39, GF.out]; omega)
              have EC := Lib.hid (rm_end R6.out)
              refine EC.out.mono ?_
              rintro e w7 ⟨rfl, hb7⟩
              obtain ⟨ae, hae⟩ : ∃ ae, ae = (3 + (en - 5)) % nn := ⟨_, rfl⟩
              rw [← hae]
              have en5 : 5 ≤ en := by have := R6.out.f5; have := R6.out.facts.1; omega
              have nn0 : (nn : Int) ≠ 0 := by omega
              have ea1 : ((3 : Int) + ((en : Int) - 5)) % (nn : Int) = (ae : Int) := by
                have q : (3 : Int) + ((en : Int) - 5) = ((3 + (en - 5) : Nat) : Int) := by omega
                rw [q, hae]; simp
              obtain ⟨Y, hY⟩ : ∃ Y, Y = w7.alloc (.cells #[.int .i64 (en : Int), .int .i64 (ae : Int)] 30) := ⟨_, rfl⟩
              have BY : Hid (Below w6.heap.size w6 Y) := Lib.hid (by rw [hY]; exact hb7.trans ((Below.refl _ _).alloc hb7.size _))
              have HY : Hid (Y.heap[w7.heap.size]? = some (.cells #[.int .i64 (en : Int), .int .i64 (ae : Int)] 30 (0, 0))) := Lib.hid (by rw [hY]; exact heap_alloc_new _ _)
              have R7 := Lib.hid (R6.out.below BY.out)
              have KS : Hid (∀ Z, Below Y.heap.size Y Z → Z.cell? ⟨w7.heap.size, 0, none⟩ = some (.int .i64 (en : Int)) ∧ Z.cell? ⟨w7.heap.size, 1, none⟩ = some (.int .i64 (ae : Int))) := Lib.hid (fun Z hz => by
                have q : Z.heap[w7.heap.size]? = some (.cells #[.int .i64 (en : Int), .int .i64 (ae : Int)] 30 (0, 0)) := by rw [hz.block _ (lt_of_heap HY.out)]; exact HY.out
                exact ⟨cell_row q rfl, cell_row q rfl⟩)
              have RMC : Hid (∀ Z, Below Y.heap.size Y Z → Calls Try.prog 19 #[.pointer (some ⟨lg, 0, none⟩)] Z fun e w' => e = .returned (.int .i64 (0)) ∧ Below Y.heap.size Y w') := Lib.hid (fun Z hz => by
                refine (room_any (R7.out.below hz).wl.lg).mono ?_
                rintro e w' ⟨rfl, hb⟩
                exact ⟨by rw [ER.out], hz.trans (hb.mono hz.size)⟩)
              have PNC : Hid (∀ Z, Below Y.heap.size Y Z → Calls Try.prog 20 #[.pointer (some ⟨lg, 0, none⟩)] Z fun e w' => e = .returned (.int .i64 (ct : Int)) ∧ w' = Z) := Lib.hid (fun Z hz => by
                have q := pendL_any (R7.out.below hz).wl.lg
                rw [R7.out.ct] at q
                exact q)
              have B0 : Hid (Below Y.heap.size Y Y.drew) := Lib.hid (below_drawn Y 1)
              have hY' := hY.symm
              clear hY hb7 EC hae
              go_wp2_with fail
              go_region_held (fun W : World => W.cell? ⟨w7.heap.size, 0, none⟩ = some (.int .i64 (en : Int)) ∧ W.cell? ⟨w7.heap.size, 1, none⟩ = some (.int .i64 (ae : Int))) (first | exact KS.out _ hB8 | exact KS.out _ B0.out) (first | (go_at_call 19; refine (RMC.out _ B0.out).mono ?_; rintro r w8 ⟨rfl, hB8⟩) | (go_at_call 20; refine (PNC.out _ hB8).mono ?_; rintro r w9 ⟨rfl, rfl⟩))
              have R8 := Lib.hid (R7.out.below hB8)
              clear hB8 KS RMC PNC B0 hY'
              go_wp2_with fail
              go_roundg (n - (k + 1))
              case measure => have := R.out.1; omega
              case rel => exact ⟨k + 1, fr, en, by_, ct, cv, pv, ds, s, c, f, by omega, rfl, by go_num, rfl, rfl, rfl, rfl, R8.out⟩
        by_cases a3 : F < (by_ + 4 + kt + 463) / 464
        · as_aux_lemma =>
            have d1 : decide ((kt : Int) < 1) = false := decide_eq_false (by omega)
            have d2 : decide ((kt : Int) > 32768) = false := decide_eq_false (by omega)
            obtain ⟨D, hD⟩ : ∃ D, D = (by_ + 4 + kt + 463) / 464 := ⟨_, rfl⟩
            have eD : ((by_ : Int) + 4 + (kt : Int) + 463) / 464 = (D : Int) := by omega
            have a3' : F < D := by rw [hD]; exact a3
            have d3 : decide ((D : Int) > (F : Int)) = true := decide_eq_true (by omega)
            clear hD
            have AP := Lib.hid (rm_app_no RX.out (by omega) h39 text 4 (by rw [← KT.out, G.out.2.1, if_neg (by omega), if_pos a3]) (by decide))
            have GF : Hid (nn - (en - fr) = F) := Lib.hid G.out.2.1
            go_wp2_with fail
            refine AP.out.mono ?_
            rintro e w6 ⟨rfl, hr6, hk6⟩
            have R6 := Lib.hid hr6
            have y6 : w6.cell? ⟨wr.heap.size, 2, none⟩ = some (.string text) := cell_row (by rw [hk6.block _ (lt_of_heap HX.out) (fun q => (OK.out _ q).1 rfl)]; exact HX.out) rfl
            clear hr6 hk6 AP y0 y2
            go_wp2_with fail
            · have ER : Hid ((roomL s : Int) = 464 * (F : Int) - (by_ : Int) - 4) := Lib.hid (by rw [R6.out.room (by omega) h39, GF.out]; omega)
              have EC := Lib.hid (rm_end R6.out)
              refine EC.out.mono ?_
              rintro e w7 ⟨rfl, hb7⟩
              obtain ⟨ae, hae⟩ : ∃ ae, ae = (3 + (en - 5)) % nn := ⟨_, rfl⟩
              rw [← hae]
              have en5 : 5 ≤ en := by have := R6.out.f5; have := R6.out.facts.1; omega
              have nn0 : (nn : Int) ≠ 0 := by omega
              have ea1 : ((3 : Int) + ((en : Int) - 5)) % (nn : Int) = (ae : Int) := by
                have q : (3 : Int) + ((en : Int) - 5) = ((3 + (en - 5) : Nat) : Int) := by omega
                rw [q, hae]; simp
              obtain ⟨Y, hY⟩ : ∃ Y, Y = w7.alloc (.cells #[.int .i64 (en : Int), .int .i64 (ae : Int)] 30) := ⟨_, rfl⟩
              have BY : Hid (Below w6.heap.size w6 Y) := Lib.hid (by rw [hY]; exact hb7.trans ((Below.refl _ _).alloc hb7.size _))
              have HY : Hid (Y.heap[w7.heap.size]? = some (.cells #[.int .i64 (en : Int), .int .i64 (ae : Int)] 30 (0, 0))) := Lib.hid (by rw [hY]; exact heap_alloc_new _ _)
              have R7 := Lib.hid (R6.out.below BY.out)
              have KS : Hid (∀ Z, Below Y.heap.size Y Z → Z.cell? ⟨w7.heap.size, 0, none⟩ = some (.int .i64 (en : Int)) ∧ Z.cell? ⟨w7.heap.size, 1, none⟩ = some (.int .i64 (ae : Int))) := Lib.hid (fun Z hz => by
                have q : Z.heap[w7.heap.size]? = some (.cells #[.int .i64 (en : Int), .int .i64 (ae : Int)] 30 (0, 0)) := by rw [hz.block _ (lt_of_heap HY.out)]; exact HY.out
                exact ⟨cell_row q rfl, cell_row q rfl⟩)
              have RMC : Hid (∀ Z, Below Y.heap.size Y Z → Calls Try.prog 19 #[.pointer (some ⟨lg, 0, none⟩)] Z fun e w' => e = .returned (.int .i64 (464 * (F : Int) - (by_ : Int) - 4)) ∧ Below Y.heap.size Y w') := Lib.hid (fun Z hz => by
                refine (room_any (R7.out.below hz).wl.lg).mono ?_
                rintro e w' ⟨rfl, hb⟩
                exact ⟨by rw [ER.out], hz.trans (hb.mono hz.size)⟩)
              have PNC : Hid (∀ Z, Below Y.heap.size Y Z → Calls Try.prog 20 #[.pointer (some ⟨lg, 0, none⟩)] Z fun e w' => e = .returned (.int .i64 (ct : Int)) ∧ w' = Z) := Lib.hid (fun Z hz => by
                have q := pendL_any (R7.out.below hz).wl.lg
                rw [R7.out.ct] at q
                exact q)
              have B0 : Hid (Below Y.heap.size Y Y.drew) := Lib.hid (below_drawn Y 1)
              have hY' := hY.symm
              clear hY hb7 EC hae
              go_wp2_with fail
              go_region_held (fun W : World => W.cell? ⟨w7.heap.size, 0, none⟩ = some (.int .i64 (en : Int)) ∧ W.cell? ⟨w7.heap.size, 1, none⟩ = some (.int .i64 (ae : Int))) (first | exact KS.out _ hB8 | exact KS.out _ B0.out) (first | (go_at_call 19; refine (RMC.out _ B0.out).mono ?_; rintro r w8 ⟨rfl, hB8⟩) | (go_at_call 20; refine (PNC.out _ hB8).mono ?_; rintro r w9 ⟨rfl, rfl⟩))
              have R8 := Lib.hid (R7.out.below hB8)
              clear hB8 KS RMC PNC B0 hY'
              go_wp2_with fail
              go_roundg (n - (k + 1))
              case measure => have := R.out.1; omega
              case rel => exact ⟨k + 1, fr, en, by_, ct, cv, pv, ds, s, c, f, by omega, rfl, by go_num, rfl, rfl, rfl, rfl, R8.out⟩
            · have ER : Hid ((roomL s : Int) = 0) := Lib.hid (by rw [R6.out.room (by omega) h39, GF.out]; omega)
              have EC := Lib.hid (rm_end R6.out)
              refine EC.out.mono ?_
              rintro e w7 ⟨rfl, hb7⟩
              obtain ⟨ae, hae⟩ : ∃ ae, ae = (3 + (en - 5)) % nn := ⟨_, rfl⟩
              rw [← hae]
              have en5 : 5 ≤ en := by have := R6.out.f5; have := R6.out.facts.1; omega
              have nn0 : (nn : Int) ≠ 0 := by omega
              have ea1 : ((3 : Int) + ((en : Int) - 5)) % (nn : Int) = (ae : Int) := by
                have q : (3 : Int) + ((en : Int) - 5) = ((3 + (en - 5) : Nat) : Int) := by omega
                rw [q, hae]; simp
              obtain ⟨Y, hY⟩ : ∃ Y, Y = w7.alloc (.cells #[.int .i64 (en : Int), .int .i64 (ae : Int)] 30) := ⟨_, rfl⟩
              have BY : Hid (Below w6.heap.size w6 Y) := Lib.hid (by rw [hY]; exact hb7.trans ((Below.refl _ _).alloc hb7.size _))
              have HY : Hid (Y.heap[w7.heap.size]? = some (.cells #[.int .i64 (en : Int), .int .i64 (ae : Int)] 30 (0, 0))) := Lib.hid (by rw [hY]; exact heap_alloc_new _ _)
              have R7 := Lib.hid (R6.out.below BY.out)
              have KS : Hid (∀ Z, Below Y.heap.size Y Z → Z.cell? ⟨w7.heap.size, 0, none⟩ = some (.int .i64 (en : Int)) ∧ Z.cell? ⟨w7.heap.size, 1, none⟩ = some (.int .i64 (ae : Int))) := Lib.hid (fun Z hz => by
                have q : Z.heap[w7.heap.size]? = some (.cells #[.int .i64 (en : Int), .int .i64 (ae : Int)] 30 (0, 0)) := by rw [hz.block _ (lt_of_heap HY.out)]; exact HY.out
                exact ⟨cell_row q rfl, cell_row q rfl⟩)
              have RMC : Hid (∀ Z, Below Y.heap.size Y Z → Calls Try.prog 19 #[.pointer (some ⟨lg, 0, none⟩)] Z fun e w' => e = .returned (.int .i64 (0)) ∧ Below Y.heap.size Y w') := Lib.hid (fun Z hz => by
                refine (room_any (R7.out.below hz).wl.lg).mono ?_
                rintro e w' ⟨rfl, hb⟩
                exact ⟨by rw [ER.out], hz.trans (hb.mono hz.size)⟩)
              have PNC : Hid (∀ Z, Below Y.heap.size Y Z → Calls Try.prog 20 #[.pointer (some ⟨lg, 0, none⟩)] Z fun e w' => e = .returned (.int .i64 (ct : Int)) ∧ w' = Z) := Lib.hid (fun Z hz => by
                have q := pendL_any (R7.out.below hz).wl.lg
                rw [R7.out.ct] at q
                exact q)
              have B0 : Hid (Below Y.heap.size Y Y.drew) := Lib.hid (below_drawn Y 1)
              have hY' := hY.symm
              clear hY hb7 EC hae
              go_wp2_with fail
              go_region_held (fun W : World => W.cell? ⟨w7.heap.size, 0, none⟩ = some (.int .i64 (en : Int)) ∧ W.cell? ⟨w7.heap.size, 1, none⟩ = some (.int .i64 (ae : Int))) (first | exact KS.out _ hB8 | exact KS.out _ B0.out) (first | (go_at_call 19; refine (RMC.out _ B0.out).mono ?_; rintro r w8 ⟨rfl, hB8⟩) | (go_at_call 20; refine (PNC.out _ hB8).mono ?_; rintro r w9 ⟨rfl, rfl⟩))
              have R8 := Lib.hid (R7.out.below hB8)
              clear hB8 KS RMC PNC B0 hY'
              go_wp2_with fail
              go_roundg (n - (k + 1))
              case measure => have := R.out.1; omega
              case rel => exact ⟨k + 1, fr, en, by_, ct, cv, pv, ds, s, c, f, by omega, rfl, by go_num, rfl, rfl, rfl, rfl, R8.out⟩
        · as_aux_lemma =>
            have d1 : decide ((kt : Int) < 1) = false := decide_eq_false (by omega)
            have d2 : decide ((kt : Int) > 32768) = false := decide_eq_false (by omega)
            obtain ⟨D, hD⟩ : ∃ D, D = (by_ + 4 + kt + 463) / 464 := ⟨_, rfl⟩
            have eD : ((by_ : Int) + 4 + (kt : Int) + 463) / 464 = (D : Int) := by omega
            have a3' : ¬ F < D := by rw [hD]; exact a3
            have d3 : decide ((D : Int) > (F : Int)) = false := decide_eq_false (by omega)
            have AP := Lib.hid (rm_app_ok RX.out BB.out.2 bX.out (by omega) h39 text (by rw [← KT.out, G.out.2.1, if_neg (by omega), if_neg a3]))
            rw [← KT.out] at AP
            obtain ⟨bz, hbz⟩ : ∃ bz, bz = by_ + 4 + kt := ⟨_, rfl⟩
            obtain ⟨cz, hcz⟩ : ∃ cz, cz = ct + 1 := ⟨_, rfl⟩
            have ebz : (by_ : Int) + 4 + (kt : Int) = (bz : Int) := by omega
            have ecz : (ct : Int) + 1 = (cz : Int) := by omega
            have bz2 : bz ≤ 464 * F := by omega
            have eD' : ((bz : Int) + 463) / 464 = (D : Int) := by omega
            rw [← hbz, ← hcz] at AP
            clear hD hbz hcz
            have GF : Hid (nn - (en - fr) = F) := Lib.hid G.out.2.1
            go_wp2_with fail
            refine AP.out.mono ?_
            rintro e w6 ⟨pv6, s6, rfl, hr6, hk6⟩
            have R6 := Lib.hid hr6
            have y6 : w6.cell? ⟨wr.heap.size, 2, none⟩ = some (.string text) := cell_row (by rw [hk6.block _ (lt_of_heap HX.out) (fun q => (OK.out _ q).1 rfl)]; exact HX.out) rfl
            clear hr6 hk6 AP y0 y2
            go_wp2_with fail
            · have ER : Hid ((roomL s6 : Int) = 464 * (F : Int) - (bz : Int) - 4) := Lib.hid (by rw [R6.out.room (by omega) h39, GF.out]; omega)
              have EC := Lib.hid (rm_end R6.out)
              refine EC.out.mono ?_
              rintro e w7 ⟨rfl, hb7⟩
              obtain ⟨ae, hae⟩ : ∃ ae, ae = (3 + (en - 5)) % nn := ⟨_, rfl⟩
              rw [← hae]
              have en5 : 5 ≤ en := by have := R6.out.f5; have := R6.out.facts.1; omega
              have nn0 : (nn : Int) ≠ 0 := by omega
              have ea1 : ((3 : Int) + ((en : Int) - 5)) % (nn : Int) = (ae : Int) := by
                have q : (3 : Int) + ((en : Int) - 5) = ((3 + (en - 5) : Nat) : Int) := by omega
                rw [q, hae]; simp
              obtain ⟨Y, hY⟩ : ∃ Y, Y = w7.alloc (.cells #[.int .i64 (en : Int), .int .i64 (ae : Int)] 30) := ⟨_, rfl⟩
              have BY : Hid (Below w6.heap.size w6 Y) := Lib.hid (by rw [hY]; exact hb7.trans ((Below.refl _ _).alloc hb7.size _))
              have HY : Hid (Y.heap[w7.heap.size]? = some (.cells #[.int .i64 (en : Int), .int .i64 (ae : Int)] 30 (0, 0))) := Lib.hid (by rw [hY]; exact heap_alloc_new _ _)
              have R7 := Lib.hid (R6.out.below BY.out)
              have KS : Hid (∀ Z, Below Y.heap.size Y Z → Z.cell? ⟨w7.heap.size, 0, none⟩ = some (.int .i64 (en : Int)) ∧ Z.cell? ⟨w7.heap.size, 1, none⟩ = some (.int .i64 (ae : Int))) := Lib.hid (fun Z hz => by
                have q : Z.heap[w7.heap.size]? = some (.cells #[.int .i64 (en : Int), .int .i64 (ae : Int)] 30 (0, 0)) := by rw [hz.block _ (lt_of_heap HY.out)]; exact HY.out
                exact ⟨cell_row q rfl, cell_row q rfl⟩)
              have RMC : Hid (∀ Z, Below Y.heap.size Y Z → Calls Try.prog 19 #[.pointer (some ⟨lg, 0, none⟩)] Z fun e w' => e = .returned (.int .i64 (464 * (F : Int) - (bz : Int) - 4)) ∧ Below Y.heap.size Y w') := Lib.hid (fun Z hz => by
                refine (room_any (R7.out.below hz).wl.lg).mono ?_
                rintro e w' ⟨rfl, hb⟩
                exact ⟨by rw [ER.out], hz.trans (hb.mono hz.size)⟩)
              have PNC : Hid (∀ Z, Below Y.heap.size Y Z → Calls Try.prog 20 #[.pointer (some ⟨lg, 0, none⟩)] Z fun e w' => e = .returned (.int .i64 (cz : Int)) ∧ w' = Z) := Lib.hid (fun Z hz => by
                have q := pendL_any (R7.out.below hz).wl.lg
                rw [R7.out.ct] at q
                exact q)
              have B0 : Hid (Below Y.heap.size Y Y.drew) := Lib.hid (below_drawn Y 1)
              have hY' := hY.symm
              clear hY hb7 EC hae
              go_wp2_with fail
              go_region_held (fun W : World => W.cell? ⟨w7.heap.size, 0, none⟩ = some (.int .i64 (en : Int)) ∧ W.cell? ⟨w7.heap.size, 1, none⟩ = some (.int .i64 (ae : Int))) (first | exact KS.out _ hB8 | exact KS.out _ B0.out) (first | (go_at_call 19; refine (RMC.out _ B0.out).mono ?_; rintro r w8 ⟨rfl, hB8⟩) | (go_at_call 20; refine (PNC.out _ hB8).mono ?_; rintro r w9 ⟨rfl, rfl⟩))
              have R8 := Lib.hid (R7.out.below hB8)
              clear hB8 KS RMC PNC B0 hY'
              go_wp2_with fail
              go_roundg (n - (k + 1))
              case measure => have := R.out.1; omega
              case rel => exact ⟨k + 1, fr, en, bz, cz, cv, pv6, ds, s6, c, f, by omega, rfl, by go_num, rfl, rfl, rfl, rfl, R8.out⟩
            · have ER : Hid ((roomL s6 : Int) = 0) := Lib.hid (by rw [R6.out.room (by omega) h39, GF.out]; omega)
              have EC := Lib.hid (rm_end R6.out)
              refine EC.out.mono ?_
              rintro e w7 ⟨rfl, hb7⟩
              obtain ⟨ae, hae⟩ : ∃ ae, ae = (3 + (en - 5)) % nn := ⟨_, rfl⟩
              rw [← hae]
              have en5 : 5 ≤ en := by have := R6.out.f5; have := R6.out.facts.1; omega
              have nn0 : (nn : Int) ≠ 0 := by omega
              have ea1 : ((3 : Int) + ((en : Int) - 5)) % (nn : Int) = (ae : Int) := by
                have q : (3 : Int) + ((en : Int) - 5) = ((3 + (en - 5) : Nat) : Int) := by omega
                rw [q, hae]; simp
              obtain ⟨Y, hY⟩ : ∃ Y, Y = w7.alloc (.cells #[.int .i64 (en : Int), .int .i64 (ae : Int)] 30) := ⟨_, rfl⟩
              have BY : Hid (Below w6.heap.size w6 Y) := Lib.hid (by rw [hY]; exact hb7.trans ((Below.refl _ _).alloc hb7.size _))
              have HY : Hid (Y.heap[w7.heap.size]? = some (.cells #[.int .i64 (en : Int), .int .i64 (ae : Int)] 30 (0, 0))) := Lib.hid (by rw [hY]; exact heap_alloc_new _ _)
              have R7 := Lib.hid (R6.out.below BY.out)
              have KS : Hid (∀ Z, Below Y.heap.size Y Z → Z.cell? ⟨w7.heap.size, 0, none⟩ = some (.int .i64 (en : Int)) ∧ Z.cell? ⟨w7.heap.size, 1, none⟩ = some (.int .i64 (ae : Int))) := Lib.hid (fun Z hz => by
                have q : Z.heap[w7.heap.size]? = some (.cells #[.int .i64 (en : Int), .int .i64 (ae : Int)] 30 (0, 0)) := by rw [hz.block _ (lt_of_heap HY.out)]; exact HY.out
                exact ⟨cell_row q rfl, cell_row q rfl⟩)
              have RMC : Hid (∀ Z, Below Y.heap.size Y Z → Calls Try.prog 19 #[.pointer (some ⟨lg, 0, none⟩)] Z fun e w' => e = .returned (.int .i64 (0)) ∧ Below Y.heap.size Y w') := Lib.hid (fun Z hz => by
                refine (room_any (R7.out.below hz).wl.lg).mono ?_
                rintro e w' ⟨rfl, hb⟩
                exact ⟨by rw [ER.out], hz.trans (hb.mono hz.size)⟩)
              have PNC : Hid (∀ Z, Below Y.heap.size Y Z → Calls Try.prog 20 #[.pointer (some ⟨lg, 0, none⟩)] Z fun e w' => e = .returned (.int .i64 (cz : Int)) ∧ w' = Z) := Lib.hid (fun Z hz => by
                have q := pendL_any (R7.out.below hz).wl.lg
                rw [R7.out.ct] at q
                exact q)
              have B0 : Hid (Below Y.heap.size Y Y.drew) := Lib.hid (below_drawn Y 1)
              have hY' := hY.symm
              clear hY hb7 EC hae
              go_wp2_with fail
              go_region_held (fun W : World => W.cell? ⟨w7.heap.size, 0, none⟩ = some (.int .i64 (en : Int)) ∧ W.cell? ⟨w7.heap.size, 1, none⟩ = some (.int .i64 (ae : Int))) (first | exact KS.out _ hB8 | exact KS.out _ B0.out) (first | (go_at_call 19; refine (RMC.out _ B0.out).mono ?_; rintro r w8 ⟨rfl, hB8⟩) | (go_at_call 20; refine (PNC.out _ hB8).mono ?_; rintro r w9 ⟨rfl, rfl⟩))
              have R8 := Lib.hid (R7.out.below hB8)
              clear hB8 KS RMC PNC B0 hY'
              go_wp2_with fail
              go_roundg (n - (k + 1))
              case measure => have := R.out.1; omega
              case rel => exact ⟨k + 1, fr, en, bz, cz, cv, pv6, ds, s6, c, f, by omega, rfl, by go_num, rfl, rfl, rfl, rfl, R8.out⟩
      have e2 : decide (kind = 2) = false := decide_eq_false c2
      by_cases c3 : kind = 3
      · subst c3
        as_aux_lemma =>
          obtain ⟨ez, hez⟩ : ∃ ez, ez = en + T := ⟨_, rfl⟩
          obtain ⟨cz, hcz⟩ : ∃ cz, cz = c + T := ⟨_, rfl⟩
          obtain ⟨fz, hfz⟩ : ∃ fz, fz = f + 1 := ⟨_, rfl⟩
          obtain ⟨Fz, hFz⟩ : ∃ Fz, Fz = nn - (ez - fr) := ⟨_, rfl⟩
          obtain ⟨Uz, hUz⟩ : ∃ Uz, Uz = ez - fr := ⟨_, rfl⟩
          have g1 := G.out.2.2.1
          have g2 := G.out.2.1
          have g3 := G.out.2.2.2.1
          have g0 := G.out.1
          have cc := RX.out.c2
          have ff := RX.out.f2
          have c20 : c ≤ 100000000000000 := by omega
          have f20 : f ≤ 100000000000000 := by omega
          have eez : (en : Int) + (T : Int) = (ez : Int) := by omega
          have ecz : (c : Int) + (T : Int) = (cz : Int) := by omega
          have efz : (f : Int) + 1 = (fz : Int) := by omega
          have eUz : (ez : Int) - (fr : Int) = (Uz : Int) := by omega
          have TF : T ≤ F := by omega
          have eFz : (nn : Int) - (Uz : Int) = (Fz : Int) := by omega
          have Fz39 : Fz ≤ 39 := by omega
          have Uz39 : Uz ≤ 39 := by omega
          have SY := Lib.hid (rm_sync RX.out BB.out.2 bX.out (by omega) h39 T G.out.1)
          rw [← hez, ← hcz, ← hfz] at SY
          have GF : Hid (nn - (ez - fr) = Fz) := Lib.hid hFz.symm
          clear hez hcz hfz hFz hUz g0 g1 g2 g3 cc ff
          go_wp2_with fail
          refine SY.out.mono ?_
          rintro e wy ⟨cv6, pv6, ds6, s6, rfl, hry, hky⟩
          have Ry := Lib.hid hry
          have Cy : Hid (wy.heap[w4.heap.size]? = some (.cells #[.int .i64 ds.cr, .int .i64 (c : Int), .int .i64 (f : Int)] 46 (0, 0))) := Lib.hid (by rw [hky.block _ (lt_of_heap CX.out) (fun q => (OK.out _ q).2 rfl)]; exact CX.out)
          have CN := Lib.hid (counts_any Ry.out.wl.dv)
          rw [Ry.out.cw, Ry.out.cf] at CN
          clear hry hky SY y0 y2
          go_wp2_with fail
          refine CN.out.mono ?_
          rintro e wz ⟨rfl, hbz⟩
          obtain ⟨w6, h6⟩ : ∃ X, X = wz.alloc (.cells #[.int .i64 ds6.cr, .int .i64 (cz : Int), .int .i64 (fz : Int)] 46) := ⟨_, rfl⟩
          have Bz : Hid (Below wy.heap.size wy w6) := Lib.hid (by rw [h6]; exact hbz.trans ((Below.refl _ _).alloc hbz.size _))
          have R6 := Lib.hid (Ry.out.below Bz.out)
          have Hz : Hid (w6.heap[wz.heap.size]? = some (.cells #[.int .i64 ds6.cr, .int .i64 (cz : Int), .int .i64 (fz : Int)] 46 (0, 0))) := Lib.hid (by rw [h6]; exact heap_alloc_new _ _)
          have Hc : Hid (w6.heap[w4.heap.size]? = some (.cells #[.int .i64 ds.cr, .int .i64 (c : Int), .int .i64 (f : Int)] 46 (0, 0))) := Lib.hid (by rw [Bz.out.block _ (lt_of_heap Cy.out)]; exact Cy.out)
          have z1 : w6.cell? ⟨wz.heap.size, 1, none⟩ = some (.int .i64 (cz : Int)) := cell_row Hz.out rfl
          have z2 : w6.cell? ⟨wz.heap.size, 2, none⟩ = some (.int .i64 (fz : Int)) := cell_row Hz.out rfl
          have z3 : w6.cell? ⟨w4.heap.size, 1, none⟩ = some (.int .i64 (c : Int)) := cell_row Hc.out rfl
          have z4 : w6.cell? ⟨w4.heap.size, 2, none⟩ = some (.int .i64 (f : Int)) := cell_row Hc.out rfl
          have h6' := h6.symm
          clear h6 hbz CN
          go_wp2_with fail
          · have ER : Hid ((roomL s6 : Int) = 464 * (Fz : Int) - 4) := Lib.hid (by rw [R6.out.room (by omega) h39, GF.out]; omega)
            have EC := Lib.hid (rm_end R6.out)
            refine EC.out.mono ?_
            rintro e w7 ⟨rfl, hb7⟩
            obtain ⟨ae, hae⟩ : ∃ ae, ae = (3 + (ez - 5)) % nn := ⟨_, rfl⟩
            rw [← hae]
            have en5 : 5 ≤ ez := by have := R6.out.f5; have := R6.out.facts.1; omega
            have nn0 : (nn : Int) ≠ 0 := by omega
            have ea1 : ((3 : Int) + ((ez : Int) - 5)) % (nn : Int) = (ae : Int) := by
              have q : (3 : Int) + ((ez : Int) - 5) = ((3 + (ez - 5) : Nat) : Int) := by omega
              rw [q, hae]; simp
            obtain ⟨Y, hY⟩ : ∃ Y, Y = w7.alloc (.cells #[.int .i64 (ez : Int), .int .i64 (ae : Int)] 30) := ⟨_, rfl⟩
            have BY : Hid (Below w6.heap.size w6 Y) := Lib.hid (by rw [hY]; exact hb7.trans ((Below.refl _ _).alloc hb7.size _))
            have HY : Hid (Y.heap[w7.heap.size]? = some (.cells #[.int .i64 (ez : Int), .int .i64 (ae : Int)] 30 (0, 0))) := Lib.hid (by rw [hY]; exact heap_alloc_new _ _)
            have R7 := Lib.hid (R6.out.below BY.out)
            have KS : Hid (∀ Z, Below Y.heap.size Y Z → Z.cell? ⟨w7.heap.size, 0, none⟩ = some (.int .i64 (ez : Int)) ∧ Z.cell? ⟨w7.heap.size, 1, none⟩ = some (.int .i64 (ae : Int))) := Lib.hid (fun Z hz => by
              have q : Z.heap[w7.heap.size]? = some (.cells #[.int .i64 (ez : Int), .int .i64 (ae : Int)] 30 (0, 0)) := by rw [hz.block _ (lt_of_heap HY.out)]; exact HY.out
              exact ⟨cell_row q rfl, cell_row q rfl⟩)
            have RMC : Hid (∀ Z, Below Y.heap.size Y Z → Calls Try.prog 19 #[.pointer (some ⟨lg, 0, none⟩)] Z fun e w' => e = .returned (.int .i64 (464 * (Fz : Int) - 4)) ∧ Below Y.heap.size Y w') := Lib.hid (fun Z hz => by
              refine (room_any (R7.out.below hz).wl.lg).mono ?_
              rintro e w' ⟨rfl, hb⟩
              exact ⟨by rw [ER.out], hz.trans (hb.mono hz.size)⟩)
            have PNC : Hid (∀ Z, Below Y.heap.size Y Z → Calls Try.prog 20 #[.pointer (some ⟨lg, 0, none⟩)] Z fun e w' => e = .returned (.int .i64 (0 : Int)) ∧ w' = Z) := Lib.hid (fun Z hz => by
              have q := pendL_any (R7.out.below hz).wl.lg
              rw [R7.out.ct] at q
              exact q)
            have B0 : Hid (Below Y.heap.size Y Y.drew) := Lib.hid (below_drawn Y 1)
            have hY' := hY.symm
            clear hY hb7 EC hae
            go_wp2_with fail
            go_region_held (fun W : World => W.cell? ⟨w7.heap.size, 0, none⟩ = some (.int .i64 (ez : Int)) ∧ W.cell? ⟨w7.heap.size, 1, none⟩ = some (.int .i64 (ae : Int))) (first | exact KS.out _ hB8 | exact KS.out _ B0.out) (first | (go_at_call 19; refine (RMC.out _ B0.out).mono ?_; rintro r w8 ⟨rfl, hB8⟩) | (go_at_call 20; refine (PNC.out _ hB8).mono ?_; rintro r w9 ⟨rfl, rfl⟩))
            have R8 := Lib.hid (R7.out.below hB8)
            clear hB8 KS RMC PNC B0 hY'
            go_wp2_with fail
            go_roundg (n - (k + 1))
            case measure => have := R.out.1; omega
            case rel => exact ⟨k + 1, fr, ez, 0, 0, cv6, pv6, ds6, s6, cz, fz, by omega, rfl, by go_num, rfl, rfl, rfl, rfl, R8.out⟩
          · have ER : Hid ((roomL s6 : Int) = 0) := Lib.hid (by rw [R6.out.room (by omega) h39, GF.out]; omega)
            have EC := Lib.hid (rm_end R6.out)
            refine EC.out.mono ?_
            rintro e w7 ⟨rfl, hb7⟩
            obtain ⟨ae, hae⟩ : ∃ ae, ae = (3 + (ez - 5)) % nn := ⟨_, rfl⟩
            rw [← hae]
            have en5 : 5 ≤ ez := by have := R6.out.f5; have := R6.out.facts.1; omega
            have nn0 : (nn : Int) ≠ 0 := by omega
            have ea1 : ((3 : Int) + ((ez : Int) - 5)) % (nn : Int) = (ae : Int) := by
              have q : (3 : Int) + ((ez : Int) - 5) = ((3 + (ez - 5) : Nat) : Int) := by omega
              rw [q, hae]; simp
            obtain ⟨Y, hY⟩ : ∃ Y, Y = w7.alloc (.cells #[.int .i64 (ez : Int), .int .i64 (ae : Int)] 30) := ⟨_, rfl⟩
            have BY : Hid (Below w6.heap.size w6 Y) := Lib.hid (by rw [hY]; exact hb7.trans ((Below.refl _ _).alloc hb7.size _))
            have HY : Hid (Y.heap[w7.heap.size]? = some (.cells #[.int .i64 (ez : Int), .int .i64 (ae : Int)] 30 (0, 0))) := Lib.hid (by rw [hY]; exact heap_alloc_new _ _)
            have R7 := Lib.hid (R6.out.below BY.out)
            have KS : Hid (∀ Z, Below Y.heap.size Y Z → Z.cell? ⟨w7.heap.size, 0, none⟩ = some (.int .i64 (ez : Int)) ∧ Z.cell? ⟨w7.heap.size, 1, none⟩ = some (.int .i64 (ae : Int))) := Lib.hid (fun Z hz => by
              have q : Z.heap[w7.heap.size]? = some (.cells #[.int .i64 (ez : Int), .int .i64 (ae : Int)] 30 (0, 0)) := by rw [hz.block _ (lt_of_heap HY.out)]; exact HY.out
              exact ⟨cell_row q rfl, cell_row q rfl⟩)
            have RMC : Hid (∀ Z, Below Y.heap.size Y Z → Calls Try.prog 19 #[.pointer (some ⟨lg, 0, none⟩)] Z fun e w' => e = .returned (.int .i64 (0)) ∧ Below Y.heap.size Y w') := Lib.hid (fun Z hz => by
              refine (room_any (R7.out.below hz).wl.lg).mono ?_
              rintro e w' ⟨rfl, hb⟩
              exact ⟨by rw [ER.out], hz.trans (hb.mono hz.size)⟩)
            have PNC : Hid (∀ Z, Below Y.heap.size Y Z → Calls Try.prog 20 #[.pointer (some ⟨lg, 0, none⟩)] Z fun e w' => e = .returned (.int .i64 (0 : Int)) ∧ w' = Z) := Lib.hid (fun Z hz => by
              have q := pendL_any (R7.out.below hz).wl.lg
              rw [R7.out.ct] at q
              exact q)
            have B0 : Hid (Below Y.heap.size Y Y.drew) := Lib.hid (below_drawn Y 1)
            have hY' := hY.symm
            clear hY hb7 EC hae
            go_wp2_with fail
            go_region_held (fun W : World => W.cell? ⟨w7.heap.size, 0, none⟩ = some (.int .i64 (ez : Int)) ∧ W.cell? ⟨w7.heap.size, 1, none⟩ = some (.int .i64 (ae : Int))) (first | exact KS.out _ hB8 | exact KS.out _ B0.out) (first | (go_at_call 19; refine (RMC.out _ B0.out).mono ?_; rintro r w8 ⟨rfl, hB8⟩) | (go_at_call 20; refine (PNC.out _ hB8).mono ?_; rintro r w9 ⟨rfl, rfl⟩))
            have R8 := Lib.hid (R7.out.below hB8)
            clear hB8 KS RMC PNC B0 hY'
            go_wp2_with fail
            go_roundg (n - (k + 1))
            case measure => have := R.out.1; omega
            case rel => exact ⟨k + 1, fr, ez, 0, 0, cv6, pv6, ds6, s6, cz, fz, by omega, rfl, by go_num, rfl, rfl, rfl, rfl, R8.out⟩
      have e3 : decide (kind = 3) = false := decide_eq_false c3
      by_cases c4 : kind = 4
      · subst c4
        as_aux_lemma =>
          have DR := Lib.hid (rm_drop RX.out BB.out.2 bX.out)
          have GF : Hid (nn - (en - fr) = F) := Lib.hid G.out.2.1
          go_wp2_with fail
          refine DR.out.mono ?_
          rintro e w6 ⟨s6, rfl, hr6, hk6⟩
          have R6 := Lib.hid hr6
          clear hr6 hk6 DR y0 y2
          go_wp2_with fail
          · have ER : Hid ((roomL s6 : Int) = 464 * (F : Int) - 4) := Lib.hid (by rw [R6.out.room (by omega) h39, GF.out]; omega)
            have EC := Lib.hid (rm_end R6.out)
            refine EC.out.mono ?_
            rintro e w7 ⟨rfl, hb7⟩
            obtain ⟨ae, hae⟩ : ∃ ae, ae = (3 + (en - 5)) % nn := ⟨_, rfl⟩
            rw [← hae]
            have en5 : 5 ≤ en := by have := R6.out.f5; have := R6.out.facts.1; omega
            have nn0 : (nn : Int) ≠ 0 := by omega
            have ea1 : ((3 : Int) + ((en : Int) - 5)) % (nn : Int) = (ae : Int) := by
              have q : (3 : Int) + ((en : Int) - 5) = ((3 + (en - 5) : Nat) : Int) := by omega
              rw [q, hae]; simp
            obtain ⟨Y, hY⟩ : ∃ Y, Y = w7.alloc (.cells #[.int .i64 (en : Int), .int .i64 (ae : Int)] 30) := ⟨_, rfl⟩
            have BY : Hid (Below w6.heap.size w6 Y) := Lib.hid (by rw [hY]; exact hb7.trans ((Below.refl _ _).alloc hb7.size _))
            have HY : Hid (Y.heap[w7.heap.size]? = some (.cells #[.int .i64 (en : Int), .int .i64 (ae : Int)] 30 (0, 0))) := Lib.hid (by rw [hY]; exact heap_alloc_new _ _)
            have R7 := Lib.hid (R6.out.below BY.out)
            have KS : Hid (∀ Z, Below Y.heap.size Y Z → Z.cell? ⟨w7.heap.size, 0, none⟩ = some (.int .i64 (en : Int)) ∧ Z.cell? ⟨w7.heap.size, 1, none⟩ = some (.int .i64 (ae : Int))) := Lib.hid (fun Z hz => by
              have q : Z.heap[w7.heap.size]? = some (.cells #[.int .i64 (en : Int), .int .i64 (ae : Int)] 30 (0, 0)) := by rw [hz.block _ (lt_of_heap HY.out)]; exact HY.out
              exact ⟨cell_row q rfl, cell_row q rfl⟩)
            have RMC : Hid (∀ Z, Below Y.heap.size Y Z → Calls Try.prog 19 #[.pointer (some ⟨lg, 0, none⟩)] Z fun e w' => e = .returned (.int .i64 (464 * (F : Int) - 4)) ∧ Below Y.heap.size Y w') := Lib.hid (fun Z hz => by
              refine (room_any (R7.out.below hz).wl.lg).mono ?_
              rintro e w' ⟨rfl, hb⟩
              exact ⟨by rw [ER.out], hz.trans (hb.mono hz.size)⟩)
            have PNC : Hid (∀ Z, Below Y.heap.size Y Z → Calls Try.prog 20 #[.pointer (some ⟨lg, 0, none⟩)] Z fun e w' => e = .returned (.int .i64 (0 : Int)) ∧ w' = Z) := Lib.hid (fun Z hz => by
              have q := pendL_any (R7.out.below hz).wl.lg
              rw [R7.out.ct] at q
              exact q)
            have B0 : Hid (Below Y.heap.size Y Y.drew) := Lib.hid (below_drawn Y 1)
            have hY' := hY.symm
            clear hY hb7 EC hae
            go_wp2_with fail
            go_region_held (fun W : World => W.cell? ⟨w7.heap.size, 0, none⟩ = some (.int .i64 (en : Int)) ∧ W.cell? ⟨w7.heap.size, 1, none⟩ = some (.int .i64 (ae : Int))) (first | exact KS.out _ hB8 | exact KS.out _ B0.out) (first | (go_at_call 19; refine (RMC.out _ B0.out).mono ?_; rintro r w8 ⟨rfl, hB8⟩) | (go_at_call 20; refine (PNC.out _ hB8).mono ?_; rintro r w9 ⟨rfl, rfl⟩))
            have R8 := Lib.hid (R7.out.below hB8)
            clear hB8 KS RMC PNC B0 hY'
            go_wp2_with fail
            go_roundg (n - (k + 1))
            case measure => have := R.out.1; omega
            case rel => exact ⟨k + 1, fr, en, 0, 0, cv, (.slice none 0 0), ds, s6, c, f, by omega, rfl, by go_num, rfl, rfl, rfl, rfl, R8.out⟩
          · have ER : Hid ((roomL s6 : Int) = 0) := Lib.hid (by rw [R6.out.room (by omega) h39, GF.out]; omega)
            have EC := Lib.hid (rm_end R6.out)
            refine EC.out.mono ?_
            rintro e w7 ⟨rfl, hb7⟩
            obtain ⟨ae, hae⟩ : ∃ ae, ae = (3 + (en - 5)) % nn := ⟨_, rfl⟩
            rw [← hae]
            have en5 : 5 ≤ en := by have := R6.out.f5; have := R6.out.facts.1; omega
            have nn0 : (nn : Int) ≠ 0 := by omega
            have ea1 : ((3 : Int) + ((en : Int) - 5)) % (nn : Int) = (ae : Int) := by
              have q : (3 : Int) + ((en : Int) - 5) = ((3 + (en - 5) : Nat) : Int) := by omega
              rw [q, hae]; simp
            obtain ⟨Y, hY⟩ : ∃ Y, Y = w7.alloc (.cells #[.int .i64 (en : Int), .int .i64 (ae : Int)] 30) := ⟨_, rfl⟩
            have BY : Hid (Below w6.heap.size w6 Y) := Lib.hid (by rw [hY]; exact hb7.trans ((Below.refl _ _).alloc hb7.size _))
            have HY : Hid (Y.heap[w7.heap.size]? = some (.cells #[.int .i64 (en : Int), .int .i64 (ae : Int)] 30 (0, 0))) := Lib.hid (by rw [hY]; exact heap_alloc_new _ _)
            have R7 := Lib.hid (R6.out.below BY.out)
            have KS : Hid (∀ Z, Below Y.heap.size Y Z → Z.cell? ⟨w7.heap.size, 0, none⟩ = some (.int .i64 (en : Int)) ∧ Z.cell? ⟨w7.heap.size, 1, none⟩ = some (.int .i64 (ae : Int))) := Lib.hid (fun Z hz => by
              have q : Z.heap[w7.heap.size]? = some (.cells #[.int .i64 (en : Int), .int .i64 (ae : Int)] 30 (0, 0)) := by rw [hz.block _ (lt_of_heap HY.out)]; exact HY.out
              exact ⟨cell_row q rfl, cell_row q rfl⟩)
            have RMC : Hid (∀ Z, Below Y.heap.size Y Z → Calls Try.prog 19 #[.pointer (some ⟨lg, 0, none⟩)] Z fun e w' => e = .returned (.int .i64 (0)) ∧ Below Y.heap.size Y w') := Lib.hid (fun Z hz => by
              refine (room_any (R7.out.below hz).wl.lg).mono ?_
              rintro e w' ⟨rfl, hb⟩
              exact ⟨by rw [ER.out], hz.trans (hb.mono hz.size)⟩)
            have PNC : Hid (∀ Z, Below Y.heap.size Y Z → Calls Try.prog 20 #[.pointer (some ⟨lg, 0, none⟩)] Z fun e w' => e = .returned (.int .i64 (0 : Int)) ∧ w' = Z) := Lib.hid (fun Z hz => by
              have q := pendL_any (R7.out.below hz).wl.lg
              rw [R7.out.ct] at q
              exact q)
            have B0 : Hid (Below Y.heap.size Y Y.drew) := Lib.hid (below_drawn Y 1)
            have hY' := hY.symm
            clear hY hb7 EC hae
            go_wp2_with fail
            go_region_held (fun W : World => W.cell? ⟨w7.heap.size, 0, none⟩ = some (.int .i64 (en : Int)) ∧ W.cell? ⟨w7.heap.size, 1, none⟩ = some (.int .i64 (ae : Int))) (first | exact KS.out _ hB8 | exact KS.out _ B0.out) (first | (go_at_call 19; refine (RMC.out _ B0.out).mono ?_; rintro r w8 ⟨rfl, hB8⟩) | (go_at_call 20; refine (PNC.out _ hB8).mono ?_; rintro r w9 ⟨rfl, rfl⟩))
            have R8 := Lib.hid (R7.out.below hB8)
            clear hB8 KS RMC PNC B0 hY'
            go_wp2_with fail
            go_roundg (n - (k + 1))
            case measure => have := R.out.1; omega
            case rel => exact ⟨k + 1, fr, en, 0, 0, cv, (.slice none 0 0), ds, s6, c, f, by omega, rfl, by go_num, rfl, rfl, rfl, rfl, R8.out⟩
      have e4 : decide (kind = 4) = false := decide_eq_false c4
      by_cases c9 : kind = 9
      · subst c9
        as_aux_lemma =>
          have EE := Lib.hid (rm_end RX.out)
          go_wp2_with fail
          refine EE.out.mono ?_
          rintro e wy ⟨rfl, hby⟩
          have By := Lib.hid hby
          have CU := Lib.hid (rm_cut (RX.out.below By.out) BB.out.2 (Nat.le_trans bX.out By.out.size))
          have GF : Hid (nn - (en - en) = nn) := Lib.hid (by omega)
          clear hby EE y0 y2
          go_wp2_with fail
          refine CU.out.mono ?_
          rintro e w6 ⟨s6, rfl, hr6, hk6⟩
          have R6 := Lib.hid hr6
          clear hr6 hk6 CU
          go_wp2_with fail
          · have ER : Hid ((roomL s6 : Int) = 464 * (nn : Int) - (by_ : Int) - 4) := Lib.hid (by rw [R6.out.room (by omega) h39, GF.out]; omega)
            have EC := Lib.hid (rm_end R6.out)
            refine EC.out.mono ?_
            rintro e w7 ⟨rfl, hb7⟩
            obtain ⟨ae, hae⟩ : ∃ ae, ae = (3 + (en - 5)) % nn := ⟨_, rfl⟩
            rw [← hae]
            have en5 : 5 ≤ en := by have := R6.out.f5; have := R6.out.facts.1; omega
            have nn0 : (nn : Int) ≠ 0 := by omega
            have ea1 : ((3 : Int) + ((en : Int) - 5)) % (nn : Int) = (ae : Int) := by
              have q : (3 : Int) + ((en : Int) - 5) = ((3 + (en - 5) : Nat) : Int) := by omega
              rw [q, hae]; simp
            obtain ⟨Y, hY⟩ : ∃ Y, Y = w7.alloc (.cells #[.int .i64 (en : Int), .int .i64 (ae : Int)] 30) := ⟨_, rfl⟩
            have BY : Hid (Below w6.heap.size w6 Y) := Lib.hid (by rw [hY]; exact hb7.trans ((Below.refl _ _).alloc hb7.size _))
            have HY : Hid (Y.heap[w7.heap.size]? = some (.cells #[.int .i64 (en : Int), .int .i64 (ae : Int)] 30 (0, 0))) := Lib.hid (by rw [hY]; exact heap_alloc_new _ _)
            have R7 := Lib.hid (R6.out.below BY.out)
            have KS : Hid (∀ Z, Below Y.heap.size Y Z → Z.cell? ⟨w7.heap.size, 0, none⟩ = some (.int .i64 (en : Int)) ∧ Z.cell? ⟨w7.heap.size, 1, none⟩ = some (.int .i64 (ae : Int))) := Lib.hid (fun Z hz => by
              have q : Z.heap[w7.heap.size]? = some (.cells #[.int .i64 (en : Int), .int .i64 (ae : Int)] 30 (0, 0)) := by rw [hz.block _ (lt_of_heap HY.out)]; exact HY.out
              exact ⟨cell_row q rfl, cell_row q rfl⟩)
            have RMC : Hid (∀ Z, Below Y.heap.size Y Z → Calls Try.prog 19 #[.pointer (some ⟨lg, 0, none⟩)] Z fun e w' => e = .returned (.int .i64 (464 * (nn : Int) - (by_ : Int) - 4)) ∧ Below Y.heap.size Y w') := Lib.hid (fun Z hz => by
              refine (room_any (R7.out.below hz).wl.lg).mono ?_
              rintro e w' ⟨rfl, hb⟩
              exact ⟨by rw [ER.out], hz.trans (hb.mono hz.size)⟩)
            have PNC : Hid (∀ Z, Below Y.heap.size Y Z → Calls Try.prog 20 #[.pointer (some ⟨lg, 0, none⟩)] Z fun e w' => e = .returned (.int .i64 (ct : Int)) ∧ w' = Z) := Lib.hid (fun Z hz => by
              have q := pendL_any (R7.out.below hz).wl.lg
              rw [R7.out.ct] at q
              exact q)
            have B0 : Hid (Below Y.heap.size Y Y.drew) := Lib.hid (below_drawn Y 1)
            have hY' := hY.symm
            clear hY hb7 EC hae
            go_wp2_with fail
            go_region_held (fun W : World => W.cell? ⟨w7.heap.size, 0, none⟩ = some (.int .i64 (en : Int)) ∧ W.cell? ⟨w7.heap.size, 1, none⟩ = some (.int .i64 (ae : Int))) (first | exact KS.out _ hB8 | exact KS.out _ B0.out) (first | (go_at_call 19; refine (RMC.out _ B0.out).mono ?_; rintro r w8 ⟨rfl, hB8⟩) | (go_at_call 20; refine (PNC.out _ hB8).mono ?_; rintro r w9 ⟨rfl, rfl⟩))
            have R8 := Lib.hid (R7.out.below hB8)
            clear hB8 KS RMC PNC B0 hY'
            go_wp2_with fail
            go_roundg (n - (k + 1))
            case measure => have := R.out.1; omega
            case rel => exact ⟨k + 1, en, en, by_, ct, cv, pv, ds, s6, c, f, by omega, rfl, by go_num, rfl, rfl, rfl, rfl, R8.out⟩
          · have ER : Hid ((roomL s6 : Int) = 0) := Lib.hid (by rw [R6.out.room (by omega) h39, GF.out]; omega)
            have EC := Lib.hid (rm_end R6.out)
            refine EC.out.mono ?_
            rintro e w7 ⟨rfl, hb7⟩
            obtain ⟨ae, hae⟩ : ∃ ae, ae = (3 + (en - 5)) % nn := ⟨_, rfl⟩
            rw [← hae]
            have en5 : 5 ≤ en := by have := R6.out.f5; have := R6.out.facts.1; omega
            have nn0 : (nn : Int) ≠ 0 := by omega
            have ea1 : ((3 : Int) + ((en : Int) - 5)) % (nn : Int) = (ae : Int) := by
              have q : (3 : Int) + ((en : Int) - 5) = ((3 + (en - 5) : Nat) : Int) := by omega
              rw [q, hae]; simp
            obtain ⟨Y, hY⟩ : ∃ Y, Y = w7.alloc (.cells #[.int .i64 (en : Int), .int .i64 (ae : Int)] 30) := ⟨_, rfl⟩
            have BY : Hid (Below w6.heap.size w6 Y) := Lib.hid (by rw [hY]; exact hb7.trans ((Below.refl _ _).alloc hb7.size _))
            have HY : Hid (Y.heap[w7.heap.size]? = some (.cells #[.int .i64 (en : Int), .int .i64 (ae : Int)] 30 (0, 0))) := Lib.hid (by rw [hY]; exact heap_alloc_new _ _)
            have R7 := Lib.hid (R6.out.below BY.out)
            have KS : Hid (∀ Z, Below Y.heap.size Y Z → Z.cell? ⟨w7.heap.size, 0, none⟩ = some (.int .i64 (en : Int)) ∧ Z.cell? ⟨w7.heap.size, 1, none⟩ = some (.int .i64 (ae : Int))) := Lib.hid (fun Z hz => by
              have q : Z.heap[w7.heap.size]? = some (.cells #[.int .i64 (en : Int), .int .i64 (ae : Int)] 30 (0, 0)) := by rw [hz.block _ (lt_of_heap HY.out)]; exact HY.out
              exact ⟨cell_row q rfl, cell_row q rfl⟩)
            have RMC : Hid (∀ Z, Below Y.heap.size Y Z → Calls Try.prog 19 #[.pointer (some ⟨lg, 0, none⟩)] Z fun e w' => e = .returned (.int .i64 (0)) ∧ Below Y.heap.size Y w') := Lib.hid (fun Z hz => by
              refine (room_any (R7.out.below hz).wl.lg).mono ?_
              rintro e w' ⟨rfl, hb⟩
              exact ⟨by rw [ER.out], hz.trans (hb.mono hz.size)⟩)
            have PNC : Hid (∀ Z, Below Y.heap.size Y Z → Calls Try.prog 20 #[.pointer (some ⟨lg, 0, none⟩)] Z fun e w' => e = .returned (.int .i64 (ct : Int)) ∧ w' = Z) := Lib.hid (fun Z hz => by
              have q := pendL_any (R7.out.below hz).wl.lg
              rw [R7.out.ct] at q
              exact q)
            have B0 : Hid (Below Y.heap.size Y Y.drew) := Lib.hid (below_drawn Y 1)
            have hY' := hY.symm
            clear hY hb7 EC hae
            go_wp2_with fail
            go_region_held (fun W : World => W.cell? ⟨w7.heap.size, 0, none⟩ = some (.int .i64 (en : Int)) ∧ W.cell? ⟨w7.heap.size, 1, none⟩ = some (.int .i64 (ae : Int))) (first | exact KS.out _ hB8 | exact KS.out _ B0.out) (first | (go_at_call 19; refine (RMC.out _ B0.out).mono ?_; rintro r w8 ⟨rfl, hB8⟩) | (go_at_call 20; refine (PNC.out _ hB8).mono ?_; rintro r w9 ⟨rfl, rfl⟩))
            have R8 := Lib.hid (R7.out.below hB8)
            clear hB8 KS RMC PNC B0 hY'
            go_wp2_with fail
            go_roundg (n - (k + 1))
            case measure => have := R.out.1; omega
            case rel => exact ⟨k + 1, en, en, by_, ct, cv, pv, ds, s6, c, f, by omega, rfl, by go_num, rfl, rfl, rfl, rfl, R8.out⟩
      have e9 : decide (kind = 9) = false := decide_eq_false c9
      as_aux_lemma =>
        have R6 := Lib.hid RX.out.up
        have GF : Hid (nn - (en - fr) = F) := Lib.hid G.out.2.1
        go_wp2_with fail
        · have ER : Hid ((roomL s : Int) = 464 * (F : Int) - (by_ : Int) - 4) := Lib.hid (by rw [R6.out.room (by omega) h39, GF.out]; omega)
          have EC := Lib.hid (rm_end R6.out)
          refine EC.out.mono ?_
          rintro e w7 ⟨rfl, hb7⟩
          obtain ⟨ae, hae⟩ : ∃ ae, ae = (3 + (en - 5)) % nn := ⟨_, rfl⟩
          rw [← hae]
          have en5 : 5 ≤ en := by have := R6.out.f5; have := R6.out.facts.1; omega
          have nn0 : (nn : Int) ≠ 0 := by omega
          have ea1 : ((3 : Int) + ((en : Int) - 5)) % (nn : Int) = (ae : Int) := by
            have q : (3 : Int) + ((en : Int) - 5) = ((3 + (en - 5) : Nat) : Int) := by omega
            rw [q, hae]; simp
          obtain ⟨Y, hY⟩ : ∃ Y, Y = w7.alloc (.cells #[.int .i64 (en : Int), .int .i64 (ae : Int)] 30) := ⟨_, rfl⟩
          have BY : Hid (Below X.heap.size X Y) := Lib.hid (by rw [hY]; exact hb7.trans ((Below.refl _ _).alloc hb7.size _))
          have HY : Hid (Y.heap[w7.heap.size]? = some (.cells #[.int .i64 (en : Int), .int .i64 (ae : Int)] 30 (0, 0))) := Lib.hid (by rw [hY]; exact heap_alloc_new _ _)
          have R7 := Lib.hid (R6.out.below BY.out)
          have KS : Hid (∀ Z, Below Y.heap.size Y Z → Z.cell? ⟨w7.heap.size, 0, none⟩ = some (.int .i64 (en : Int)) ∧ Z.cell? ⟨w7.heap.size, 1, none⟩ = some (.int .i64 (ae : Int))) := Lib.hid (fun Z hz => by
            have q : Z.heap[w7.heap.size]? = some (.cells #[.int .i64 (en : Int), .int .i64 (ae : Int)] 30 (0, 0)) := by rw [hz.block _ (lt_of_heap HY.out)]; exact HY.out
            exact ⟨cell_row q rfl, cell_row q rfl⟩)
          have RMC : Hid (∀ Z, Below Y.heap.size Y Z → Calls Try.prog 19 #[.pointer (some ⟨lg, 0, none⟩)] Z fun e w' => e = .returned (.int .i64 (464 * (F : Int) - (by_ : Int) - 4)) ∧ Below Y.heap.size Y w') := Lib.hid (fun Z hz => by
            refine (room_any (R7.out.below hz).wl.lg).mono ?_
            rintro e w' ⟨rfl, hb⟩
            exact ⟨by rw [ER.out], hz.trans (hb.mono hz.size)⟩)
          have PNC : Hid (∀ Z, Below Y.heap.size Y Z → Calls Try.prog 20 #[.pointer (some ⟨lg, 0, none⟩)] Z fun e w' => e = .returned (.int .i64 (ct : Int)) ∧ w' = Z) := Lib.hid (fun Z hz => by
            have q := pendL_any (R7.out.below hz).wl.lg
            rw [R7.out.ct] at q
            exact q)
          have B0 : Hid (Below Y.heap.size Y Y.drew) := Lib.hid (below_drawn Y 1)
          have hY' := hY.symm
          clear hY hb7 EC hae
          go_wp2_with fail
          go_region_held (fun W : World => W.cell? ⟨w7.heap.size, 0, none⟩ = some (.int .i64 (en : Int)) ∧ W.cell? ⟨w7.heap.size, 1, none⟩ = some (.int .i64 (ae : Int))) (first | exact KS.out _ hB8 | exact KS.out _ B0.out) (first | (go_at_call 19; refine (RMC.out _ B0.out).mono ?_; rintro r w8 ⟨rfl, hB8⟩) | (go_at_call 20; refine (PNC.out _ hB8).mono ?_; rintro r w9 ⟨rfl, rfl⟩))
          have R8 := Lib.hid (R7.out.below hB8)
          clear hB8 KS RMC PNC B0 hY'
          go_wp2_with fail
          go_roundg (n - (k + 1))
          case measure => have := R.out.1; omega
          case rel => exact ⟨k + 1, fr, en, by_, ct, cv, pv, ds, s, c, f, by omega, rfl, by go_num, rfl, rfl, rfl, rfl, R8.out⟩
        · have ER : Hid ((roomL s : Int) = 0) := Lib.hid (by rw [R6.out.room (by omega) h39, GF.out]; omega)
          have EC := Lib.hid (rm_end R6.out)
          refine EC.out.mono ?_
          rintro e w7 ⟨rfl, hb7⟩
          obtain ⟨ae, hae⟩ : ∃ ae, ae = (3 + (en - 5)) % nn := ⟨_, rfl⟩
          rw [← hae]
          have en5 : 5 ≤ en := by have := R6.out.f5; have := R6.out.facts.1; omega
          have nn0 : (nn : Int) ≠ 0 := by omega
          have ea1 : ((3 : Int) + ((en : Int) - 5)) % (nn : Int) = (ae : Int) := by
            have q : (3 : Int) + ((en : Int) - 5) = ((3 + (en - 5) : Nat) : Int) := by omega
            rw [q, hae]; simp
          obtain ⟨Y, hY⟩ : ∃ Y, Y = w7.alloc (.cells #[.int .i64 (en : Int), .int .i64 (ae : Int)] 30) := ⟨_, rfl⟩
          have BY : Hid (Below X.heap.size X Y) := Lib.hid (by rw [hY]; exact hb7.trans ((Below.refl _ _).alloc hb7.size _))
          have HY : Hid (Y.heap[w7.heap.size]? = some (.cells #[.int .i64 (en : Int), .int .i64 (ae : Int)] 30 (0, 0))) := Lib.hid (by rw [hY]; exact heap_alloc_new _ _)
          have R7 := Lib.hid (R6.out.below BY.out)
          have KS : Hid (∀ Z, Below Y.heap.size Y Z → Z.cell? ⟨w7.heap.size, 0, none⟩ = some (.int .i64 (en : Int)) ∧ Z.cell? ⟨w7.heap.size, 1, none⟩ = some (.int .i64 (ae : Int))) := Lib.hid (fun Z hz => by
            have q : Z.heap[w7.heap.size]? = some (.cells #[.int .i64 (en : Int), .int .i64 (ae : Int)] 30 (0, 0)) := by rw [hz.block _ (lt_of_heap HY.out)]; exact HY.out
            exact ⟨cell_row q rfl, cell_row q rfl⟩)
          have RMC : Hid (∀ Z, Below Y.heap.size Y Z → Calls Try.prog 19 #[.pointer (some ⟨lg, 0, none⟩)] Z fun e w' => e = .returned (.int .i64 (0)) ∧ Below Y.heap.size Y w') := Lib.hid (fun Z hz => by
            refine (room_any (R7.out.below hz).wl.lg).mono ?_
            rintro e w' ⟨rfl, hb⟩
            exact ⟨by rw [ER.out], hz.trans (hb.mono hz.size)⟩)
          have PNC : Hid (∀ Z, Below Y.heap.size Y Z → Calls Try.prog 20 #[.pointer (some ⟨lg, 0, none⟩)] Z fun e w' => e = .returned (.int .i64 (ct : Int)) ∧ w' = Z) := Lib.hid (fun Z hz => by
            have q := pendL_any (R7.out.below hz).wl.lg
            rw [R7.out.ct] at q
            exact q)
          have B0 : Hid (Below Y.heap.size Y Y.drew) := Lib.hid (below_drawn Y 1)
          have hY' := hY.symm
          clear hY hb7 EC hae
          go_wp2_with fail
          go_region_held (fun W : World => W.cell? ⟨w7.heap.size, 0, none⟩ = some (.int .i64 (en : Int)) ∧ W.cell? ⟨w7.heap.size, 1, none⟩ = some (.int .i64 (ae : Int))) (first | exact KS.out _ hB8 | exact KS.out _ B0.out) (first | (go_at_call 19; refine (RMC.out _ B0.out).mono ?_; rintro r w8 ⟨rfl, hB8⟩) | (go_at_call 20; refine (PNC.out _ hB8).mono ?_; rintro r w9 ⟨rfl, rfl⟩))
          have R8 := Lib.hid (R7.out.below hB8)
          clear hB8 KS RMC PNC B0 hY'
          go_wp2_with fail
          go_roundg (n - (k + 1))
          case measure => have := R.out.1; omega
          case rel => exact ⟨k + 1, fr, en, by_, ct, cv, pv, ds, s, c, f, by omega, rfl, by go_num, rfl, rfl, rfl, rfl, R8.out⟩
    · have hge : ¬ (k : Int) < (n : Int) := by omega
      go_wp2_with fail
      go_ret
      exact ⟨rfl, R.out.2.bel⟩
end Go.Proofs.Ytddnplpaoldbpaa
