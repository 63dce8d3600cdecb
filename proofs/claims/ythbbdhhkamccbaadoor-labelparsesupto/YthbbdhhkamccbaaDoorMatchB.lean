/-
  Match: of every terms and labels.
-/
import Derived.Test.YthbbdhhkamccbaaDoorMatchA
namespace Go.Proofs.YthbbdhhkamccbaaDoor
open Go.RowKit Go.Sort Go.Maps
set_option maxHeartbeats 8000000 in
set_option maxRecDepth 100000 in
theorem match_any (v vl : Value) (xs : List Trm) (ls : List Lbl) (w : World) (hv : Trms w v xs) (hl : Lbls w vl ls) :
    Calls Tryd.prog 17 #[v, vl] w fun e w' => e = .returned (.tuple #[.bool (matchR xs ls).1, .int .i64 (matchR xs ls).2]) ∧ Below w.heap.size w w' := by
  have V := Lib.hid hv
  have L := Lib.hid hl
  have VT := Lib.hid (terms_every v xs w hv)
  obtain ⟨_, a, cap, rfl, hlc, hcm, _, _⟩ := hv
  obtain ⟨al, cl, rfl, hlcl, hcml⟩ := hl.len
  unfold maxLen at hcm hcml
  cases ht : termsB xs with
  | false =>
    rw [ht] at VT
    have hr : Hid (matchR xs ls = (false, 43)) := Lib.hid (by unfold matchR; rw [if_neg (by rw [ht]; simp)])
    go_enter Tryd.func17, Tryd.ntmps17
    go_wp2_with fail
    refine VT.out.mono ?_
    rintro e w1 ⟨rfl, hb⟩
    have B1 := Lib.hid hb
    clear hb
    go_wp2_with fail
    go_ret2
    exact ⟨by rw [hr.out]; rfl, B1.out⟩
  | true =>
    rw [ht] at VT
    have VL := Lib.hid fun W (hb : Below w.heap.size w W) => valid_any (.slice al ls.length cl) ls W (L.out.below hb)
    cases hok : lblsB ls with
    | false =>
      have hr : Hid (matchR xs ls = (false, 42)) := Lib.hid (by unfold matchR; rw [if_pos ht, if_neg (by rw [hok]; simp)])
      have hE : validE ls = 42 := by unfold validE; rw [hok]; rfl
      rw [hE] at VL
      clear hE
      go_enter Tryd.func17, Tryd.ntmps17
      go_wp2_with fail
      refine VT.out.mono ?_
      rintro e w1 ⟨rfl, hb⟩
      have B1 := Lib.hid hb
      clear hb
      go_wp2_with fail
      refine (VL.out w1 B1.out).mono ?_
      rintro e w2 ⟨rfl, hb⟩
      have B2 := Lib.hid (B1.out.trans (hb.mono B1.out.size))
      clear hb
      go_wp2_with fail
      go_ret2
      exact ⟨by rw [hr.out]; rfl, B2.out⟩
    | true =>
      have hr : Hid (matchR xs ls = (xs.all (fun x => holdsB x ls), 0)) := Lib.hid (by unfold matchR; rw [if_pos ht, if_pos hok])
      have hE : validE ls = 0 := by unfold validE; rw [hok]; rfl
      rw [hE] at VL
      have NV : Hid (∀ x ∈ xs, x.key.size ≤ maxLen) := Lib.hid (by
        unfold termsB at ht
        simp only [Bool.and_eq_true, decide_eq_true_eq, Bool.not_eq_true', List.any_eq_false] at ht
        intro x hx
        have := (nm_size (valid_parts (by simpa using ht.2 x hx)).1).2
        unfold maxLen
        omega)
      have h16 : ls.length ≤ 16 := by
        unfold lblsB at hok
        simp only [Bool.and_eq_true, decide_eq_true_eq] at hok
        exact hok.1
      have KN : Hid (∀ k, k < ls.length → (ls.getD k dL).1.size ≤ maxLen) := Lib.hid (by
        intro k hk
        unfold lblsB at hok
        simp only [Bool.and_eq_true, decide_eq_true_eq, List.all_eq_true] at hok
        have hm : ls.getD k dL ∈ ls := by
          rw [List.getD_eq_getElem?_getD, List.getElem?_eq_getElem hk]
          exact List.getElem_mem hk
        have := hok.2.1 _ hm
        unfold lblB at this
        rw [Bool.and_eq_true] at this
        have := (nm_size this.1).2
        unfold maxLen
        omega)
      have OKL := Lib.hid hok
      obtain ⟨m, hm⟩ : ∃ m, m = ls.length := ⟨_, rfl⟩
      obtain ⟨n, hn⟩ : ∃ n, n = xs.length := ⟨_, rfl⟩
      rw [← hm] at hlcl h16 VL L ⊢
      rw [← hn] at hlc V VT ⊢
      have HM := Lib.hid hm
      have HN := Lib.hid hn
      clear hE ht hok hm hn hl
      have hmm := make_seen
      go_enter Tryd.func17, Tryd.ntmps17
      go_wp2_with fail
      refine VT.out.mono ?_
      rintro e w1 ⟨rfl, hb⟩
      have B1 := Lib.hid hb
      clear hb VT
      go_wp2_with fail
      refine (VL.out w1 B1.out).mono ?_
      rintro e w2 ⟨rfl, hb⟩
      have B2 := Lib.hid (B1.out.trans (hb.mono B1.out.size))
      clear hb VL B1
      go_wp2_with fail
      clear hmm
      go_loopg [25] m (fun g si wr => ∃ (k : Nat), k ≤ m ∧ g = m - k ∧ si = .int .i64 k ∧ (∃ D, wr.ownsMap Tryd.prog 9 (plainElem Tryd.prog 3) w2.heap.size k D ∧ Places D ls k) ∧ Below w.heap.size w wr)
      case atStart => exact ⟨0, Nat.zero_le _, rfl, rfl, ⟨_, World.ownsMap_made _ _ _ _, places_none ls⟩, B2.out.alloc B2.out.size _⟩
      case round =>
        obtain ⟨k, hk, hg, rfl, ⟨D, hD, hP⟩, hb⟩ := hrel
        have R : Aside (gk = m - k ∧ Places D ls k ∧ Below w.heap.size w wr) := ⟨hg, hP, hb⟩
        have M := Lib.hid hD
        clear hg hb hP hD
        by_cases hlt : k < m
        · have hlt' : (k : Int) < (m : Int) := by omega
          obtain ⟨b, off, rfl, c0, c1⟩ := (L.out.below R.out.2.2).at k (by rw [← HM.out]; exact hlt)
          obtain ⟨x, hx⟩ : ∃ x, x = ls.getD k dL := ⟨_, rfl⟩
          have c0' : wr.cell? ⟨b, off + k * 2, none⟩ = some (.string x.1) := by rw [hx]; exact c0
          have c1' : wr.cell? ⟨b, off + k * 2 + 1, none⟩ = some (.string x.2) := by rw [hx]; exact c1
          have KY := Lib.hid (WideMaps.keyOf_string_mk Tryd.underlying9 (KN.out k (by rw [← HM.out]; exact hlt)))
          rw [← hx] at KY
          have XX := Lib.hid hx
          obtain ⟨key, val⟩ := x
          simp only at c0' c1' KY
          obtain ⟨X, hX⟩ : ∃ X, X = wr.alloc (.cells #[.string key, .string val] 52) := ⟨_, rfl⟩
          have hbX : Below wr.heap.size wr X := by rw [hX]; exact (Below.refl _ wr).alloc (Nat.le_refl _) _
          have AX := Lib.hid hbX
          have MX := Lib.hid (M.out.kept (row := none) ⟨hbX.os, hbX.tape, hbX.output, hbX.size, fun j hj _ => hbX.block j hj⟩ (by simp))
          have b0 : X.cell? ⟨wr.heap.size, 0, none⟩ = some (.string key) := by rw [hX, World.cell?_alloc_new]; rfl
          have hX' := hX.symm
          clear hX hx c0 c1 hbX M
          go_wp2_with (at_mapUpdate; refine wpList_mapUpdate_own _ rfl _ _ _ 59 rfl 9 3 law Tryd.underlying59 _ w2.heap.size k _ rfl MX.out (by unfold maxLen; omega) _ _ _ rfl rfl KY.out _ [] (plainElem_int Tryd.underlying3 (WalkArith.wf_i64 (by omega))) ?_; intro w3 hown3 hgrow3)
          have B3 := Lib.hid ((R.out.2.2.trans (AX.out.mono R.out.2.2.size)).grown hgrow3 (Nat.le_trans R.out.2.2.size AX.out.size) (fun j hj => by cases hj; exact B2.out.size))
          have M3 := Lib.hid hown3
          clear hown3 hgrow3 b0 hX' c0' c1'
          go_wp2_with fail
          go_roundg (m - (k + 1))
          case measure => have := R.out.1; omega
          case rel =>
            refine ⟨k + 1, by omega, rfl, by go_num, ⟨_, M3.out, ?_⟩, B3.out⟩
            have h := R.out.2.1.put
            rw [← XX.out] at h
            exact h
        · have ek : k = m := by omega
          subst ek
          clear hk
          have PP := Lib.hid R.out.2.1
          have BB := Lib.hid R.out.2.2
          clear R
          go_wp2_with fail
          go_loopg [37] n (fun g si wq => ∃ (j : Nat), j ≤ n ∧ g = n - j ∧ si = .int .i64 j ∧ (xs.take j).all (fun x => holdsB x ls) = true ∧ wq.ownsMap Tryd.prog 9 (plainElem Tryd.prog 3) w2.heap.size k D ∧ Below w.heap.size w wq)
          case atStart => exact ⟨0, Nat.zero_le _, rfl, rfl, rfl, M.out, BB.out⟩
          case round =>
            obtain ⟨j, hj, hg, rfl, hall, hM, hb⟩ := hrel
            have R : Aside (gk = n - j ∧ (xs.take j).all (fun x => holdsB x ls) = true ∧ Below w.heap.size w wr) := ⟨hg, hall, hb⟩
            have MQ := Lib.hid hM
            clear hg hall hM hb M BB
            by_cases hlt2 : j < n
            · have hlt2' : (j : Int) < (n : Int) := by omega
              obtain ⟨b, off, rfl, x, hx, ex, hat, c0, c1, c2⟩ := trms_at (V.out.below R.out.2.2) j (by rw [← HN.out]; exact hlt2)
              have EX := Lib.hid (And.intro ex hx)
              obtain ⟨X, hX⟩ : ∃ X, X = wr.alloc (.cells #[.string x.key, .int .i64 x.how, x.vals] 41) := ⟨_, rfl⟩
              have hbX : Below wr.heap.size wr X := by rw [hX]; exact (Below.refl _ wr).alloc (Nat.le_refl _) _
              have AX := Lib.hid hbX
              have MX := Lib.hid (MQ.out.kept (row := none) ⟨hbX.os, hbX.tape, hbX.output, hbX.size, fun j hj _ => hbX.block j hj⟩ (by simp))
              have HX := Lib.hid (holds_any x (.slice al k cl) ls w2.heap.size k D X (hat.below hbX) (NV.out x hx) ((L.out.below R.out.2.2).below hbX) OKL.out MX.out (by rw [← HM.out]; exact PP.out))
              have b0 : X.cell? ⟨wr.heap.size, 0, none⟩ = some (.string x.key) := by rw [hX, World.cell?_alloc_new]; rfl
              have b1 : X.cell? ⟨wr.heap.size, 1, none⟩ = some (.int .i64 x.how) := by rw [hX, World.cell?_alloc_new]; rfl
              have b2 : X.cell? ⟨wr.heap.size, 2, none⟩ = some x.vals := by rw [hX, World.cell?_alloc_new]; rfl
              obtain ⟨av, cv, ev, _, _⟩ := hat.1.len
              obtain ⟨q, hq⟩ : ∃ q, q = x.ts.length := ⟨_, rfl⟩
              obtain ⟨hb', hhb⟩ : ∃ z, z = holdsB x ls := ⟨_, rfl⟩
              rw [← hhb] at HX
              have HH := Lib.hid hhb
              unfold Trm.cells at HX
              obtain ⟨key, hkey⟩ : ∃ key, key = x.key := ⟨_, rfl⟩
              obtain ⟨how, hhow⟩ : ∃ how, how = x.how := ⟨_, rfl⟩
              rw [← hq] at ev
              rw [ev] at hX b2 c2 HX
              rw [← hkey] at hX b0 c0 HX
              rw [← hhow] at hX b1 c1 HX
              have hX' := hX.symm
              clear hX ex hx hat ev hq hkey hhow hhb hbX
              go_wp2_with fail
              refine HX.out.mono ?_
              rintro e w5 ⟨rfl, hb⟩
              have B5 := Lib.hid (AX.out.trans (hb.mono AX.out.size))
              have M5 := Lib.hid (MX.out.kept (row := none) ⟨hb.os, hb.tape, hb.output, hb.size, fun j hj _ => hb.block j hj⟩ (by simp))
              clear hb b0 b1 b2 hX' c0 c1 c2
              cases hb' with
              | false =>
                have hn : Hid (xs.all (fun x => holdsB x ls) = false) := Lib.hid (by
                  rw [List.all_eq_false]
                  exact ⟨x, EX.out.2, by rw [← HH.out]; exact Bool.false_ne_true⟩)
                go_wp2_with fail
                go_ret2
                exact ⟨by rw [hr.out, hn.out]; rfl, R.out.2.2.trans (B5.out.mono R.out.2.2.size)⟩
              | true =>
                go_wp2_with fail
                go_roundg (n - (j + 1))
                case measure => have := R.out.1; omega
                case rel =>
                  refine ⟨j + 1, by omega, rfl, by go_num, ?_, M5.out, R.out.2.2.trans (B5.out.mono R.out.2.2.size)⟩
                  rw [take_one xs j _ (by rw [← HN.out]; exact hlt2), List.all_append, R.out.2.1, EX.out.1]
                  simp [← HH.out]
            · have hge : decide ((j : Int) < (n : Int)) = false := decide_eq_false (by omega)
              have hy : Hid (xs.all (fun x => holdsB x ls) = true) := Lib.hid (by
                have h := R.out.2.1
                rw [List.take_of_length_le (by rw [← HN.out]; omega)] at h
                exact h)
              go_wp2_with fail
              go_ret2
              exact ⟨by rw [hr.out, hy.out]; rfl, R.out.2.2⟩
end Go.Proofs.YthbbdhhkamccbaaDoor
