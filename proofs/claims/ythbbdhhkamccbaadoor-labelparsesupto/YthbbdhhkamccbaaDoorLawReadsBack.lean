/-
  THE WALK of LabelReadsBack.
-/
import Derived.Test.YthbbdhhkamccbaaDoorSameT
import Derived.Test.YthbbdhhkamccbaaDoorFixed
namespace Go.Proofs.YthbbdhhkamccbaaDoor
open Go.RowKit
theorem ps3_pr {s : List UInt8} {xs : List T3} (h : ps3 s = some xs) : ok3 xs = true ∧ pr3 xs = s := by
  unfold ps3 at h
  split at h
  · rename_i h0
    injection h with h
    subst h h0
    exact ⟨rfl, rfl⟩
  · cases h1 : all3 (spl9 44 s) with
    | none => rw [h1] at h; cases h
    | some ys =>
      rw [h1] at h
      simp only at h
      split at h
      · rename_i h2
        injection h with h
        subst h
        exact ⟨h2, pr3_of h1⟩
      · cases h
theorem pr_ps3 {xs : List T3} (h : ok3 xs = true) : ps3 (pr3 xs) = some xs := by
  obtain ⟨h8, hok⟩ := ok3_all h
  by_cases h0 : xs = []
  · subst h0; rfl
  · unfold ps3
    rw [if_neg (pr3_ne h0 hok), pr3_spl h0 h8 hok, wr_all3 hok]
    simp only
    rw [if_pos h]
theorem trms_nil (w : World) : Trms w (.slice none 0 0) [] := ⟨by simp, none, 0, rfl, by simp, by decide, fun _ => rfl, fun h => absurd rfl h⟩
/-- What Parse answers, as terms that lie there. -/
theorem parsed_trms {B : Nat} {w : World} {v : Value} {ys : List Trm} {xs : List T3} (h : v = .slice none 0 0 ∧ ys = [] ∨ OwnTs B w v ys) (h3 : ys.map t3 = xs) (hok : ok3 xs = true) : Trms w v ys ∧ ys.length ≤ 8 ∧ ∀ y ∈ ys, y.ts.length ≤ 8 := by
  obtain ⟨h8, hall⟩ := ok3_all hok
  have hl : ys.length ≤ 8 := by rw [← h3, List.length_map] at h8; exact h8
  refine ⟨?_, hl, ?_⟩
  · rcases h with ⟨rfl, rfl⟩ | h
    · exact trms_nil w
    · exact h.trms (by omega)
  · intro y hy
    have hx := hall (t3 y) (by rw [← h3]; exact List.mem_map_of_mem hy)
    have e : (t3 y).vs.length = y.ts.length := by show (y.ts.map _).length = _; rw [List.length_map]
    rcases hx.2.2.2 with ⟨_, _, h⟩ | ⟨_, h⟩
    · omega
    · rw [h] at e; simp at e; omega
theorem print_yes (v : Value) (ys : List Trm) (w : World) (hv : Trms w v ys) (hok : ok3 (ys.map t3) = true) :
    Calls Tryd.prog 11 #[v] w fun e w' => e = .returned (.tuple #[.string (bys (pr3 (ys.map t3))), .int .i64 0]) ∧ Below w.heap.size w w' := by
  have h := print_any v ys w hv
  unfold printR at h
  rw [if_pos (by rw [← terms_t3]; exact hok)] at h
  exact h
set_option maxHeartbeats 8000000 in
set_option maxRecDepth 100000 in
theorem labelReadsBack_walk (t : ByteArray) (v : Value) (xs : List Trm) (w : World) (hm : HasM w) (ht : t.size ≤ 1048576) (hv : Trms w v xs) (hs : xs.length * 48 ≤ 140737488351232 ∧ ∀ x ∈ xs, x.ts.length * 16 ≤ 140737488351232 ∧ (-9223372036854775808 ≤ x.how ∧ x.how ≤ 9223372036854775807) ∧ x.key.size ≤ 140737488351232) :
    Calls Tryd.prog 3 #[.string t, v] w fun e w' => e = .returned (.bool true) ∧ Below w.heap.size w w' := by
  have H := Lib.hid hm
  have FX := Lib.hid (fixed_ok w hm)
  have V := Lib.hid hv
  have PA := Lib.hid fun W h => parse_any t W h (by omega)
  have OW : Hid (∀ W, Below w.heap.size w W → Calls Tryd.prog 12 #[v] W fun e w' => ∃ v' ys, e = .returned v' ∧ ys.map t3 = xs.map t3 ∧ Copied W.heap.size w' v' ys ∧ Below W.heap.size W w') := Lib.hid fun W hb => own_any v xs W (hv.below hb) (by omega) fun x hx => by have := (hs.2 x hx).1; omega
  clear hm hv ht hs
  go_enter Tryd.func3, Tryd.ntmps3
  go_wp2_with fail
  refine FX.out.mono ?_
  rintro r w1 ⟨rfl, hb⟩
  have B1 := Lib.hid hb
  clear hb FX
  go_wp2_with fail
  refine (PA.out w1 (H.out.below B1.out)).mono ?_
  rintro e w2 ⟨hr, hb⟩
  have B2 := Lib.hid (B1.out.trans (hb.mono B1.out.size))
  clear hb PA
  cases hp : ps3 t.data.toList with
  | none =>
    rw [hp] at hr
    have he : e = _ := hr
    subst he
    clear hp hr
    go_wp2_with fail
    refine (OW.out w2 B2.out).mono ?_
    rintro e wa ⟨va, zs, rfl, h3, hc, hb⟩
    have BA := Lib.hid (B2.out.trans (hb.mono B2.out.size))
    have CA := Lib.hid (And.intro h3 hc.trms)
    clear hb h3 hc
    cases hT : termsB xs with
    | false =>
      have PN : Hid (Calls Tryd.prog 11 #[va] wa fun e w' => e = .returned (.tuple #[.string ⟨#[]⟩, .int .i64 43]) ∧ Below wa.heap.size wa w') := Lib.hid (by
        have h := print_any va zs wa CA.out.2
        unfold printR at h
        rw [if_neg (by rw [← terms_t3, CA.out.1, terms_t3, hT]; simp)] at h
        exact h)
      go_wp2_with fail
      refine PN.out.mono ?_
      rintro e wb ⟨rfl, hb⟩
      have BC := Lib.hid (BA.out.trans (hb.mono BA.out.size))
      clear hb PN
      go_wp2_with fail
      go_ret
      exact ⟨rfl, BC.out⟩
    | true =>
      have hok : ok3 (xs.map t3) = true := by rw [terms_t3]; exact hT
      have PN := Lib.hid (print_yes va zs wa CA.out.2 (by rw [CA.out.1]; exact hok))
      rw [CA.out.1] at PN
      have QA : Hid (∀ W, HasM W → Calls Tryd.prog 10 #[.string (bys (pr3 (xs.map t3)))] W fun e w' => ParseR W.heap.size w' (some (xs.map t3)) e ∧ Below W.heap.size W w') := Lib.hid fun W h => by
        have h2 := parse_any (bys (pr3 (xs.map t3))) W h (by
          rw [bys_size]
          have := pr3_small hT
          rw [wrs_pr3] at this
          omega)
        rw [data_bys, pr_ps3 hok] at h2
        exact h2
      have HOK := Lib.hid hok
      obtain ⟨s, hs⟩ : ∃ s, s = bys (pr3 (xs.map t3)) := ⟨_, rfl⟩
      rw [← hs] at PN QA
      clear hs hok hT
      go_wp2_with fail
      refine PN.out.mono ?_
      rintro e wb ⟨rfl, hb⟩
      have BC := Lib.hid (BA.out.trans (hb.mono BA.out.size))
      clear hb PN
      go_wp2_with fail
      refine (QA.out wb (H.out.below BC.out)).mono ?_
      rintro e wc ⟨⟨vc, us, rfl, h3, hu⟩, hb⟩
      have BD := Lib.hid (BC.out.trans (hb.mono BC.out.size))
      have SM := Lib.hid (sameTerms_yes vc v us xs wc (parsed_trms hu h3 HOK.out).1 (V.out.below BD.out) h3)
      clear hb QA hu h3
      go_wp2_with fail
      refine SM.out.mono ?_
      rintro e wd ⟨rfl, hb⟩
      have BE := Lib.hid (BD.out.trans (hb.mono BD.out.size))
      clear hb SM
      go_wp2_with fail
      go_ret
      exact ⟨rfl, BE.out⟩
  | some X =>
    rw [hp] at hr
    obtain ⟨v2, ys, rfl, h3, hu⟩ := hr
    obtain ⟨hok, hpr⟩ := ps3_pr hp
    obtain ⟨htr, h8, hts⟩ := parsed_trms hu h3 hok
    have OY := Lib.hid (own_any v2 ys w2 htr (by omega) fun y hy => by have := hts y hy; omega)
    have XX : Hid (ys.map t3 = X ∧ ok3 X = true ∧ bys (pr3 X) = t) := Lib.hid ⟨h3, hok, by rw [hpr, bys_data]⟩
    clear hp h3 hu hok hpr htr h8 hts
    go_wp2_with fail
    refine OY.out.mono ?_
    rintro e w3 ⟨v3, zs, rfl, h3, hc, hb⟩
    have B3 := Lib.hid (B2.out.trans (hb.mono B2.out.size))
    have PY : Hid (Calls Tryd.prog 11 #[v3] w3 fun e w' => e = .returned (.tuple #[.string t, .int .i64 0]) ∧ Below w3.heap.size w3 w') := Lib.hid (by
      have h := print_yes v3 zs w3 hc.trms (by rw [h3, XX.out.1]; exact XX.out.2.1)
      rw [h3, XX.out.1, XX.out.2.2] at h
      exact h)
    clear hb hc h3 OY
    go_wp2_with fail
    refine PY.out.mono ?_
    rintro e w4 ⟨rfl, hb⟩
    have B4 := Lib.hid (B3.out.trans (hb.mono B3.out.size))
    clear hb PY XX
    go_wp2_with fail
    refine (OW.out w4 B4.out).mono ?_
    rintro e wa ⟨va, zs, rfl, h3, hc, hb⟩
    have BA := Lib.hid (B4.out.trans (hb.mono B4.out.size))
    have CA := Lib.hid (And.intro h3 hc.trms)
    clear hb h3 hc
    cases hT : termsB xs with
    | false =>
      have PN : Hid (Calls Tryd.prog 11 #[va] wa fun e w' => e = .returned (.tuple #[.string ⟨#[]⟩, .int .i64 43]) ∧ Below wa.heap.size wa w') := Lib.hid (by
        have h := print_any va zs wa CA.out.2
        unfold printR at h
        rw [if_neg (by rw [← terms_t3, CA.out.1, terms_t3, hT]; simp)] at h
        exact h)
      go_wp2_with fail
      refine PN.out.mono ?_
      rintro e wb ⟨rfl, hb⟩
      have BC := Lib.hid (BA.out.trans (hb.mono BA.out.size))
      clear hb PN
      go_wp2_with fail
      go_ret
      exact ⟨rfl, BC.out⟩
    | true =>
      have hok : ok3 (xs.map t3) = true := by rw [terms_t3]; exact hT
      have PN := Lib.hid (print_yes va zs wa CA.out.2 (by rw [CA.out.1]; exact hok))
      rw [CA.out.1] at PN
      have QA : Hid (∀ W, HasM W → Calls Tryd.prog 10 #[.string (bys (pr3 (xs.map t3)))] W fun e w' => ParseR W.heap.size w' (some (xs.map t3)) e ∧ Below W.heap.size W w') := Lib.hid fun W h => by
        have h2 := parse_any (bys (pr3 (xs.map t3))) W h (by
          rw [bys_size]
          have := pr3_small hT
          rw [wrs_pr3] at this
          omega)
        rw [data_bys, pr_ps3 hok] at h2
        exact h2
      have HOK := Lib.hid hok
      obtain ⟨s, hs⟩ : ∃ s, s = bys (pr3 (xs.map t3)) := ⟨_, rfl⟩
      rw [← hs] at PN QA
      clear hs hok hT
      go_wp2_with fail
      refine PN.out.mono ?_
      rintro e wb ⟨rfl, hb⟩
      have BC := Lib.hid (BA.out.trans (hb.mono BA.out.size))
      clear hb PN
      go_wp2_with fail
      refine (QA.out wb (H.out.below BC.out)).mono ?_
      rintro e wc ⟨⟨vc, us, rfl, h3, hu⟩, hb⟩
      have BD := Lib.hid (BC.out.trans (hb.mono BC.out.size))
      have SM := Lib.hid (sameTerms_yes vc v us xs wc (parsed_trms hu h3 HOK.out).1 (V.out.below BD.out) h3)
      clear hb QA hu h3
      go_wp2_with fail
      refine SM.out.mono ?_
      rintro e wd ⟨rfl, hb⟩
      have BE := Lib.hid (BD.out.trans (hb.mono BD.out.size))
      clear hb SM
      go_wp2_with fail
      go_ret
      exact ⟨rfl, BE.out⟩
end Go.Proofs.YthbbdhhkamccbaaDoor
