/-
  The law's added of every two lists.
-/
import Derived.Test.YtendjedlcobhlaaDoorNrZ
import Derived.Test.YtendjedlcobhlaaDoorLawOrders
import Derived.Deep.RegionWith
import Derived.Deep.LoopGhost
import Derived.Deep.DeepCutAuto
namespace Go.Proofs.YtendjedlcobhlaaDoor
open Go.RowKit Go.Lib
open Go.Sort (grow)
set_option maxHeartbeats 4000000 in
set_option maxRecDepth 100000 in
theorem plus_bad (v u : Value) (l t : List Am) (w : World) (hv : Row kAm w v l) (hu : Row kAm w u t) (hb : bothB l t = false) :
    Calls Tryd.prog 11 #[v, u] w fun e w' => e = .returned (.tuple #[.slice none 0 0, .int .i64 31]) ∧ Below w.heap.size w w' := by
  have VB : Hid (Calls Tryd.prog 34 #[v, u] w fun e w' => e = .returned (.bool false) ∧ Below w.heap.size w w') := Lib.hid (by have q := bothValid_any v u l t w hv hu; rw [hb] at q; exact q)
  clear hb hv hu
  go_enter Tryd.func11, Tryd.ntmps11
  go_wp2_with fail
  refine VB.out.mono ?_
  rintro e w1 ⟨rfl, hb⟩
  have B1 := Lib.hid hb
  clear hb
  go_wp2_with fail
  go_ret2
  exact ⟨rfl, B1.out⟩
theorem plus_all (v u : Value) (l t : List Am) (w : World) (hv : Row kAm w v l) (hu : Row kAm w u t) (hf : ∀ x ∈ l, x.v ≤ 9223372036854775807) (hf' : ∀ x ∈ t, x.v ≤ 9223372036854775807) :
    Calls Tryd.prog 11 #[v, u] w fun e w' => ∃ a n c, e = .returned (.tuple #[.slice a n c, .int .i64 (plE l t)]) ∧ OwnR kAm w.heap.size w' (.slice a n c) (plL l t) ∧ Below w.heap.size w w' := by
  cases hb : bothB l t with
  | false =>
    refine (plus_bad v u l t w hv hu hb).mono ?_
    rintro e w' ⟨rfl, h⟩
    obtain ⟨h1, h2⟩ := plus_no hb
    exact ⟨none, 0, 0, by rw [h1], by rw [h2]; exact OwnR.nil _ _ _, h⟩
  | true =>
    obtain ⟨h1, h2⟩ := both_of hb
    rw [amsC_zero] at h1 h2
    have a1 := (ams_parts h1).1
    have b1 := (ams_parts h2).1
    exact plus_any v u l t w hv hu (by omega) hf hf'
set_option maxHeartbeats 4000000 in
set_option maxRecDepth 100000 in
theorem added_any (v u : Value) (l t L : List Am) (E : Int) (k : Nat) (m : Amt) (w : World) (hv : Row kAm w v l) (hu : Row kAm w u t) (hm : Mark w m) (hz : (l.length + 1) * 24 ≤ 140737488355328) (hz' : (t.length + 1) * 24 ≤ 140737488355328) (hf : ∀ x ∈ l, x.v ≤ 9223372036854775807) (hf' : ∀ x ∈ t, x.v ≤ 9223372036854775807) (hE : plE l t = E) (hL : plL l t = L) (hk : k = L.length) :
    Calls Tryd.prog 14 #[v, u] w fun e w' => ∃ a c, e = .returned (.tuple #[.slice a k c, .int .i64 E]) ∧ k ≤ c ∧ c ≤ 9223372036854775807 ∧ Row kAm w' (.slice a k c) L ∧ Below w.heap.size w w' := by
  have V := Lib.hid hv
  have U := Lib.hid hu
  have M := Lib.hid hm
  obtain ⟨va, vc, rfl, hlc, hcm⟩ := hv.len
  obtain ⟨ua, uc, rfl, hlc', hcm'⟩ := hu.len
  obtain ⟨n, hn⟩ : ∃ n, n = l.length := ⟨_, rfl⟩
  obtain ⟨n', hn'⟩ : ∃ n, n = t.length := ⟨_, rfl⟩
  rw [← hn] at hz V ⊢
  rw [← hn'] at hz' U ⊢
  have n1 : (n : Int) ≤ 5864062014806 := by omega
  have n2 : (n' : Int) ≤ 5864062014806 := by omega
  have BD : Hid (Below w.heap.size w w.drew) := Lib.hid ((Below.refl _ w).drew)
  have BH : Hid (∀ W, Below w.heap.size w W → Calls Tryd.prog 9 #[.slice va n vc] W fun e w' => ∃ g cap, e = .returned (.slice (some ⟨g, 0, none⟩) (n + 1) cap) ∧ n + 1 ≤ cap ∧ cap ≤ 9223372036854775807 ∧ Row kAm w' (.slice (some ⟨g, 0, none⟩) n cap) l ∧ Below W.heap.size W w') := Lib.hid fun W h => behind_n (.slice va n vc) l m W n hn (V.out.below h) (M.out.below h) hz
  have BU : Hid (∀ W, Below w.heap.size w W → Calls Tryd.prog 9 #[.slice ua n' uc] W fun e w' => ∃ g cap, e = .returned (.slice (some ⟨g, 0, none⟩) (n' + 1) cap) ∧ n' + 1 ≤ cap ∧ cap ≤ 9223372036854775807 ∧ Row kAm w' (.slice (some ⟨g, 0, none⟩) n' cap) t ∧ Below W.heap.size W w') := Lib.hid fun W h => behind_n (.slice ua n' uc) t m W n' hn' (U.out.below h) (M.out.below h) hz'
  have PL : Hid (∀ W g cap g' cap', Row kAm W (.slice (some ⟨g, 0, none⟩) n cap) l → Row kAm W (.slice (some ⟨g', 0, none⟩) n' cap') t → Calls Tryd.prog 11 #[.slice (some ⟨g, 0, none⟩) n cap, .slice (some ⟨g', 0, none⟩) n' cap'] W fun e w' => ∃ a c, e = .returned (.tuple #[.slice a k c, .int .i64 E]) ∧ k ≤ c ∧ c ≤ 9223372036854775807 ∧ Row kAm w' (.slice a k c) L ∧ Below W.heap.size W w') := Lib.hid fun W g cap g' cap' h h' => by
    refine (plus_all _ _ l t W h h' hf hf').mono ?_
    rintro e w4 ⟨a4, n4, c4, rfl, ho4, hb4⟩
    rw [hL] at ho4
    obtain ⟨a', c', e', h1, h2⟩ := (ho4.row okAm).len
    simp only [Value.slice.injEq] at e'
    obtain ⟨rfl, rfl, rfl⟩ := e'
    unfold maxLen at h2
    rw [← hk] at h1 ⊢
    refine ⟨a4, c4, by rw [hE], h1, h2, ?_, hb4⟩
    rw [hk]; exact ho4.row okAm
  clear hv hu hm hz hz' hf hf' hE hL hk hlc hcm hlc' hcm' hn hn'
  have M1 : True := trivial
  go_enter Tryd.func14, Tryd.ntmps14
  go_wp2_with fail
  go_region_with (first | (go_at_call 9; clear M1; refine (BH.out _ BD.out).mono ?_; rintro e w2 ⟨g2, cap2, rfl, hc2, hd2, hr2, hb2⟩; have S2 : Hid (Row kAm w2 (.slice (some ⟨g2, 0, none⟩) n cap2) l ∧ Below w.heap.size w w2) := Lib.hid ⟨hr2, BD.out.trans hb2⟩; have i2 : (n : Int) ≤ (cap2 : Int) := (by omega); clear hr2 hb2) | (go_at_call 9; refine (BU.out _ S2.out.2).mono ?_; rintro e w3 ⟨g3, cap3, rfl, hc3, hd3, hr3, hb3⟩; have S3 : Hid (Row kAm w3 (.slice (some ⟨g2, 0, none⟩) n cap2) l ∧ Row kAm w3 (.slice (some ⟨g3, 0, none⟩) n' cap3) t ∧ Below w.heap.size w w3) := Lib.hid ⟨S2.out.1.below hb3, hr3, S2.out.2.trans (hb3.mono S2.out.2.size)⟩; have i3 : (n' : Int) ≤ (cap3 : Int) := (by omega); clear hr3 hb3) | (go_at_call 11; refine (PL.out _ g2 cap2 g3 cap3 S3.out.1 S3.out.2.1).mono ?_; rintro e w4 ⟨a4, c4, rfl, h14, h24, hr4, hb4⟩; have S4 : Hid (k ≤ c4 ∧ c4 ≤ 9223372036854775807 ∧ Row kAm w4 (.slice a4 k c4) L ∧ Below w.heap.size w w4) := Lib.hid ⟨h14, h24, hr4, S3.out.2.2.trans (hb4.mono S3.out.2.2.size)⟩; clear hr4 hb4 h14 h24))
  all_goals
    go_wp2_with fail
    go_ret2
    exact ⟨a4, c4, rfl, S4.out.1, S4.out.2.1, S4.out.2.2.1, S4.out.2.2.2⟩
end Go.Proofs.YtendjedlcobhlaaDoor
