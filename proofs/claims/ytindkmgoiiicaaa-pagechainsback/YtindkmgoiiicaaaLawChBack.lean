/-
  PageChainsBack.
-/
import Derived.Test.YtindkmgoiiicaaaPgH
import Derived.Test.YtindkmgoiiicaaaMsk
namespace Go.Proofs.Ytindkmgoiiicaaa
open Go.RowKit Go.Maps
theorem and_127 (n : Int) : bits .and .i64 n 127 = (((n % 128).toNat : Nat) : Int) := by
  have := and_low n 7 (by decide)
  refine this.trans ?_
  show (((n % 18446744073709551616).toNat % 128 : Nat) : Int) = _
  omega
theorem ints_nil (w : World) : Ints w (.slice none 0 0) [] := (OwnI.nil w.heap.size w).ints
set_option maxHeartbeats 4000000 in
set_option maxRecDepth 100000 in
theorem chBack_short (t : ByteArray) (f s : Int) (w : World) (hs : t.size ≤ 64) :
    Calls Try.prog 4 #[.string t, .int .i64 f, .int .i64 s] w fun e w' => e = .returned (.bool true) ∧ Below w.heap.size w w' := by
  have FX := Lib.hid fixed_any
  have hk : lnk t = 0 := by unfold lnk; rw [if_pos hs]
  have LK := Lib.hid (fun W => Links_any t W (by omega))
  have C0 := Lib.hid (fun W => Chain_any t (.slice none 0 0) [] W (ints_nil W) (fun _ h => by simp at h) (by omega))
  have C5 := Lib.hid (fun W : World => Chain_any t (.slice (some ⟨W.heap.size, 0, none⟩) 1 1) [5] (W.alloc (.cells #[.int .i64 5] 3)) (new_ints W [5] (by decide)) (in64_small (fun x h => by simp at h; omega)) (by omega))
  rw [hk] at LK
  rw [chR_yes (by omega) (by rw [hk]; rfl) (by rfl), show pgs t [] = [] from rfl] at C0
  rw [chR_no (by omega) (by rw [hk]; simp)] at C5
  have d1 : decide ((t.size : Int) ≤ 64) = true := decide_eq_true (by omega)
  have d2 : decide (t.size ≤ 64) = true := decide_eq_true (by omega)
  have M1 : True := trivial
  clear hs hk
  go_enter Try.func4, Try.ntmps4
  go_wp2_with (first | (go_at_call 9; refine (FX.out _).mono ?_; rintro e w1 ⟨rfl, hb⟩; have B1 := Lib.hid hb; clear hb) | (go_at_call 13; refine (LK.out _).mono ?_; rintro e w1 ⟨rfl, rfl⟩) | (go_at_call 14; clear M1; refine (C0.out w1).mono ?_; rintro e w2 ⟨v2, rfl, o2, hb⟩; obtain ⟨a2, c2, h2, -, -⟩ := o2.len; have h2' : v2 = .slice a2 0 c2 := h2; subst h2'; clear h2; have B2 := Lib.hid (B1.out.trans (hb.mono B1.out.size)); clear o2 hb) | (go_at_call 14; refine (C5.out w2).mono ?_; rintro e w3 ⟨v3, rfl, o3, hb⟩; obtain ⟨a3, c3, h3, -, -⟩ := o3.len; have h3' : v3 = .slice a3 0 c3 := h3; subst h3'; clear h3; have B3 := Lib.hid (B2.out.trans ((((Below.refl _ _).alloc (Nat.le_refl _) _).trans (hb.mono (by simp))).mono B2.out.size)); clear o3 hb))
  go_ret
  exact ⟨rfl, B3.out⟩
set_option maxHeartbeats 4000000 in
set_option maxRecDepth 100000 in
theorem chBack_long (t : ByteArray) (f s : Int) (w : World) (hl : 8192 < t.size) (hs : t.size ≤ 140737488351232) :
    Calls Try.prog 4 #[.string t, .int .i64 f, .int .i64 s] w fun e w' => e = .returned (.bool true) ∧ Below w.heap.size w w' := by
  have FX := Lib.hid fixed_any
  have LK := Lib.hid (fun W => Links_any t W (by omega))
  obtain ⟨n, hn⟩ : ∃ n, n = lnk t := ⟨_, rfl⟩
  rw [← hn] at LK
  have hn2 : n = (t.size + 499) / 500 := by rw [hn]; unfold lnk; rw [if_neg (by omega)]
  have C0 := Lib.hid (fun W => Chain_any t (.slice none 0 0) [] W (ints_nil W) (fun _ h => by simp at h) (by omega))
  rw [chR_long hl] at C0
  have d1 : decide ((t.size : Int) ≤ 64) = false := decide_eq_false (by omega)
  have d2 : decide (t.size ≤ 64) = false := decide_eq_false (by omega)
  have d3 : decide ((t.size : Int) > 8192) = true := decide_eq_true (by omega)
  have d4 : decide (8192 < t.size) = true := decide_eq_true (by omega)
  have d5 : ((n : Int) != ((t.size : Int) + 499) / 500) = false := by rw [bne_eq_false_iff_eq]; omega
  have d6 : ((n : Int) != ((t.size : Int) + 499).tdiv 500) = false := by rw [bne_eq_false_iff_eq, Int.tdiv_eq_ediv_of_nonneg (by omega)]; omega
  have M1 : True := trivial
  clear hl hn hn2
  go_enter Try.func4, Try.ntmps4
  go_wp2_with (first | (go_at_call 9; refine (FX.out _).mono ?_; rintro e w1 ⟨rfl, hb⟩; have B1 := Lib.hid hb; clear hb) | (go_at_call 13; refine (LK.out _).mono ?_; rintro e w1 ⟨rfl, rfl⟩) | (go_at_call 14; clear M1; refine (C0.out w1).mono ?_; rintro e w2 ⟨v2, rfl, o2, hb⟩; obtain ⟨a2, c2, h2, -, -⟩ := o2.len; have h2' : v2 = .slice a2 0 c2 := h2; subst h2'; clear h2; have B2 := Lib.hid (B1.out.trans (hb.mono B1.out.size)); clear o2 hb))
  go_ret
  exact ⟨rfl, B2.out⟩
end Go.Proofs.Ytindkmgoiiicaaa
