/-
  Edit.
-/
import Derived.Test.YtbdlebengmbooaaFlA
namespace Go.Proofs.Ytbdlebengmbooaa
open Go.RowKit Go.Maps
/-- The device with other bytes on its medium. -/
theorem Dv.medium {B : Nat} {w w' : World} {d mb mp : Nat} {cv : Value} {s : DS} (h : Dv B w d mb mp cv s) (hk : Kept (fun k => k = mb) w w') (m : List UInt8) (hl : m.length = 512 * s.n) (hm : w'.heap[mb]? = some (.cells (cells8 m).toArray 80 (0, 0))) : Dv B w' d mb mp cv { s with med := m } := by
  have A := h.apart
  obtain ⟨M, hM, hlat⟩ := h.latest
  exact ⟨by rw [hk.block d (lt_of_heap h.self) A.dm]; exact h.self, hm, row_kept h.cache hk (fun g hg e => A.cm (by rw [hg, e])), ⟨M, map_kept hM hk (fun e => A.bp e.symm), hlat⟩, ⟨h.fit.lo, h.fit.hi, hl, h.fit.ok, h.fit.ws⟩, h.b1, h.b2, h.b3⟩
set_option maxHeartbeats 1000000 in
theorem edit_any {B : Nat} {w : World} {d mb mp : Nat} {cv : Value} {s : DS} (h : Dv B w d mb mp cv s) (i at_ : Int) (v : Value) (p : List UInt8) (hv : Bytes w v p) :
    Calls Try.prog 14 #[.pointer (some ⟨d, 0, none⟩), .int .i64 i, .int .i64 at_, v] w fun e w' => e = .returned (.int .i64 (edD s i at_ p).2) ∧ Dv B w' d mb mp cv (edD s i at_ p).1 ∧ Kept (fun k => k = mb) w w' := by
  have VV := Lib.hid hv
  obtain ⟨av, cap, rfl, hlc, hcm⟩ := hv.len
  unfold maxLen at hcm
  have HH := Lib.hid (has_any h i)
  have H := Lib.hid h
  have p0 : w.cell? ⟨d, 0, none⟩ = some (.slice (some ⟨mb, 0, none⟩) s.n s.n) := h.cell 0
  cases hb : hasB s i with
  | false =>
    have E : Hid (edD s i at_ p = (s, 60)) := Lib.hid (by unfold edD; rw [if_pos hb])
    rw [hb] at HH
    clear h hv
    go_enter Try.func14, Try.ntmps14
    go_wp2_with fail
    refine HH.out.mono ?_
    rintro e w0 ⟨rfl, rfl⟩
    go_wp2_with fail
    go_ret
    rw [E.out]
    exact ⟨rfl, H.out, Kept.refl _ _⟩
  | true =>
    obtain ⟨k, rfl, hk⟩ := hasB_nat hb
    by_cases h1 : at_ < 0
    · have E : Hid (edD s k at_ p = (s, 1)) := Lib.hid (by unfold edD; rw [if_neg (by rw [hb]; exact Bool.noConfusion), if_pos (.inl h1)])
      have g1 : decide (at_ < 0) = true := decide_eq_true h1
      rw [hb] at HH
      clear h hv h1
      go_enter Try.func14, Try.ntmps14
      go_wp2_with fail
      refine HH.out.mono ?_
      rintro e w0 ⟨rfl, rfl⟩
      go_wp2_with fail
      go_ret
      rw [E.out]
      exact ⟨rfl, H.out, Kept.refl _ _⟩
    · have g1 : decide (at_ < 0) = false := decide_eq_false h1
      obtain ⟨n, hn⟩ : ∃ n, n = p.length := ⟨_, rfl⟩
      rw [← hn] at hlc ⊢
      have wr : wrap64 (512 - (n : Int)) = 512 - (n : Int) := by unfold wrap64; omega
      by_cases h2 : 512 - (n : Int) < at_
      · have E : Hid (edD s k at_ p = (s, 1)) := Lib.hid (by unfold edD; rw [if_neg (by rw [hb]; exact Bool.noConfusion), if_pos (.inr (by rw [← hn]; exact h2))])
        have g2 : decide (at_ > 512 - (n : Int)) = true := decide_eq_true h2
        rw [hb] at HH
        clear h hv h1 h2 hn
        go_enter Try.func14, Try.ntmps14
        go_wp2_with fail
        refine HH.out.mono ?_
        rintro e w0 ⟨rfl, rfl⟩
        go_wp2_with fail
        go_ret
        rw [E.out]
        exact ⟨rfl, H.out, Kept.refl _ _⟩
      · have g2 : decide (at_ > 512 - (n : Int)) = false := decide_eq_false h2
        obtain ⟨a, rfl⟩ : ∃ a : Nat, at_ = (a : Int) := ⟨at_.toNat, by omega⟩
        have ha : a + n ≤ 512 := by omega
        have E : Hid (edD s k a p = ({ s with med := splice s.med (512 * k + a) p }, 0)) := Lib.hid (by unfold edD; rw [if_neg (by rw [hb]; exact Bool.noConfusion), if_neg (by rw [← hn]; omega), Int.toNat_natCast, Int.toNat_natCast])
        have hk' : (k : Int) < (s.n : Int) := by omega
        have hn4 : s.n ≤ 4096 := h.fit.hi
        have hml := Lib.hid h.fit.len
        have NN := Lib.hid hn
        rw [hb] at HH
        have SRC : Hid (0 < (cells8 p).length → ∃ ad, av = some ad ∧ ∀ j v, (cells8 p)[j]? = some v → w.cell? (ad.add j) = some v) := Lib.hid (VV.out.src (fun _ h => ⟨h, rfl⟩))
        have ha2 : (a : Int) ≤ 512 := by omega
        clear h hv h1 h2 hn
        go_enter Try.func14, Try.ntmps14
        go_wp2_with fail
        refine HH.out.mono ?_
        rintro e w0 ⟨rfl, rfl⟩
        by_cases h5 : a = 512
        · subst h5
          have hn0 : n = 0 := by omega
          subst hn0
          have pn : p = [] := List.eq_nil_of_length_eq_zero NN.out.symm
          subst pn
          go_wp2_with (refine copy_kept rfl (.tmp 29) (.tmp 30) rfl _ _ _ _ _ _ rfl rfl mb 0 _ 80 H.out.med [] rfl (fun h => absurd h (by decide)) (Nat.zero_le _) (by simp) ?_)
          intro w2 K2
          go_wp2_with fail
          go_ret
          rw [E.out]
          have e1 : splice s.med (512 * k + 512) [] = s.med := by simp [splice]
          refine ⟨rfl, ?_, K2.out.2⟩
          have e2 : splice (cells8 s.med) 0 ([] : List Value) = cells8 s.med := by simp [splice]
          have q := K2.out.1
          rw [e2] at q
          have := H.out.medium K2.out.2 s.med hml.out q
          rw [e1]
          exact this
        · have h5' : a < 512 := by omega
          go_wp2_with (refine copy_kept rfl (.tmp 29) (.tmp 30) rfl _ _ _ _ _ _ rfl rfl mb (k * 512 + a) _ 80 H.out.med (cells8 p) (by rw [cells8_length, ← NN.out]; exact (Nat.min_eq_left (by omega)).symm) (fun h => ⟨rfl, SRC.out h⟩) (by rw [cells8_length, cells8_length, hml.out, ← NN.out]; omega) (cells8_one p) ?_)
          intro w2 K2
          go_wp2_with fail
          go_ret
          rw [E.out]
          refine ⟨rfl, ?_, K2.out.2⟩
          have q := K2.out.1
          rw [splice_cells, Nat.mul_comm k 512] at q
          exact H.out.medium K2.out.2 _ (by rw [length_splice _ _ _ (by rw [hml.out, ← NN.out]; omega)]; exact hml.out) q
end Go.Proofs.Ytbdlebengmbooaa
