/-
  Join: the programs, of every list of texts.
-/
import Derived.Test.YtjlpcklcnabldaaDoorLJoinsM
namespace Go.Proofs.YtjlpcklcnabldaaDoor.L
open Go.RowKit
set_option maxHeartbeats 2000000 in
set_option maxRecDepth 100000 in
theorem join_any (v : Value) (ts : List ByteArray) (w : World) (hv : Strs w v ts) :
    Calls Tryd.prog 9 #[v] w fun e w' => e = .returned (.tuple #[.string (joinR ts).1, .int .i64 (joinR ts).2]) ∧ Below w.heap.size w w' := by
  have V : Hid (Strs w v ts) := hv
  have AN := Lib.hid (allNames_any v ts w hv)
  obtain ⟨a, cap, rfl, hlc, hcm⟩ := hv.len
  unfold maxLen at hcm
  clear hv
  cases hall : ts.all nameB with
  | false =>
    have hr : Hid (joinR ts = (⟨#[]⟩, 40)) := Lib.hid (by unfold joinR; rw [hall]; rfl)
    rw [hall] at AN
    go_enter Tryd.func9, Tryd.ntmps9
    go_wp2_with fail
    refine AN.out.mono ?_
    rintro e w1 ⟨rfl, hb⟩
    have B1 := Lib.hid hb
    clear hb
    go_wp2_with fail
    go_ret2
    exact ⟨by rw [hr.out]; rfl, B1.out⟩
  | true =>
    rw [hall] at AN
    by_cases h8 : ts.length ≤ 8
    · have g8 : decide ((ts.length : Int) > 8) = false := decide_eq_false (by omega)
      have J : ∀ W, Below w.heap.size w W → Calls Tryd.prog 19 #[.slice a ts.length cap, .string ⟨#[47]⟩] W fun e w' => e = .returned (.string ⟨(Lib.join (ts.map (·.data.toList)) [47]).toArray⟩) ∧ Below W.heap.size W w' := by
        intro W hb
        have hs := V.out.below hb
        cases ts with
        | nil => exact (Tryd.strings_Join_none a cap ⟨#[47]⟩ W).mono fun _ _ ⟨he, hw⟩ => ⟨he, hw ▸ Below.refl _ _⟩
        | cons t r =>
          obtain ⟨b, off, rfl, hc0⟩ := hs.at 0 (by simp)
          refine Tryd.strings_Join b off cap (t :: r) ⟨#[47]⟩ W ?_ (block_lt_of_cell hc0) (by omega) hlc ?_
          · intro j x hj
            obtain ⟨hj', hx⟩ := List.getElem?_eq_some_iff.1 hj
            obtain ⟨b', off', e', hc⟩ := hs.at j hj'
            cases e'
            rw [hc, List.getD_eq_getElem?_getD, hj]
            rfl
          · have h1 := pathL_length (t :: r) hall
            have h2 := congrArg List.length (join_pathL (t :: r))
            rw [List.length_cons] at h2
            show (Lib.join ((t :: r).map (·.data.toList)) [47]).length ≤ _
            omega
      have J' := Lib.hid J
      clear J
      obtain ⟨L, hL⟩ : ∃ L, L = Lib.join (ts.map (·.data.toList)) [47] := ⟨_, rfl⟩
      have PL : Hid (47 :: L = pathL ts) := Lib.hid (by rw [hL]; exact join_pathL ts)
      rw [← hL] at J'
      clear hL
      have cc : (⟨#[47]⟩ : ByteArray) ++ ⟨L.toArray⟩ = ⟨(47 :: L).toArray⟩ := by
        apply ByteArray.ext
        simp
      have ll : L.length ≤ 33 * 9 := by
        have h1 := pathL_length ts hall
        rw [← PL.out, List.length_cons] at h1
        omega
      have sz : (⟨L.toArray⟩ : ByteArray).size = L.length := by simp [ByteArray.size]
      have sz2 : (⟨(47 :: L).toArray⟩ : ByteArray).size = L.length + 1 := by simp [ByteArray.size]
      go_enter Tryd.func9, Tryd.ntmps9
      go_wp2_with fail
      refine AN.out.mono ?_
      rintro e w1 ⟨rfl, hb⟩
      have B1 := Lib.hid hb
      clear hb AN
      go_wp2_with fail
      refine (J'.out w1 B1.out).mono ?_
      rintro e w2 ⟨rfl, hb⟩
      have B2 := Lib.hid (B1.out.trans (hb.mono B1.out.size))
      clear hb B1 J'
      by_cases h64 : L.length + 1 ≤ 64
      · have hr : Hid (joinR ts = (⟨(47 :: L).toArray⟩, 0)) := Lib.hid (by unfold joinR; rw [hall, if_pos rfl, if_pos h8, ← PL.out, if_pos (by rw [List.length_cons]; exact h64)])
        have g64 : decide ((L.length : Int) + 1 > 64) = false := decide_eq_false (by omega)
        go_wp2_with fail
        go_ret2
        exact ⟨by rw [hr.out]; rfl, B2.out⟩
      · have hr : Hid (joinR ts = (⟨#[]⟩, 41)) := Lib.hid (by unfold joinR; rw [hall, if_pos rfl, if_pos h8, ← PL.out, if_neg (by rw [List.length_cons]; exact h64)])
        have g64 : decide ((L.length : Int) + 1 > 64) = true := decide_eq_true (by omega)
        go_wp2_with fail
        go_ret2
        exact ⟨by rw [hr.out]; rfl, B2.out⟩
    · have g8 : decide ((ts.length : Int) > 8) = true := decide_eq_true (by omega)
      have hr : Hid (joinR ts = (⟨#[]⟩, 41)) := Lib.hid (by unfold joinR; rw [hall, if_pos rfl, if_neg h8])
      go_enter Tryd.func9, Tryd.ntmps9
      go_wp2_with fail
      refine AN.out.mono ?_
      rintro e w1 ⟨rfl, hb⟩
      have B1 := Lib.hid hb
      clear hb
      go_wp2_with fail
      go_ret2
      exact ⟨by rw [hr.out]; rfl, B1.out⟩
end Go.Proofs.YtjlpcklcnabldaaDoor.L
