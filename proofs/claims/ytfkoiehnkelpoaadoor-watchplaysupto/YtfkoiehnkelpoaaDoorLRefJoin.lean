/-
  The documents Join: of every list of texts.
-/
import Derived.Test.YtfkoiehnkelpoaaDoorLRefName
namespace Go.Proofs.YtfkoiehnkelpoaaDoor.L
open Go.RowKit
theorem pathOf_take (ts : List ByteArray) (k : Nat) (h : k < ts.length) : pathOf (ts.take (k + 1)) = pathOf (ts.take k) ++ (47 :: (ts.getD k ⟨#[]⟩).data.toList) := by
  rw [take_one ts k ⟨#[]⟩ h, pathOf, List.flatMap_append, ← pathOf]
  simp
theorem bytes_size (l : List UInt8) : (⟨l.toArray⟩ : ByteArray).size = l.length := by simp [ByteArray.size]
theorem bytes_app (l m : List UInt8) : (⟨l.toArray⟩ : ByteArray) ++ ⟨m.toArray⟩ = ⟨(l ++ m).toArray⟩ := by
  apply ByteArray.ext
  simp
set_option maxHeartbeats 4000000 in
set_option maxRecDepth 100000 in
theorem refJoin_any (v : Value) (ts : List ByteArray) (w : World) (hv : Strs w v ts) (hlen : ts.length ≤ 8796093021952) :
    Calls Tryd.prog 72 #[v] w fun e w' => e = .returned (.tuple #[.string (joinR ts).1, .int .i64 (joinR ts).2]) ∧ Below w.heap.size w w' := by
  have V : Aside (Strs w v ts) := hv
  obtain ⟨a, cap, rfl, hlc, hcm⟩ := hv.len
  unfold maxLen at hcm
  clear hv
  go_enter Tryd.func72, Tryd.ntmps72
  go_wp2_with fail
  go_loopg [4, 5] ts.length (fun g ss si wr => ∃ (k : Nat), k ≤ ts.length ∧ g = ts.length - k ∧ si = .int .i64 k ∧ ss = .string ⟨(pathOf (ts.take k)).toArray⟩ ∧ (ts.take k).all nameB = true ∧ wr = w)
  case atStart => exact ⟨0, Nat.zero_le _, rfl, rfl, rfl, rfl, rfl⟩
  case round =>
    obtain ⟨k, hk, hg, rfl, rfl, ha, rfl⟩ := hrel
    have R : Aside (gk = ts.length - k ∧ (ts.take k).all nameB = true) := ⟨hg, ha⟩
    obtain ⟨p, hp⟩ : ∃ p, p = pathOf (ts.take k) := ⟨_, rfl⟩
    rw [← hp]
    have P : Aside (p = pathOf (ts.take k)) := hp
    have hps : p.length ≤ 8796093021952 * 33 := by
      have h1 := pathOf_length (ts.take k) ha
      rw [← hp, List.length_take] at h1
      omega
    have sz := bytes_size p
    clear hg ha hp
    by_cases hlt : k < ts.length
    · obtain ⟨b, off, rfl, p0⟩ := V.out.at k hlt
      obtain ⟨t, ht⟩ : ∃ t, t = ts.getD k ⟨#[]⟩ := ⟨_, rfl⟩
      rw [← ht] at p0
      have C : Aside (t = ts.getD k ⟨#[]⟩) := ht
      clear ht
      have hlt' : (k : Int) < (ts.length : Int) := by omega
      have N := Lib.hid (refName_any t)
      cases hn : nameB t with
      | true =>
        rw [hn] at N
        have ht32 := name_size hn
        have e1 : (⟨p.toArray⟩ : ByteArray) ++ ⟨#[47]⟩ = ⟨(p ++ [47]).toArray⟩ := bytes_app p [47]
        have e2 : (⟨(p ++ [47]).toArray⟩ : ByteArray) ++ t = ⟨(p ++ [47] ++ t.data.toList).toArray⟩ := bytes_app (p ++ [47]) t.data.toList
        have sz1 : (⟨(p ++ [47]).toArray⟩ : ByteArray).size = p.length + 1 := by rw [bytes_size, List.length_append]; rfl
        have hA : Hid (pathOf (ts.take (k + 1)) = p ++ [47] ++ t.data.toList) := Lib.hid (by rw [pathOf_take ts k hlt, ← P.out, ← C.out, List.append_assoc]; rfl)
        go_wp2_with fail
        refine (N.out _).mono ?_
        rintro e w1 ⟨rfl, rfl⟩
        go_wp2_with fail
        go_roundg (ts.length - (k + 1))
        case measure => have := R.out.1; omega
        case rel => exact ⟨k + 1, by omega, rfl, by go_num, by rw [hA.out]; simp, by rw [take_one ts k ⟨#[]⟩ hlt, ← C.out, List.all_append, R.out.2]; simp [hn], rfl⟩
      | false =>
        rw [hn] at N
        have hr : Hid (joinR ts = (⟨#[]⟩, 40)) := Lib.hid (by
          have : ts.all nameB = false := by
            rw [List.all_eq_false]
            refine ⟨t, ?_, by rw [hn]; exact Bool.false_ne_true⟩
            rw [C.out, List.getD_eq_getElem?_getD, List.getElem?_eq_getElem hlt]
            exact List.getElem_mem hlt
          unfold joinR
          rw [this]
          rfl)
        go_wp2_with fail
        refine (N.out _).mono ?_
        rintro e w1 ⟨rfl, rfl⟩
        go_wp2_with fail
        go_ret2
        exact ⟨by rw [hr.out]; rfl, Below.refl _ _⟩
    · have hall : ts.all nameB = true := by
        have := R.out.2
        rwa [List.take_of_length_le (by omega)] at this
      have hP : p = pathOf ts := by rw [P.out, List.take_of_length_le (by omega)]
      have HP := Lib.hid hP
      have HA := Lib.hid hall
      clear hP hall
      by_cases h8 : ts.length ≤ 8
      · have g8 : decide ((ts.length : Int) > 8) = false := decide_eq_false (by omega)
        by_cases h64 : p.length ≤ 64
        · have g64 : decide ((p.length : Int) > 64) = false := decide_eq_false (by omega)
          by_cases hpn : p = []
          · subst hpn
            have hts : ts = [] := by
              cases ts with
              | nil => rfl
              | cons t r =>
                have := HP.out
                rw [pathOf, List.flatMap_cons] at this
                simp at this
            have hr : Hid (joinR ts = (⟨#[47]⟩, 0)) := Lib.hid (by subst hts; rfl)
            go_wp2_with fail
            go_ret2
            exact ⟨by rw [hr.out]; rfl, Below.refl _ _⟩
          · have hts : ts ≠ [] := by
              intro h
              subst h
              exact hpn HP.out
            have gne : p.isEmpty = false := by
              cases p with
              | nil => exact absurd rfl hpn
              | cons x q => rfl
            have hr : Hid (joinR ts = (⟨p.toArray⟩, 0)) := Lib.hid (by
              unfold joinR pathL
              rw [HA.out, if_pos rfl, if_pos h8, if_neg hts, ← HP.out, if_pos h64])
            go_wp2_with fail
            go_ret2
            exact ⟨by rw [hr.out]; rfl, Below.refl _ _⟩
        · have g64 : decide ((p.length : Int) > 64) = true := decide_eq_true (by omega)
          have hts : ts ≠ [] := by
            intro h
            subst h
            have := HP.out
            rw [pathOf] at this
            simp at this
            rw [this] at h64
            exact h64 (Nat.zero_le _)
          have hr : Hid (joinR ts = (⟨#[]⟩, 41)) := Lib.hid (by
            unfold joinR pathL
            rw [HA.out, if_pos rfl, if_pos h8, if_neg hts, ← HP.out, if_neg h64])
          go_wp2_with fail
          go_ret2
          exact ⟨by rw [hr.out]; rfl, Below.refl _ _⟩
      · have g8 : decide ((ts.length : Int) > 8) = true := decide_eq_true (by omega)
        have hr : Hid (joinR ts = (⟨#[]⟩, 41)) := Lib.hid (by unfold joinR; rw [HA.out, if_pos rfl, if_neg h8])
        go_wp2_with fail
        go_ret2
        exact ⟨by rw [hr.out]; rfl, Below.refl _ _⟩
end Go.Proofs.YtfkoiehnkelpoaaDoor.L
