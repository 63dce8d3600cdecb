/-
  LUnderA, LRefName, LRefJoin, LRefPath, LRefSplit, LRefLine, joined.
-/
import Derived.Test.YthdofbjijpghfaaGreatDoorMgB
section S0
namespace Go.Proofs.YthdofbjijpghfaaGreatDoor.L
open Go.RowKit
theorem splitE_none {p : ByteArray} (h : splitO p = none) : splitE p = 41 := by unfold splitE; rw [h]; rfl
theorem splitE_some {p : ByteArray} {ts : List ByteArray} (h : splitO p = some ts) : splitE p = 0 := by unfold splitE; rw [h]; rfl
theorem splitT_none {p : ByteArray} (h : splitO p = none) : splitT p = [] := by unfold splitT; rw [h]; rfl
theorem splitT_some {p : ByteArray} {ts : List ByteArray} (h : splitO p = some ts) : splitT p = ts := by unfold splitT; rw [h]; rfl
set_option maxHeartbeats 4000000 in
set_option maxRecDepth 100000 in
theorem under_any (a b : ByteArray) (w : World) (hm : HasM w) : Calls Tryz.prog 63 #[.string a, .string b] w fun e w' => e = .returned (.bool (underB a b)) ∧ Below w.heap.size w w' := by
  have H := Lib.hid hm
  have PA := Lib.hid (path_any a w hm)
  have PB : Hid (∀ W, HasM W → Calls Tryz.prog 33 #[.string b] W fun e w' => e = .returned (.int .i64 (splitE b)) ∧ Below W.heap.size W w') := Lib.hid fun W h => path_any b W h
  clear hm
  go_enter Tryz.func63, Tryz.ntmps63
  cases ha : splitO a with
  | none =>
    have hA := Lib.hid (under_none (b := b) ha).1
    rw [splitE_none ha] at PA
    go_wp2_with fail
    refine PA.out.mono ?_
    rintro e w1 ⟨rfl, hb⟩
    have B1 := Lib.hid hb
    clear hb PA
    go_wp2_with fail
    go_ret
    exact ⟨by rw [hA.out]; rfl, B1.out⟩
  | some ts =>
    rw [splitE_some ha] at PA
    go_wp2_with fail
    refine PA.out.mono ?_
    rintro e w1 ⟨rfl, hb⟩
    have B1 := Lib.hid hb
    have H1 := Lib.hid (H.out.below hb)
    clear hb PA H
    cases hb' : splitO b with
    | none =>
      have hA := Lib.hid (under_none (b := a) hb').2
      rw [splitE_none hb'] at PB
      go_wp2_with fail
      refine (PB.out w1 H1.out).mono ?_
      rintro e w2 ⟨rfl, hb⟩
      have B2 := Lib.hid (B1.out.trans (hb.mono B1.out.size))
      clear hb PB
      go_wp2_with fail
      go_ret
      exact ⟨by rw [hA.out]; rfl, B2.out⟩
    | some us =>
      rw [splitE_some hb'] at PB
      have hu : underB a b = (decide (a.data.toList = b.data.toList) || decide (b.data.toList = [47]) || Lib.hasPrefix a.data.toList (b.data.toList ++ [47])) := by
        unfold underB
        rw [ha, hb']
        rfl
      have hbs : b.size ≤ 64 := by
        obtain ⟨rfl, hg⟩ := splitO_some hb'
        rw [pth_size]
        exact hg.2.2
      go_wp2_with fail
      refine (PB.out w1 H1.out).mono ?_
      rintro e w2 ⟨rfl, hb⟩
      have B2 := Lib.hid (B1.out.trans (hb.mono B1.out.size))
      clear hb PB B1
      by_cases e1 : a.data.toList = b.data.toList
      · have g1 : (a.toList == b.toList) = true := by rw [list_of_bytes, list_of_bytes, beq_iff_eq]; exact e1
        have hA : Hid (underB a b = true) := Lib.hid (by rw [hu, decide_eq_true e1]; rfl)
        clear hu
        go_wp2_with fail
        go_ret
        exact ⟨by rw [hA.out]; rfl, B2.out⟩
      · have g1 : (a.toList == b.toList) = false := by rw [list_of_bytes, list_of_bytes, beq_eq_false_iff_ne]; exact e1
        by_cases e2 : b.data.toList = [47]
        · have g2 : (b.toList == [47]) = true := by rw [list_of_bytes, beq_iff_eq]; exact e2
          have hA : Hid (underB a b = true) := Lib.hid (by rw [hu, decide_eq_true e2, Bool.or_true]; rfl)
          clear hu
          go_wp2_with fail
          go_ret
          exact ⟨by rw [hA.out]; rfl, B2.out⟩
        · have g2 : (b.toList == [47]) = false := by rw [list_of_bytes, beq_eq_false_iff_ne]; exact e2
          have hA : Hid (underB a b = Lib.hasPrefix a.data.toList (b.data.toList ++ [47])) := Lib.hid (by rw [hu, decide_eq_false e1, decide_eq_false e2]; rfl)
          have HP : Hid (∀ W, Calls Tryz.prog 97 #[.string a, .string (b ++ ⟨#[47]⟩)] W fun e w' => e = .returned (.bool (Lib.hasPrefix a.data.toList (b.data.toList ++ [47]))) ∧ w' = W) := Lib.hid fun W => by
            have := Tryz.strings_HasPrefix a (b ++ ⟨#[47]⟩) W
            rw [show (b ++ (⟨#[47]⟩ : ByteArray)).data.toList = b.data.toList ++ [47] by simp] at this
            exact this
          clear hu
          go_wp2_with fail
          refine (HP.out w2).mono ?_
          rintro e w3 ⟨rfl, rfl⟩
          go_wp2_with fail
          go_ret
          exact ⟨by rw [hA.out]; rfl, B2.out⟩
end Go.Proofs.YthdofbjijpghfaaGreatDoor.L
end S0

section S1
namespace Go.Proofs.YthdofbjijpghfaaGreatDoor.L
open Go.RowKit
set_option maxHeartbeats 4000000 in
set_option maxRecDepth 100000 in
theorem refName_any (s : ByteArray) (w : World) : Calls Tryz.prog 82 #[.string s] w fun e w' => e = .returned (.bool (nameB s)) ∧ w' = w := by
  go_enter Tryz.func82, Tryz.ntmps82
  by_cases h0 : s.size = 0
  · have g0 : decide ((s.size : Int) < 1) = true := decide_eq_true (by omega)
    have hA : Hid (nameB s = false) := Lib.hid (by unfold nameB; rw [decide_eq_false (show ¬ 0 < s.size by omega)]; rfl)
    go_wp2
    go_ret
    exact ⟨by rw [hA.out]; rfl, rfl⟩
  have g0 : decide ((s.size : Int) < 1) = false := decide_eq_false (by omega)
  by_cases h1 : 32 < s.size
  · have g1 : decide ((s.size : Int) > 32) = true := decide_eq_true (by omega)
    have hA : Hid (nameB s = false) := Lib.hid (by unfold nameB; rw [decide_eq_false (show ¬ s.size ≤ 32 by omega), Bool.and_false, Bool.false_and])
    go_wp2
    go_ret
    exact ⟨by rw [hA.out]; rfl, rfl⟩
  have g1 : decide ((s.size : Int) > 32) = false := decide_eq_false (by omega)
  have w1 : wrap64 ((s.size : Int) - 1) = (s.size : Int) - 1 := by unfold wrap64; omega
  have hp : 0 < s.size := by omega
  have hl : s.size - 1 < s.size := by omega
  by_cases hf : (s[0]'hp).toNat = 45
  · have f0 : (((s[0]'hp).toNat : Int) == 45) = true := by rw [beq_iff_eq]; omega
    have hA : Hid (nameB s = false) := Lib.hid (nameB_false hp (by
      unfold okAt
      rw [get_lit s 0 hp, hf]
      rfl))
    go_wp2
    go_ret
    exact ⟨by rw [hA.out]; rfl, rfl⟩
  have f0 : (((s[0]'hp).toNat : Int) == 45) = false := by rw [beq_eq_false_iff_ne]; omega
  by_cases he : (s[s.size - 1]'hl).toNat = 45
  · have f1 : (((s[s.size - 1]'hl).toNat : Int) == 45) = true := by rw [beq_iff_eq]; omega
    have hA : Hid (nameB s = false) := Lib.hid (nameB_false hl (by
      unfold okAt
      rw [get_lit s _ hl, he, decide_eq_false (show ¬ s.size - 1 + 1 < s.size by omega), Bool.and_false]
      rfl))
    go_wp2
    go_ret
    exact ⟨by rw [hA.out]; rfl, rfl⟩
  have f1 : (((s[s.size - 1]'hl).toNat : Int) == 45) = false := by rw [beq_eq_false_iff_ne]; omega
  have F0 := Lib.hid hf
  have F1 := Lib.hid he
  clear hf he
  go_wp2
  clear f0 f1
  go_loopg [3] s.size (fun g si wr => ∃ (k : Nat), k ≤ s.size ∧ g = s.size - k ∧ si = .int .i64 k ∧ (∀ i, i < k → i < s.size → okAt s i = true) ∧ wr = w)
  case atStart => exact ⟨0, Nat.zero_le _, rfl, rfl, fun i h => by omega, rfl⟩
  case round =>
    obtain ⟨k, hk, hg, rfl, hok, rfl⟩ := hrel
    have R : Aside (gk = s.size - k ∧ ∀ i, i < k → i < s.size → okAt s i = true) := ⟨hg, hok⟩
    clear hg hok
    by_cases hlt : k < s.size
    · have hlt' : (k : Int) < (s.size : Int) := by omega
      obtain ⟨c, hc⟩ : ∃ c, c = (s[k]'hlt).toNat := ⟨_, rfl⟩
      have hc' : (s.get! k).toNat = c := by rw [get_lit s k hlt]; exact hc.symm
      have C : Hid ((s.get! k).toNat = c) := hc'
      have fc : ((s[k]'hlt).toNat : Int) = (c : Int) := by rw [hc]
      clear hc hc'
      rcases (by omega : (c = 45) ∨ (c < 48 ∧ c ≠ 45) ∨ (48 ≤ c ∧ c ≤ 57) ∨ (58 ≤ c ∧ c ≤ 96) ∨ (97 ≤ c ∧ c ≤ 122) ∨ (122 < c)) with hx | hx | hx | hx | hx | hx
      · have gge97 : decide ((c : Int) ≥ 97) = false := decide_eq_false (by omega)
        have gge48 : decide ((c : Int) ≥ 48) = false := decide_eq_false (by omega)
        have gne45 : ((c : Int) != 45) = false := by rw [bne_eq_false_iff_eq]; omega
        have gq : ((c : Int) == 45) = true := by rw [beq_iff_eq]; omega
        have hA : Hid (okAt s k = true) := Lib.hid (by
          have n0 : 0 < k := by
            rcases Nat.eq_zero_or_pos k with e | e
            · subst e
              exact absurd ((get_lit s 0 hp).symm ▸ hx ▸ C.out : (s[0]'hp).toNat = 45) F0.out
            · exact e
          have n1 : k + 1 < s.size := by
            rcases Nat.lt_or_ge (k + 1) s.size with e | e
            · exact e
            · have ek : k = s.size - 1 := by omega
              subst ek
              have h1 := C.out
              rw [get_lit s _ hl, hx] at h1
              exact absurd h1 F1.out
          unfold okAt
          rw [C.out, decide_eq_true n0, decide_eq_true n1, decide_eq_true hx, Bool.and_self, Bool.and_self, Bool.or_true])
        clear hx
        go_wp2
        go_roundg (s.size - (k + 1))
        case measure => have := R.out.1; omega
        case rel => exact ⟨k + 1, by omega, rfl, by go_num, grow_ok R.out.2 hA.out, rfl⟩
      · have gge97 : decide ((c : Int) ≥ 97) = false := decide_eq_false (by omega)
        have gge48 : decide ((c : Int) ≥ 48) = false := decide_eq_false (by omega)
        have gne45 : ((c : Int) != 45) = true := by rw [bne_iff_ne]; omega
        have gq : ((c : Int) == 45) = false := by rw [beq_eq_false_iff_ne]; omega
        have hA : Hid (nameB s = false) := Lib.hid (nameB_false hlt (by
          unfold okAt plainN
          rw [C.out, decide_eq_false (show ¬ c = 45 by omega), Bool.and_false, Bool.or_false]
          simp
          omega))
        clear hx
        go_wp2
        go_ret
        exact ⟨by rw [hA.out]; rfl, rfl⟩
      · have gge97 : decide ((c : Int) ≥ 97) = false := decide_eq_false (by omega)
        have gge48 : decide ((c : Int) ≥ 48) = true := decide_eq_true (by omega)
        have gle57 : decide ((c : Int) ≤ 57) = true := decide_eq_true (by omega)
        have hA : Hid (okAt s k = true) := Lib.hid (by unfold okAt plainN; rw [C.out]; simp [hx])
        clear hx
        go_wp2
        go_roundg (s.size - (k + 1))
        case measure => have := R.out.1; omega
        case rel => exact ⟨k + 1, by omega, rfl, by go_num, grow_ok R.out.2 hA.out, rfl⟩
      · have gge97 : decide ((c : Int) ≥ 97) = false := decide_eq_false (by omega)
        have gge48 : decide ((c : Int) ≥ 48) = true := decide_eq_true (by omega)
        have gle57 : decide ((c : Int) ≤ 57) = false := decide_eq_false (by omega)
        have gne45 : ((c : Int) != 45) = true := by rw [bne_iff_ne]; omega
        have gq : ((c : Int) == 45) = false := by rw [beq_eq_false_iff_ne]; omega
        have hA : Hid (nameB s = false) := Lib.hid (nameB_false hlt (by
          unfold okAt plainN
          rw [C.out, decide_eq_false (show ¬ c = 45 by omega), Bool.and_false, Bool.or_false]
          simp
          omega))
        clear hx
        go_wp2
        go_ret
        exact ⟨by rw [hA.out]; rfl, rfl⟩
      · have gge97 : decide ((c : Int) ≥ 97) = true := decide_eq_true (by omega)
        have gle122 : decide ((c : Int) ≤ 122) = true := decide_eq_true (by omega)
        have hA : Hid (okAt s k = true) := Lib.hid (by unfold okAt plainN; rw [C.out]; simp [hx])
        clear hx
        go_wp2
        go_roundg (s.size - (k + 1))
        case measure => have := R.out.1; omega
        case rel => exact ⟨k + 1, by omega, rfl, by go_num, grow_ok R.out.2 hA.out, rfl⟩
      · have gge97 : decide ((c : Int) ≥ 97) = true := decide_eq_true (by omega)
        have gle122 : decide ((c : Int) ≤ 122) = false := decide_eq_false (by omega)
        have gge48 : decide ((c : Int) ≥ 48) = true := decide_eq_true (by omega)
        have gle57 : decide ((c : Int) ≤ 57) = false := decide_eq_false (by omega)
        have gne45 : ((c : Int) != 45) = true := by rw [bne_iff_ne]; omega
        have gq : ((c : Int) == 45) = false := by rw [beq_eq_false_iff_ne]; omega
        have hA : Hid (nameB s = false) := Lib.hid (nameB_false hlt (by
          unfold okAt plainN
          rw [C.out, decide_eq_false (show ¬ c = 45 by omega), Bool.and_false, Bool.or_false]
          simp
          omega))
        clear hx
        go_wp2
        go_ret
        exact ⟨by rw [hA.out]; rfl, rfl⟩
    · have hA : Hid (nameB s = true) := Lib.hid (nameB_true hp (by omega) fun i hi => R.out.2 i (by omega) hi)
      go_wp2
      go_ret
      exact ⟨by rw [hA.out]; rfl, rfl⟩
end Go.Proofs.YthdofbjijpghfaaGreatDoor.L
end S1

section S2
namespace Go.Proofs.YthdofbjijpghfaaGreatDoor.L
open Go.RowKit
theorem pathOf_take (ts : List ByteArray) (k : Nat) (h : k < ts.length) : pathOf (ts.take (k + 1)) = pathOf (ts.take k) ++ (47 :: (ts.getD k ⟨#[]⟩).data.toList) := by
  rw [take_one ts k ⟨#[]⟩ h, pathOf, List.flatMap_append, ← pathOf]
  simp
theorem bytes_size (l : List UInt8) : (⟨l.toArray⟩ : ByteArray).size = l.length := by simp [ByteArray.size]
theorem bytes_app (l m : List UInt8) : (⟨l.toArray⟩ : ByteArray) ++ ⟨m.toArray⟩ = ⟨(l ++ m).toArray⟩ := by
  apply ByteArray.ext
  simp
set_option maxHeartbeats 4000000 in
set_option maxRecDepth 100000 in
theorem refJoin_any (v : Value) (ts : List ByteArray) (w : World) (hv : Strs w v ts) (hlen : ts.length ≤ 8796093021952) :
    Calls Tryz.prog 98 #[v] w fun e w' => e = .returned (.tuple #[.string (joinR ts).1, .int .i64 (joinR ts).2]) ∧ Below w.heap.size w w' := by
  have V : Aside (Strs w v ts) := hv
  obtain ⟨a, cap, rfl, hlc, hcm⟩ := hv.len
  unfold maxLen at hcm
  clear hv
  go_enter Tryz.func98, Tryz.ntmps98
  go_wp2_with fail
  go_loopg [4, 5] ts.length (fun g ss si wr => ∃ (k : Nat), k ≤ ts.length ∧ g = ts.length - k ∧ si = .int .i64 k ∧ ss = .string ⟨(pathOf (ts.take k)).toArray⟩ ∧ (ts.take k).all nameB = true ∧ wr = w)
  case atStart => exact ⟨0, Nat.zero_le _, rfl, rfl, rfl, rfl, rfl⟩
  case round =>
    obtain ⟨k, hk, hg, rfl, rfl, ha, rfl⟩ := hrel
    have R : Aside (gk = ts.length - k ∧ (ts.take k).all nameB = true) := ⟨hg, ha⟩
    obtain ⟨p, hp⟩ : ∃ p, p = pathOf (ts.take k) := ⟨_, rfl⟩
    rw [← hp]
    have P : Aside (p = pathOf (ts.take k)) := hp
    have hps : p.length ≤ 8796093021952 * 33 := by
      have h1 := pathOf_length (ts.take k) ha
      rw [← hp, List.length_take] at h1
      omega
    have sz := bytes_size p
    clear hg ha hp
    by_cases hlt : k < ts.length
    · obtain ⟨b, off, rfl, p0⟩ := V.out.at k hlt
      obtain ⟨t, ht⟩ : ∃ t, t = ts.getD k ⟨#[]⟩ := ⟨_, rfl⟩
      rw [← ht] at p0
      have C : Aside (t = ts.getD k ⟨#[]⟩) := ht
      clear ht
      have hlt' : (k : Int) < (ts.length : Int) := by omega
      have N := Lib.hid (refName_any t)
      cases hn : nameB t with
      | true =>
        rw [hn] at N
        have ht32 := name_size hn
        have e1 : (⟨p.toArray⟩ : ByteArray) ++ ⟨#[47]⟩ = ⟨(p ++ [47]).toArray⟩ := bytes_app p [47]
        have e2 : (⟨(p ++ [47]).toArray⟩ : ByteArray) ++ t = ⟨(p ++ [47] ++ t.data.toList).toArray⟩ := bytes_app (p ++ [47]) t.data.toList
        have sz1 : (⟨(p ++ [47]).toArray⟩ : ByteArray).size = p.length + 1 := by rw [bytes_size, List.length_append]; rfl
        have hA : Hid (pathOf (ts.take (k + 1)) = p ++ [47] ++ t.data.toList) := Lib.hid (by rw [pathOf_take ts k hlt, ← P.out, ← C.out, List.append_assoc]; rfl)
        go_wp2_with fail
        refine (N.out _).mono ?_
        rintro e w1 ⟨rfl, rfl⟩
        go_wp2_with fail
        go_roundg (ts.length - (k + 1))
        case measure => have := R.out.1; omega
        case rel => exact ⟨k + 1, by omega, rfl, by go_num, by rw [hA.out]; simp, by rw [take_one ts k ⟨#[]⟩ hlt, ← C.out, List.all_append, R.out.2]; simp [hn], rfl⟩
      | false =>
        rw [hn] at N
        have hr : Hid (joinR ts = (⟨#[]⟩, 40)) := Lib.hid (by
          have : ts.all nameB = false := by
            rw [List.all_eq_false]
            refine ⟨t, ?_, by rw [hn]; exact Bool.false_ne_true⟩
            rw [C.out, List.getD_eq_getElem?_getD, List.getElem?_eq_getElem hlt]
            exact List.getElem_mem hlt
          unfold joinR
          rw [this]
          rfl)
        go_wp2_with fail
        refine (N.out _).mono ?_
        rintro e w1 ⟨rfl, rfl⟩
        go_wp2_with fail
        go_ret2
        exact ⟨by rw [hr.out]; rfl, Below.refl _ _⟩
    · have hall : ts.all nameB = true := by
        have := R.out.2
        rwa [List.take_of_length_le (by omega)] at this
      have hP : p = pathOf ts := by rw [P.out, List.take_of_length_le (by omega)]
      have HP := Lib.hid hP
      have HA := Lib.hid hall
      clear hP hall
      by_cases h8 : ts.length ≤ 8
      · have g8 : decide ((ts.length : Int) > 8) = false := decide_eq_false (by omega)
        by_cases h64 : p.length ≤ 64
        · have g64 : decide ((p.length : Int) > 64) = false := decide_eq_false (by omega)
          by_cases hpn : p = []
          · subst hpn
            have hts : ts = [] := by
              cases ts with
              | nil => rfl
              | cons t r =>
                have := HP.out
                rw [pathOf, List.flatMap_cons] at this
                simp at this
            have hr : Hid (joinR ts = (⟨#[47]⟩, 0)) := Lib.hid (by subst hts; rfl)
            go_wp2_with fail
            go_ret2
            exact ⟨by rw [hr.out]; rfl, Below.refl _ _⟩
          · have hts : ts ≠ [] := by
              intro h
              subst h
              exact hpn HP.out
            have gne : p.isEmpty = false := by
              cases p with
              | nil => exact absurd rfl hpn
              | cons x q => rfl
            have hr : Hid (joinR ts = (⟨p.toArray⟩, 0)) := Lib.hid (by
              unfold joinR pathL
              rw [HA.out, if_pos rfl, if_pos h8, if_neg hts, ← HP.out, if_pos h64])
            go_wp2_with fail
            go_ret2
            exact ⟨by rw [hr.out]; rfl, Below.refl _ _⟩
        · have g64 : decide ((p.length : Int) > 64) = true := decide_eq_true (by omega)
          have hts : ts ≠ [] := by
            intro h
            subst h
            have := HP.out
            rw [pathOf] at this
            simp at this
            rw [this] at h64
            exact h64 (Nat.zero_le _)
          have hr : Hid (joinR ts = (⟨#[]⟩, 41)) := Lib.hid (by
            unfold joinR pathL
            rw [HA.out, if_pos rfl, if_pos h8, if_neg hts, ← HP.out, if_neg h64])
          go_wp2_with fail
          go_ret2
          exact ⟨by rw [hr.out]; rfl, Below.refl _ _⟩
      · have g8 : decide ((ts.length : Int) > 8) = true := decide_eq_true (by omega)
        have hr : Hid (joinR ts = (⟨#[]⟩, 41)) := Lib.hid (by unfold joinR; rw [HA.out, if_pos rfl, if_neg h8])
        go_wp2_with fail
        go_ret2
        exact ⟨by rw [hr.out]; rfl, Below.refl _ _⟩
end Go.Proofs.YthdofbjijpghfaaGreatDoor.L
end S2

section S3
namespace Go.Proofs.YthdofbjijpghfaaGreatDoor.L
open Go.RowKit
theorem Strs.tail {w : World} {g n cap : Nat} {ts : List ByteArray} (h : Strs w (.slice (some ⟨g, 0, none⟩) n cap) ts) (hn : 0 < ts.length) : Strs w (.slice (some ⟨g, 1, none⟩) (n - 1) (cap - 1)) ts.tail := by
  obtain ⟨a, c, e, h1, h2, _, h3⟩ := h
  simp only [Value.slice.injEq] at e
  obtain ⟨rfl, rfl, rfl⟩ := e
  refine ⟨_, cap - 1, by rw [List.length_tail], by rw [List.length_tail]; omega, by unfold maxLen at h2 ⊢; omega, (fun h => by cases h), fun k hk => ⟨g, 1, rfl, ?_⟩⟩
  rw [List.length_tail] at hk
  obtain ⟨b, off, e, hc⟩ := h3 (k + 1) (by omega)
  cases e
  rw [show 1 + k = 0 + (k + 1) by omega, hc]
  congr 2
  cases ts with
  | nil => simp at hn
  | cons t r => simp
theorem Strs.take {w : World} {a : Option Addr} {n cap : Nat} {ts : List ByteArray} (h : Strs w (.slice a n cap) ts) (k : Nat) (hk : k ≤ ts.length) : Strs w (.slice a k cap) (ts.take k) := by
  obtain ⟨a', c, e, h1, h2, h0, h3⟩ := h
  simp only [Value.slice.injEq] at e
  obtain ⟨rfl, rfl, rfl⟩ := e
  have hl : (ts.take k).length = k := by rw [List.length_take]; omega
  refine ⟨a, cap, by rw [hl], by rw [hl]; omega, h2, h0, fun j hj => ?_⟩
  rw [hl] at hj
  obtain ⟨b, off, e, hc⟩ := h3 j (by omega)
  refine ⟨b, off, e, ?_⟩
  rw [hc]
  congr 2
  rw [List.getD_eq_getElem?_getD, List.getD_eq_getElem?_getD, List.getElem?_take_of_lt hj]
theorem extract_bytes (s : ByteArray) (f k : Nat) : s.extract f k = bytesOf ((s.data.toList.drop f).take (k - f)) := by
  apply data_inj
  rw [Lib.extract_data]
  show _ = ((s.data.toList.drop f).take (k - f)).toArray.toList
  rw [List.toList_toArray]
/-- Where the cutting stands. -/
def Cutting (s : List UInt8) (f k : Nat) (done : List (List UInt8)) : Prop := f ≤ k ∧ done.length ≤ f ∧ pieces 47 s = done ++ pieces 47 (s.drop f) ∧ 47 ∉ (s.drop f).take (k - f)
theorem cutting_start (s : List UInt8) : Cutting s 0 0 [] := ⟨Nat.le_refl _, Nat.le_refl _, rfl, by simp⟩
theorem drop_split (s : List UInt8) {f k : Nat} (hf : f ≤ k) (hk : k < s.length) : s.drop f = (s.drop f).take (k - f) ++ s[k] :: s.drop (k + 1) := by
  have h1 : s.drop f = (s.drop f).take (k - f) ++ (s.drop f).drop (k - f) := (List.take_append_drop _ _).symm
  rw [List.drop_drop, show f + (k - f) = k by omega, List.drop_eq_getElem_cons hk] at h1
  exact h1
theorem Cutting.go {s : List UInt8} {f k : Nat} {done : List (List UInt8)} (h : Cutting s f k done) (hk : k < s.length) (hc : s[k] ≠ 47) : Cutting s f (k + 1) done := by
  obtain ⟨h1, h2, h3, h4⟩ := h
  refine ⟨by omega, h2, h3, ?_⟩
  rw [show k + 1 - f = (k - f) + 1 by omega, List.take_add_one, List.mem_append, not_or]
  refine ⟨h4, ?_⟩
  rw [List.getElem?_drop, show f + (k - f) = k by omega, List.getElem?_eq_getElem hk]
  simp only [Option.toList_some, List.mem_singleton]
  exact fun e => hc e.symm
theorem Cutting.cut {s : List UInt8} {f k : Nat} {done : List (List UInt8)} (h : Cutting s f k done) (hk : k < s.length) (hc : s[k] = 47) : Cutting s (k + 1) (k + 1) (done ++ [(s.drop f).take (k - f)]) := by
  obtain ⟨h1, h2, h3, h4⟩ := h
  refine ⟨Nat.le_refl _, by rw [List.length_append, List.length_singleton]; omega, ?_, by simp⟩
  have hd := drop_split s h1 hk
  rw [hc] at hd
  rw [h3, List.append_assoc]
  congr 1
  conv => lhs; rw [hd]
  rw [pieces_app _ _ _ h4]
  rfl
theorem Cutting.done {s : List UInt8} {f : Nat} {done : List (List UInt8)} (h : Cutting s f s.length done) : pieces 47 s = done ++ [(s.drop f).take (s.length - f)] := by
  obtain ⟨h1, h2, h3, h4⟩ := h
  have e : (s.drop f).take (s.length - f) = s.drop f := List.take_of_length_le (by rw [List.length_drop]; omega)
  rw [e] at h4 ⊢
  rw [h3, pieces_free _ _ h4]
set_option maxHeartbeats 8000000 in
set_option maxRecDepth 100000 in
theorem refPieces_any (s : ByteArray) (w : World) (hs : s.size ≤ 1048576) :
    Calls Tryz.prog 83 #[.string s, .int .u8 47] w fun e w' => ∃ v, e = .returned v ∧ OwnS w.heap.size w' v ((pieces 47 s.data.toList).map bytesOf) ∧ Below w.heap.size w w' := by
  have sl : s.data.toList.length = s.size := by simp
  go_enter Tryz.func83, Tryz.ntmps83
  go_wp2_with fail
  go_loopg [5, 6, 7] (s.size + 1) (fun g so sf si wr => ∃ (k f : Nat) (vo : Value), g = s.size + 1 - k ∧ si = .int .i64 k ∧ sf = .int .i64 f ∧ so = vo ∧ f ≤ s.size + 1 ∧ Below w.heap.size w wr ∧
    ((k ≤ s.size ∧ ∃ done, Cutting s.data.toList f k done ∧ OwnS w.heap.size wr vo (done.map bytesOf)) ∨ (k = s.size + 1 ∧ OwnS w.heap.size wr vo ((pieces 47 s.data.toList).map bytesOf))))
  case atStart => exact ⟨0, 0, _, rfl, rfl, rfl, rfl, by omega, Below.refl _ _, Or.inl ⟨Nat.zero_le _, [], cutting_start _, World.ownsRow_nil _ _ _ _⟩⟩
  case round =>
    obtain ⟨k, f, vo, hg, rfl, rfl, rfl, hf, hb, hst⟩ := hrel
    have GK := Lib.hid hg
    have HB := Lib.hid hb
    have S0 := Lib.hid hb.size
    clear hg hb
    rcases hst with ⟨hk, done, hC, hO⟩ | ⟨hk, hO⟩
    · have O := Lib.hid hO
      have C := Lib.hid hC
      have hfk := hC.1
      have L : Hid (((done.map bytesOf).length + 1) * 16 ≤ 140737488355328) := Lib.hid (by rw [List.length_map]; have := hC.2.1; omega)
      clear hO hC
      have hk' : decide ((k : Int) ≤ (s.size : Int)) = true := decide_eq_true (by omega)
      have ex := Lib.hid (extract_bytes s f k)
      by_cases hlt : k < s.size
      · have ge : ((k : Int) == (s.size : Int)) = false := by rw [beq_eq_false_iff_ne]; omega
        have hlt' : (k : Int) < (s.size : Int) := by omega
        have hcs : s.data.toList[k]'(by omega) = s[k]'hlt := by simp [ByteArray.getElem_eq_getElem_data]
        by_cases hc : s[k]'hlt = 47
        · have gc : (((s[k]'hlt).toNat : Int) == 47) = true := by rw [hc]; rfl
          go_wp2_with (at_builtin; refine app_txt rfl _ _ rfl rfl O.out S0.out (s.extract f k) rfl L.out ?_)
          intro v' w' h1 h2
          have B2 := Lib.hid (HB.out.trans ((Below.refl _ _).grown h2 S0.out (fun k hk => (O.out.lt k hk).1)))
          have O2 : Hid (OwnS w.heap.size w' v' ((done ++ [(s.data.toList.drop f).take (k - f)]).map bytesOf)) := Lib.hid (by
            rw [List.map_append, List.map_singleton, ← ex.out]
            exact h1)
          have C2 := Lib.hid (C.out.cut (by omega) (hcs.trans hc))
          clear h1 h2 O C L
          go_wp2_with fail
          go_roundg (s.size + 1 - (k + 1))
          case measure => have := GK.out; omega
          case rel => exact ⟨k + 1, k + 1, _, rfl, by go_num, by go_num, rfl, by omega, B2.out, Or.inl ⟨by omega, _, C2.out, O2.out⟩⟩
        · have gc : (((s[k]'hlt).toNat : Int) == 47) = false := by
            rw [beq_eq_false_iff_ne]
            intro h
            have h9 : (s[k]'hlt).toNat = 47 := by omega
            exact hc (UInt8.toNat_inj.1 (h9.trans rfl))
          have C2 := Lib.hid (C.out.go (by omega) (fun h => hc (hcs.symm.trans h)))
          go_wp2_with fail
          go_roundg (s.size + 1 - (k + 1))
          case measure => have := GK.out; omega
          case rel => exact ⟨k + 1, f, _, rfl, by go_num, rfl, rfl, hf, HB.out, Or.inl ⟨by omega, _, C2.out, O.out⟩⟩
      · have ge : ((k : Int) == (s.size : Int)) = true := by rw [beq_iff_eq]; omega
        have EK : Hid (k = s.size) := Lib.hid (by omega)
        go_wp2_with (at_builtin; refine app_txt rfl _ _ rfl rfl O.out S0.out (s.extract f k) rfl L.out ?_)
        intro v' w' h1 h2
        have B2 := Lib.hid (HB.out.trans ((Below.refl _ _).grown h2 S0.out (fun k hk => (O.out.lt k hk).1)))
        have O2 : Hid (OwnS w.heap.size w' v' ((pieces 47 s.data.toList).map bytesOf)) := Lib.hid (by
          have hd : Cutting s.data.toList f s.data.toList.length done := by rw [sl, ← EK.out]; exact C.out
          rw [hd.done, List.map_append, List.map_singleton, sl, ← EK.out, ← ex.out]
          exact h1)
        clear h1 h2 O C L
        go_wp2_with fail
        go_roundg (s.size + 1 - (k + 1))
        case measure => have := GK.out; omega
        case rel => exact ⟨k + 1, k + 1, _, rfl, by go_num, by go_num, rfl, by omega, B2.out, Or.inr ⟨by omega, O2.out⟩⟩
    · subst hk
      have hk' : decide (((s.size : Int) + 1) ≤ (s.size : Int)) = false := decide_eq_false (by omega)
      have O := Lib.hid hO
      clear hO
      go_wp2_with fail
      go_ret
      exact ⟨_, rfl, O.out, HB.out⟩
end Go.Proofs.YthdofbjijpghfaaGreatDoor.L
end S3

section S4
namespace Go.Proofs.YthdofbjijpghfaaGreatDoor.L
open Go.RowKit
theorem pieces_head_ne {p : List UInt8} (h : Lib.hasPrefix p [47] = false) : (pieces 47 p).length < 2 ∨ ∃ x r, (pieces 47 p) = x :: r ∧ x ≠ [] := by
  cases p with
  | nil => exact Or.inl (by decide)
  | cons b l =>
    have hb : b ≠ 47 := by
      intro e
      subst e
      simp [Lib.hasPrefix] at h
    rw [pieces_cons, if_neg hb]
    exact Or.inr ⟨_, _, rfl, by simp⟩
theorem pieces_slash {p : List UInt8} (h : Lib.hasPrefix p [47] = true) : pieces 47 p = [] :: pieces 47 p.tail := by
  cases p with
  | nil => cases h
  | cons b l =>
    have : b = 47 := by simp [Lib.hasPrefix] at h; exact h.symm
    rw [pieces_cons, if_pos this]
    rfl
theorem pieces_pos (c : UInt8) (l : List UInt8) : 1 ≤ (pieces c l).length := List.length_pos_iff.2 (pieces_ne c l)
set_option maxHeartbeats 8000000 in
set_option maxRecDepth 100000 in
theorem refSplit_any (p : ByteArray) (w : World) (hs : p.size ≤ 1048576) :
    Calls Tryz.prog 53 #[.string p] w fun e w' => ∃ v, e = .returned (.tuple #[v, .int .i64 (splitE p)]) ∧ Strs w' v (splitT p) ∧ Below w.heap.size w w' := by
  have nilS : ∀ W, Strs W (.slice none 0 0) [] := fun W => ⟨none, 0, rfl, by simp, by decide, fun _ => rfl, fun k hk => by simp at hk⟩
  have NS := Lib.hid nilS
  clear nilS
  have PP := Lib.hid (refPieces_any p w hs)
  go_enter Tryz.func53, Tryz.ntmps53
  by_cases hr : p.data.toList = [47]
  · have hA : Hid (splitE p = 0 ∧ splitT p = []) := Lib.hid (by unfold splitE splitT splitO; rw [if_pos hr]; exact ⟨rfl, rfl⟩)
    have hp : (p.toList == [47]) = true := by rw [list_of_bytes, hr]; rfl
    go_wp2_with fail
    go_ret2
    exact ⟨.slice none 0 0, by rw [hA.out.1]; rfl, by rw [hA.out.2]; exact NS.out _, Below.refl _ _⟩
  have hp : (p.toList == [47]) = false := by rw [list_of_bytes, beq_eq_false_iff_ne]; exact hr
  have HN : Hid (¬ (Lib.hasPrefix p.data.toList [47] = true ∧ p.size ≤ 64 ∧ ((pieces 47 p.data.toList.tail).map bytesOf).length ≤ 8 ∧ ((pieces 47 p.data.toList.tail).map bytesOf).all nameB = true) → splitE p = 41 ∧ splitT p = []) := Lib.hid (by
    intro h
    unfold splitE splitT splitO
    rw [if_neg hr, if_neg h]
    exact ⟨rfl, rfl⟩)
  go_wp2_with fail
  refine PP.out.mono ?_
  rintro e w1 ⟨v, rfl, own, hb⟩
  have B1 := Lib.hid hb
  have S1 := Lib.hid own.strs
  have hplen : ((pieces 47 p.data.toList).map bytesOf).length = (pieces 47 p.data.toList).length := by simp
  obtain ⟨g, cap, hv, hc1, hc2⟩ : ∃ g cap, v = .slice (some ⟨g, 0, none⟩) (pieces 47 p.data.toList).length cap ∧ (pieces 47 p.data.toList).length ≤ cap ∧ cap ≤ maxLen := by
    obtain ⟨_, ⟨_, h⟩ | ⟨g, cap, cur, hv, _, _, h1, h2, _⟩⟩ := own
    · rw [hplen] at h
      have := pieces_pos 47 p.data.toList
      omega
    · exact ⟨g, cap, by rw [hv, hplen], by omega, h2⟩
  subst hv
  unfold maxLen at hc2
  clear own hb PP hplen
  by_cases h64 : p.size ≤ 64
  · have g64 : decide ((p.size : Int) > 64) = false := decide_eq_false (by omega)
    cases hpre : Lib.hasPrefix p.data.toList [47] with
    | false =>
      have hA := Lib.hid (HN.out (by rw [hpre]; simp))
      have hx := pieces_head_ne hpre
      have hat := S1.out
      by_cases h2 : (pieces 47 p.data.toList).length < 2
      · have g2 : decide (((pieces 47 p.data.toList).length : Int) < 2) = true := decide_eq_true (by omega)
        clear hx hat
        obtain ⟨n, hn⟩ : ∃ n, n = (pieces 47 p.data.toList).length := ⟨_, rfl⟩
        rw [← hn] at g2 hc1 ⊢
        clear hn
        go_wp2_with fail
        go_ret2
        exact ⟨.slice none 0 0, by rw [hA.out.1]; rfl, by rw [hA.out.2]; exact NS.out _, B1.out⟩
      · have g2 : decide (((pieces 47 p.data.toList).length : Int) < 2) = false := decide_eq_false (by omega)
        obtain ⟨x, r, hxr, hxe⟩ : ∃ x r, pieces 47 p.data.toList = x :: r ∧ x ≠ [] := by
          rcases hx with h | h
          · exact absurd h h2
          · exact h
        obtain ⟨b, off, e', c0⟩ := hat.at 0 (by rw [List.length_map]; omega)
        cases e'
        rw [hxr, List.map_cons, List.getD_cons_zero, Nat.add_zero] at c0
        have gx : (bytesOf x).toList.isEmpty = false := by
          rw [list_of_bytes]
          cases x with
          | nil => exact absurd rfl hxe
          | cons y z => rfl
        obtain ⟨t, ht⟩ : ∃ t, t = bytesOf x := ⟨_, rfl⟩
        rw [← ht] at c0 gx
        obtain ⟨n, hn⟩ : ∃ n, n = (pieces 47 p.data.toList).length := ⟨_, rfl⟩
        have hn2 : 2 ≤ n := by omega
        rw [← hn] at g2 hc1 ⊢
        clear hn ht hxr hxe hx hat h2
        by_cases h9 : n ≤ 9
        · have g9 : decide ((n : Int) > 9) = false := decide_eq_false (by omega)
          go_wp2_with fail
          go_ret2
          exact ⟨.slice none 0 0, by rw [hA.out.1]; rfl, by rw [hA.out.2]; exact NS.out _, B1.out⟩
        · have g9 : decide ((n : Int) > 9) = true := decide_eq_true (by omega)
          go_wp2_with fail
          go_ret2
          exact ⟨.slice none 0 0, by rw [hA.out.1]; rfl, by rw [hA.out.2]; exact NS.out _, B1.out⟩
    | true =>
      have hsl := pieces_slash hpre
      obtain ⟨ts, hts⟩ : ∃ ts, ts = (pieces 47 p.data.toList.tail).map bytesOf := ⟨_, rfl⟩
      have hlen : (pieces 47 p.data.toList).length = ts.length + 1 := by rw [hsl, hts, List.length_cons, List.length_map]
      have hmap : (pieces 47 p.data.toList).map bytesOf = ⟨#[]⟩ :: ts := by rw [hsl, hts, List.map_cons]; rfl
      have hpos : 1 ≤ ts.length := by rw [hts, List.length_map]; exact pieces_pos _ _
      have hsome : Hid (ts.length ≤ 8 → ts.all nameB = true → splitE p = 0 ∧ splitT p = ts) := Lib.hid (by
        intro h8 hall
        have e : splitO p = some ts := by
          unfold splitO
          rw [if_neg hr, if_pos ⟨hpre, h64, by rw [← hts]; exact h8, by rw [← hts]; exact hall⟩, ← hts]
        unfold splitE splitT
        rw [e]
        exact ⟨rfl, rfl⟩)
      have hno : Hid (¬ (ts.length ≤ 8 ∧ ts.all nameB = true) → splitE p = 41 ∧ splitT p = []) := Lib.hid (by
        intro h
        refine HN.out fun h2 => h ?_
        rw [hts]
        exact h2.2.2)
      rw [hmap, hlen] at S1
      rw [hlen] at hc1 ⊢
      obtain ⟨b, off, e', c0⟩ := S1.out.at 0 (by simp)
      cases e'
      rw [List.getD_cons_zero, Nat.add_zero] at c0
      have g2 : decide ((ts.length : Int) + 1 < 2) = false := decide_eq_false (by omega)
      clear HN hts hmap hsl hlen
      by_cases h8 : ts.length ≤ 8
      · have g9 : decide ((ts.length : Int) + 1 > 9) = false := decide_eq_false (by omega)
        go_wp2_with fail
        clear c0 g2 g9
        go_loopg [5] ts.length (fun g' si wr => ∃ (k : Nat), k ≤ ts.length ∧ g' = ts.length - k ∧ si = .int .i64 ((k : Int) + 1) ∧ (ts.take k).all nameB = true ∧ Below w1.heap.size w1 wr)
        case atStart => exact ⟨0, Nat.zero_le _, rfl, rfl, rfl, Below.refl _ _⟩
        case round =>
          obtain ⟨k, hk, hgk, rfl, ha, hb⟩ := hrel
          have GK := Lib.hid hgk
          have HA := Lib.hid ha
          have HB := Lib.hid hb
          clear hgk ha hb
          by_cases hlt : k < ts.length
          · obtain ⟨b', off', e', ck⟩ := (S1.out.below HB.out).at (k + 1) (by simp; omega)
            cases e'
            rw [List.getD_cons_succ, Nat.zero_add] at ck
            obtain ⟨t, ht⟩ : ∃ t, t = ts.getD k ⟨#[]⟩ := ⟨_, rfl⟩
            rw [← ht] at ck
            have C := Lib.hid ht
            clear ht
            have hlt' : (k : Int) + 1 < (ts.length : Int) + 1 := by omega
            have RN := Lib.hid (refName_any t)
            cases hn : nameB t with
            | true =>
              rw [hn] at RN
              go_wp2_with fail
              refine (RN.out _).mono ?_
              rintro e w2 ⟨rfl, rfl⟩
              go_wp2_with fail
              go_roundg (ts.length - (k + 1))
              case measure => have := GK.out; omega
              case rel => exact ⟨k + 1, by omega, rfl, by go_num, by rw [take_one ts k ⟨#[]⟩ hlt, ← C.out, List.all_append, HA.out]; simp [hn], HB.out⟩
            | false =>
              rw [hn] at RN
              have hall : ts.all nameB = false := by
                rw [List.all_eq_false]
                refine ⟨t, ?_, by rw [hn]; exact Bool.false_ne_true⟩
                rw [C.out, List.getD_eq_getElem?_getD, List.getElem?_eq_getElem hlt]
                exact List.getElem_mem hlt
              have hA := Lib.hid (hno.out (by rw [hall]; simp))
              clear hall
              go_wp2_with fail
              refine (RN.out _).mono ?_
              rintro e w2 ⟨rfl, rfl⟩
              go_wp2_with fail
              go_ret2
              exact ⟨.slice none 0 0, by rw [hA.out.1]; rfl, by rw [hA.out.2]; exact NS.out _, B1.out.trans (HB.out.mono B1.out.size)⟩
          · have hall : ts.all nameB = true := by
              have := HA.out
              rwa [List.take_of_length_le (by omega)] at this
            have hA := Lib.hid (hsome.out h8 hall)
            have ek : k = ts.length := by omega
            subst ek
            clear hall
            have ST := Lib.hid ((S1.out.below HB.out).tail (by simp))
            go_wp2_with fail
            go_ret2
            refine ⟨_, by rw [hA.out.1]; rfl, ?_, B1.out.trans (HB.out.mono B1.out.size)⟩
            rw [hA.out.2]
            have := ST.out
            rw [List.tail_cons, Nat.add_sub_cancel] at this
            exact this
      · have g9 : decide ((ts.length : Int) + 1 > 9) = true := decide_eq_true (by omega)
        have hA := Lib.hid (hno.out (fun h => h8 h.1))
        go_wp2_with fail
        go_ret2
        exact ⟨.slice none 0 0, by rw [hA.out.1]; rfl, by rw [hA.out.2]; exact NS.out _, B1.out⟩
  · have g64 : decide ((p.size : Int) > 64) = true := decide_eq_true (by omega)
    have hA := Lib.hid (HN.out (fun h => h64 h.2.1))
    obtain ⟨n, hn⟩ : ∃ n, n = (pieces 47 p.data.toList).length := ⟨_, rfl⟩
    rw [← hn] at hc1 ⊢
    clear hn
    go_wp2_with fail
    go_ret2
    exact ⟨.slice none 0 0, by rw [hA.out.1]; rfl, by rw [hA.out.2]; exact NS.out _, B1.out⟩
end Go.Proofs.YthdofbjijpghfaaGreatDoor.L
end S4

section S5
namespace Go.Proofs.YthdofbjijpghfaaGreatDoor.L
open Go.RowKit
theorem OwnS.mono {B B' : Nat} {w : World} {v : Value} {ts : List ByteArray} (h : OwnS B w v ts) (hb : B' ≤ B) : OwnS B' w v ts := by
  obtain ⟨h1, h | ⟨g, cap, cur, hv, h0, hr⟩⟩ := h
  · exact ⟨h1, .inl h⟩
  · exact ⟨h1, .inr ⟨g, cap, cur, hv, Nat.le_trans hb h0, hr⟩⟩
theorem joinR_good {ts : List ByteArray} (hg : Good ts) : joinR ts = (pth ts, 0) := by
  unfold joinR
  rw [hg.1, if_pos rfl, if_pos hg.2.1, if_pos hg.2.2]
  rfl
set_option maxHeartbeats 2000000 in
theorem refPath_any (p : ByteArray) (w : World) (hs : p.size ≤ 1048576) : Calls Tryz.prog 34 #[.string p] w fun e w' => e = .returned (.int .i64 (splitE p)) ∧ Below w.heap.size w w' := by
  have SP := Lib.hid (refSplit_any p w hs)
  go_enter Tryz.func34, Tryz.ntmps34
  go_wp2_with fail
  refine SP.out.mono ?_
  rintro e w1 ⟨v, rfl, _, hb⟩
  have B1 := Lib.hid hb
  clear hb
  go_wp2_with fail
  go_ret
  exact ⟨rfl, B1.out⟩
set_option maxHeartbeats 2000000 in
theorem refLine_none (p : ByteArray) (w : World) (hs : p.size ≤ 1048576) (hn : splitO p = none) : Calls Tryz.prog 64 #[.string p] w fun e w' => e = .returned (.tuple #[.slice none 0 0, .int .i64 41]) ∧ Below w.heap.size w w' := by
  have SP := Lib.hid (refSplit_any p w hs)
  rw [splitE_none hn, splitT_none hn] at SP
  go_enter Tryz.func64, Tryz.ntmps64
  go_wp2_with fail
  refine SP.out.mono ?_
  rintro e w1 ⟨v, rfl, _, hb⟩
  have B1 := Lib.hid hb
  clear hb SP
  go_wp2_with fail
  go_ret2
  exact ⟨rfl, B1.out⟩
set_option maxHeartbeats 4000000 in
set_option maxRecDepth 100000 in
theorem refLine_any (ts : List ByteArray) (hg : Good ts) (w : World) : Calls Tryz.prog 64 #[.string (pth ts)] w fun e w' => ∃ v, e = .returned (.tuple #[v, .int .i64 0]) ∧ OwnS w.heap.size w' v (lineOf ts) ∧ Below w.heap.size w w' := by
  have SP := Lib.hid (refSplit_any (pth ts) w (by rw [pth_size]; have := hg.2.2; omega))
  rw [splitE_some (splitO_good hg), splitT_some (splitO_good hg)] at SP
  have GG := Lib.hid hg
  have h8 := hg.2.1
  have RJ : Hid (∀ k, k ≤ ts.length → ∀ W v, Strs W v (ts.take k) → Calls Tryz.prog 98 #[v] W fun e w' => e = .returned (.tuple #[.string (pth (ts.take k)), .int .i64 0]) ∧ Below W.heap.size W w') := Lib.hid fun k hk W v h => by
    have := refJoin_any v (ts.take k) W h (by rw [List.length_take]; omega)
    rw [joinR_good (hg.take k)] at this
    exact this
  obtain ⟨q, hq⟩ : ∃ q, q = pth ts := ⟨_, rfl⟩
  rw [← hq] at SP ⊢
  clear hg hq
  go_enter Tryz.func64, Tryz.ntmps64
  go_wp2_with fail
  refine SP.out.mono ?_
  rintro e w1 ⟨v, rfl, hs, hb⟩
  have B1 := Lib.hid hb
  have S1 := Lib.hid hs
  obtain ⟨a, cap, hv, hlc, hcm⟩ := S1.out.len
  subst hv
  unfold maxLen at hcm
  clear hb hs SP
  go_wp2_with fail
  go_loopg [6, 7] (ts.length + 1) (fun g so si wr => ∃ (m : Nat) (vo : Value), m ≤ ts.length + 1 ∧ g = ts.length + 1 - m ∧ si = .int .i64 ((ts.length : Int) - m) ∧ so = vo ∧ OwnS w1.heap.size wr vo (lineTo ts m) ∧ Below w1.heap.size w1 wr)
  case atStart => exact ⟨0, _, Nat.zero_le _, rfl, by simp, rfl, World.ownsRow_nil _ _ _ _, Below.refl _ _⟩
  case round =>
    obtain ⟨m, vo, hm, hgm, rfl, rfl, own, hb1⟩ := hrel
    have GM := Lib.hid hgm
    have O := Lib.hid own
    have HB1 := Lib.hid hb1
    clear hgm own hb1
    by_cases hlt : m < ts.length + 1
    · obtain ⟨k, hk⟩ : ∃ k, k = ts.length - m := ⟨_, rfl⟩
      have ek : (ts.length : Int) - (m : Int) = (k : Int) := by omega
      rw [ek]
      have hkl : k ≤ ts.length := by omega
      have gk : decide ((k : Int) ≥ 0) = true := decide_eq_true (by omega)
      have JK := Lib.hid (RJ.out k hkl)
      have ST := Lib.hid ((S1.out.below HB1.out).take k hkl)
      have KK := Lib.hid hk
      clear hk ek
      obtain ⟨x, hx⟩ : ∃ x, x = pth (ts.take k) := ⟨_, rfl⟩
      have X := Lib.hid hx
      rw [← hx] at JK
      clear hx
      go_wp2_with fail
      refine (JK.out _ _ ST.out).mono ?_
      rintro e w2 ⟨rfl, hb⟩
      have B2 := Lib.hid (HB1.out.trans (hb.mono HB1.out.size))
      have O2 := Lib.hid (O.out.below hb)
      have L : Hid (((lineTo ts m).length + 1) * 16 ≤ 140737488355328) := Lib.hid (by rw [lineTo_length]; omega)
      clear hb O HB1 JK ST
      go_wp2_with (at_builtin; refine app_txt rfl _ _ rfl rfl O2.out B2.out.size x rfl L.out ?_)
      intro v' w' h1 h2
      have B3 := Lib.hid (B2.out.trans ((Below.refl _ _).grown h2 B2.out.size (fun k hk => (O2.out.lt k hk).1)))
      have O3 : Hid (OwnS w1.heap.size w' v' (lineTo ts (m + 1))) := Lib.hid (by
        rw [lineTo_succ, ← KK.out, ← X.out]
        exact h1)
      clear h1 h2 O2 B2 L
      go_wp2_with fail
      go_roundg (ts.length + 1 - (m + 1))
      case measure => have := GM.out; omega
      case rel => exact ⟨m + 1, _, by omega, rfl, by have := KK.out; go_num, rfl, O3.out, B3.out⟩
    · have em : m = ts.length + 1 := by omega
      subst em
      have gk : decide ((-1 : Int) ≥ 0) = false := by decide
      rw [show (ts.length : Int) - ((ts.length + 1 : Nat) : Int) = -1 by omega]
      go_wp2_with fail
      go_ret2
      exact ⟨_, rfl, O.out.mono B1.out.size, B1.out.trans (HB1.out.mono B1.out.size)⟩
end Go.Proofs.YthdofbjijpghfaaGreatDoor.L
end S5
