/-
  Label's Name, allNames and Split, with the draws told.
-/
import Derived.Test.YtlbnmafopfljcaaDoorLPathA
import Derived.Lib.QuietBelow
namespace Go.Proofs.YtlbnmafopfljcaaDoor.L
open Go.RowKit
/-- Nothing that was there has turned, and no draw was taken back. -/
def Gd (w w' : World) : Prop := Below w.heap.size w w' ∧ w.drawn ≤ w'.drawn
theorem Gd.refl (w : World) : Gd w w := ⟨Below.refl _ _, Nat.le_refl _⟩
theorem Gd.alloc {w W : World} (h : Gd w W) (o : Obj) : Gd w (W.alloc o) := ⟨h.1.alloc h.1.size o, h.2⟩
theorem Gd.drew {w W : World} (h : Gd w W) : Gd w W.drew := ⟨h.1.drew, Nat.le_succ_of_le h.2⟩
theorem Gd.trans {a b c : World} (h : Gd a b) (k : Gd b c) : Gd a c := ⟨h.1.trans (k.1.mono h.1.size), Nat.le_trans h.2 k.2⟩
set_option maxHeartbeats 4000000 in
set_option maxRecDepth 1000000 in
theorem name_gd (s : ByteArray) (w : World) : Calls Tryd.prog 54 #[.string s] w fun e w' => e = .returned (.bool (nameB s)) ∧ Gd w w' := by
  go_enter Tryd.func54, Tryd.ntmps54
  by_cases h0 : s.size = 0
  · have e0 : s = ⟨#[]⟩ := by
      obtain ⟨⟨l⟩⟩ := s
      have : l = [] := List.length_eq_zero_iff.1 h0
      subst this
      rfl
    subst e0
    go_wp2
    go_ret
    exact ⟨rfl, Gd.refl _⟩
  have hne : s.toList.isEmpty = false := by
    rw [list_of_bytes]
    obtain ⟨⟨l⟩⟩ := s
    cases l with
    | nil => exact absurd rfl h0
    | cons x r => rfl
  by_cases h1 : 32 < s.size
  · have g : decide ((s.size : Int) > 32) = true := decide_eq_true (by omega)
    have e : nameB s = false := by
      unfold nameB
      rw [decide_eq_false (show ¬ s.size ≤ 32 by omega), Bool.and_false, Bool.false_and]
    rw [e]
    go_wp2
    go_ret
    exact ⟨rfl, Gd.refl _⟩
  have g : decide ((s.size : Int) > 32) = false := decide_eq_false (by omega)
  go_wp2
  go_loopw [3] (fun _ w' => ∃ pos, w' = w.iter s pos ∧ ∀ i, i < pos → i < s.size → okAt s i = true) (fun _ w' => s.size - w'.iterPos w.heap.size)
  case atStart => exact ⟨0, rfl, fun i h => by omega⟩
  case round =>
    obtain ⟨pos, rfl, hok⟩ := hrel
    by_cases hp : pos < s.size
    · have hnx : ∀ ty, (Instr.next (.pointer (some ⟨w.heap.size, 0, none⟩)) true ty).run Tryd.prog (w.iter s pos) = _ := fun ty => run_next_any w s pos ty hp
      have B : ∀ q, Gd w (w.iter s q) := fun q => (Gd.refl w).alloc _
      have BH := Lib.hid B
      have OK := Lib.hid hok
      clear B hok
      have w1 : wrap64 ((s.size : Int) - 1) = (s.size : Int) - 1 := by unfold wrap64; omega
      rcases letter_at s pos hp with ⟨hd, hlt⟩ | ⟨hd, hlt⟩
      · rw [hd] at hnx
        obtain ⟨c, hc⟩ : ∃ c, c = (s.get! pos).toNat := ⟨_, rfl⟩
        rw [← hc] at hnx hlt
        clear hd
        cases hpl : plainN c with
        | true =>
          have HC : Hid (∀ W, Calls Tryd.prog 70 #[.int .i32 (c : Int)] W fun e w' => e = .returned (.bool true) ∧ w' = W) := fun W => plain_any _ true (by rw [← hpl, plainN_int]) W
          have hA : Hid (okAt s pos = true) := Lib.hid (by unfold okAt; rw [← hc, hpl, Bool.true_or])
          clear hc
          rcases (by omega : (0 < pos ∧ pos + 1 < s.size) ∨ (0 < pos ∧ ¬ pos + 1 < s.size) ∨ ¬ 0 < pos) with hin | hin | hin
          · have g1 : decide ((pos : Int) > 0) = true := decide_eq_true (by omega)
            have g2 : decide ((pos : Int) < (s.size : Int) - 1) = true := decide_eq_true (by omega)
            go_wp2_with (go_at_call 70; refine (HC.out _).mono ?_; rintro e w' ⟨rfl, rfl⟩)
            go_roundw
            case rel => exact ⟨pos + 1, rfl, grow_ok OK.out hA.out⟩
            case measure => simp; omega
          · have g1 : decide ((pos : Int) > 0) = true := decide_eq_true (by omega)
            have g2 : decide ((pos : Int) < (s.size : Int) - 1) = false := decide_eq_false (by omega)
            go_wp2_with (go_at_call 70; refine (HC.out _).mono ?_; rintro e w' ⟨rfl, rfl⟩)
            go_roundw
            case rel => exact ⟨pos + 1, rfl, grow_ok OK.out hA.out⟩
            case measure => simp; omega
          · have g1 : decide ((pos : Int) > 0) = false := decide_eq_false (by omega)
            go_wp2_with (go_at_call 70; refine (HC.out _).mono ?_; rintro e w' ⟨rfl, rfl⟩)
            go_roundw
            case rel => exact ⟨pos + 1, rfl, grow_ok OK.out hA.out⟩
            case measure => simp; omega
        | false =>
          have HC : Hid (∀ W, Calls Tryd.prog 70 #[.int .i32 (c : Int)] W fun e w' => e = .returned (.bool false) ∧ w' = W) := fun W => plain_any _ false (by rw [← hpl, plainN_int]) W
          rcases (by omega : (0 < pos ∧ pos + 1 < s.size) ∨ (0 < pos ∧ ¬ pos + 1 < s.size) ∨ ¬ 0 < pos) with hin | hin | hin
          · have g1 : decide ((pos : Int) > 0) = true := decide_eq_true (by omega)
            have g2 : decide ((pos : Int) < (s.size : Int) - 1) = true := decide_eq_true (by omega)
            by_cases hm : c = 45
            · have g3 : ((c : Int) == 45) = true := by rw [beq_iff_eq]; omega
              have hA : Hid (okAt s pos = true) := Lib.hid (by unfold okAt; rw [← hc, hpl, decide_eq_true hin.1, decide_eq_true hin.2, decide_eq_true hm]; rfl)
              clear hc hm
              go_wp2_with (go_at_call 70; refine (HC.out _).mono ?_; rintro e w' ⟨rfl, rfl⟩)
              go_roundw
              case rel => exact ⟨pos + 1, rfl, grow_ok OK.out hA.out⟩
              case measure => simp; omega
            · have g3 : ((c : Int) == 45) = false := by rw [beq_eq_false_iff_ne]; omega
              have hA : Hid (nameB s = false) := Lib.hid (nameB_false hp (by unfold okAt; rw [← hc, hpl, decide_eq_false hm, Bool.and_false]; rfl))
              clear hc hm
              go_wp2_with (go_at_call 70; refine (HC.out _).mono ?_; rintro e w' ⟨rfl, rfl⟩)
              go_ret
              exact ⟨by rw [hA.out]; rfl, BH.out _⟩
          · have g1 : decide ((pos : Int) > 0) = true := decide_eq_true (by omega)
            have g2 : decide ((pos : Int) < (s.size : Int) - 1) = false := decide_eq_false (by omega)
            have hA : Hid (nameB s = false) := Lib.hid (nameB_false hp (by unfold okAt; rw [← hc, hpl]; rw [decide_eq_false hin.2, Bool.and_false]; rfl))
            clear hc
            go_wp2_with (go_at_call 70; refine (HC.out _).mono ?_; rintro e w' ⟨rfl, rfl⟩)
            go_ret
            exact ⟨by rw [hA.out]; rfl, BH.out _⟩
          · have g1 : decide ((pos : Int) > 0) = false := decide_eq_false (by omega)
            have hA : Hid (nameB s = false) := Lib.hid (nameB_false hp (by unfold okAt; rw [← hc, hpl]; rw [decide_eq_false hin]; rfl))
            clear hc
            go_wp2_with (go_at_call 70; refine (HC.out _).mono ?_; rintro e w' ⟨rfl, rfl⟩)
            go_ret
            exact ⟨by rw [hA.out]; rfl, BH.out _⟩
      · obtain ⟨⟨l, q⟩, hlq⟩ : ∃ x, x = Utf8.decode s pos := ⟨_, rfl⟩
        rw [← hlq] at hnx hd
        have hl : 128 ≤ l := hd
        have HC : Hid (∀ W, Calls Tryd.prog 70 #[.int .i32 (l : Int)] W fun e w' => e = .returned (.bool false) ∧ w' = W) := fun W => plain_any _ false (by
          rw [decide_eq_false (show ¬ ((l : Int) ≤ 122) by omega), decide_eq_false (show ¬ ((l : Int) ≤ 57) by omega), Bool.and_false, Bool.and_false]; rfl) W
        have g3 : ((l : Int) == 45) = false := by rw [beq_eq_false_iff_ne]; omega
        have hA : Hid (nameB s = false) := Lib.hid (nameB_false hp (by
          unfold okAt plainN
          rw [decide_eq_false (show ¬ (s.get! pos).toNat ≤ 122 by omega), decide_eq_false (show ¬ (s.get! pos).toNat ≤ 57 by omega), decide_eq_false (show ¬ (s.get! pos).toNat = 45 by omega), Bool.and_false, Bool.and_false, Bool.and_false]; rfl))
        clear hlq hd hl hlt
        rcases (by omega : (0 < pos ∧ pos + 1 < s.size) ∨ (0 < pos ∧ ¬ pos + 1 < s.size) ∨ ¬ 0 < pos) with hin | hin | hin
        · have g1 : decide ((pos : Int) > 0) = true := decide_eq_true (by omega)
          have g2 : decide ((pos : Int) < (s.size : Int) - 1) = true := decide_eq_true (by omega)
          go_wp2_with (go_at_call 70; refine (HC.out _).mono ?_; rintro e w' ⟨rfl, rfl⟩)
          go_ret
          exact ⟨by rw [hA.out]; rfl, BH.out _⟩
        · have g1 : decide ((pos : Int) > 0) = true := decide_eq_true (by omega)
          have g2 : decide ((pos : Int) < (s.size : Int) - 1) = false := decide_eq_false (by omega)
          go_wp2_with (go_at_call 70; refine (HC.out _).mono ?_; rintro e w' ⟨rfl, rfl⟩)
          go_ret
          exact ⟨by rw [hA.out]; rfl, BH.out _⟩
        · have g1 : decide ((pos : Int) > 0) = false := decide_eq_false (by omega)
          go_wp2_with (go_at_call 70; refine (HC.out _).mono ?_; rintro e w' ⟨rfl, rfl⟩)
          go_ret
          exact ⟨by rw [hA.out]; rfl, BH.out _⟩
    · have hnx : ∀ ty, (Instr.next (.pointer (some ⟨w.heap.size, 0, none⟩)) true ty).run Tryd.prog (w.iter s pos) = _ := fun ty => run_next_end w s pos ty hp
      have e : nameB s = true := nameB_true (by omega) (by omega) fun i hi => hok i (by omega) hi
      have E := Lib.hid e
      clear e
      go_wp2
      go_ret
      exact ⟨by rw [E.out]; rfl, (Gd.refl w).alloc _⟩
set_option maxHeartbeats 2000000 in
set_option maxRecDepth 100000 in
theorem allNames_gd (v : Value) (ts : List ByteArray) (w : World) (hv : Strs w v ts) :
    Calls Tryd.prog 66 #[v] w fun e w' => e = .returned (.bool (ts.all nameB)) ∧ Gd w w' := by
  have V : Aside (Strs w v ts) := hv
  obtain ⟨a, cap, rfl, hlc, hcm⟩ := hv.len
  unfold maxLen at hcm
  clear hv
  go_enter Tryd.func66, Tryd.ntmps66
  go_wp2_with fail
  go_loopg [7] ts.length (fun g si wr => ∃ (k : Nat), k ≤ ts.length ∧ g = ts.length - k ∧ si = .int .i64 k ∧ (ts.take k).all nameB = true ∧ Gd w wr)
  case atStart => exact ⟨0, Nat.zero_le _, rfl, rfl, rfl, Gd.refl _⟩
  case round =>
    obtain ⟨k, hk, hg, rfl, ha, hb⟩ := hrel
    have R : Aside (gk = ts.length - k ∧ (ts.take k).all nameB = true ∧ Gd w wr) := ⟨hg, ha, hb⟩
    clear hg hb ha
    by_cases hlt : k < ts.length
    · obtain ⟨b, off, rfl, p0⟩ := (V.out.below R.out.2.2.1).at k hlt
      obtain ⟨t, ht⟩ : ∃ t, t = ts.getD k ⟨#[]⟩ := ⟨_, rfl⟩
      rw [← ht] at p0
      have C : Aside (t = ts.getD k ⟨#[]⟩) := ht
      clear ht
      have hlt' : (k : Int) < (ts.length : Int) := by omega
      have N := Lib.hid (name_gd t)
      cases hn : nameB t with
      | true =>
        rw [hn] at N
        go_wp2_with fail
        refine (N.out _).mono ?_
        rintro e w1 ⟨rfl, hb⟩
        have B1 := Lib.hid (R.out.2.2.trans hb)
        clear hb
        go_wp2_with fail
        go_roundg (ts.length - (k + 1))
        case measure => have := R.out.1; omega
        case rel => exact ⟨k + 1, by omega, rfl, by go_num, by rw [take_one ts k ⟨#[]⟩ hlt, ← C.out, List.all_append, R.out.2.1]; simp [hn], B1.out⟩
      | false =>
        rw [hn] at N
        go_wp2_with fail
        refine (N.out _).mono ?_
        rintro e w1 ⟨rfl, hb⟩
        have B1 := Lib.hid (R.out.2.2.trans hb)
        clear hb
        go_wp2_with fail
        go_ret
        refine ⟨?_, B1.out⟩
        have : ts.all nameB = false := by
          rw [List.all_eq_false]
          refine ⟨t, ?_, by rw [hn]; exact Bool.false_ne_true⟩
          rw [C.out, List.getD_eq_getElem?_getD, List.getElem?_eq_getElem hlt]
          exact List.getElem_mem hlt
        rw [this]
        rfl
    · go_wp2_with fail
      go_ret
      refine ⟨?_, R.out.2.2⟩
      have := R.out.2.1
      rw [List.take_of_length_le (by omega)] at this
      rw [this]
      rfl
set_option maxHeartbeats 4000000 in
set_option maxRecDepth 100000 in
theorem split_gd (p : ByteArray) (w : World) (hm : HasM w) :
    Calls Tryd.prog 47 #[.string p] w fun e w' => ∃ v, e = .returned (.tuple #[v, .int .i64 (splitE p)]) ∧ OwnS w.heap.size w' v (splitT p) ∧ Gd w w' := by
  have H := Lib.hid hm
  clear hm
  go_enter Tryd.func47, Tryd.ntmps47
  by_cases hr : p.data.toList = [47]
  · have hA : Hid (splitE p = 0 ∧ splitT p = []) := Lib.hid (by unfold splitE splitT splitO; rw [if_pos hr]; exact ⟨rfl, rfl⟩)
    have hp : (p.toList == [47]) = true := by rw [list_of_bytes, hr]; rfl
    go_wp2_with fail
    go_ret2
    exact ⟨.slice none 0 0, by rw [hA.out.1]; rfl, by rw [hA.out.2]; exact World.ownsRow_nil _ _ _ _, Gd.refl _⟩
  have hp : (p.toList == [47]) = false := by rw [list_of_bytes, beq_eq_false_iff_ne]; exact hr
  have hnone : ∀ Q : Prop, ¬ (Lib.hasPrefix p.data.toList [47] = true ∧ p.size ≤ 64 ∧ ((pieces 47 p.data.toList.tail).map bytesOf).length ≤ 8 ∧ ((pieces 47 p.data.toList.tail).map bytesOf).all nameB = true) → splitE p = 41 ∧ splitT p = [] := by
    intro _ h
    unfold splitE splitT splitO
    rw [if_neg hr, if_neg h]
    exact ⟨rfl, rfl⟩
  have HN := Lib.hid (hnone True)
  clear hnone
  have CP : Hid (∀ W, Calls Tryd.prog 64 #[.string p, .string ⟨#[47]⟩] W fun e w' => e = .returned (.tuple #[.string ⟨(Lib.trimPrefix p.data.toList [47]).toArray⟩, .bool (Lib.hasPrefix p.data.toList [47])]) ∧ w' = W) := Lib.hid fun W => Tryd.strings_CutPrefix p ⟨#[47]⟩ W
  cases hpre : Lib.hasPrefix p.data.toList [47] with
  | false =>
    rw [hpre] at CP
    have hA := Lib.hid (HN.out (by rw [hpre]; simp))
    go_wp2_with fail
    refine (CP.out w).mono ?_
    rintro e w1 ⟨rfl, rfl⟩
    go_wp2_with fail
    go_ret2
    exact ⟨.slice none 0 0, by rw [hA.out.1]; rfl, by rw [hA.out.2]; exact World.ownsRow_nil _ _ _ _, Gd.refl _⟩
  | true =>
    rw [hpre, tail_of_prefix hpre] at CP
    by_cases h64 : p.size ≤ 64
    · have g64 : decide ((p.size : Int) > 64) = false := decide_eq_false (by omega)
      obtain ⟨r, hrr⟩ : ∃ r : ByteArray, r = ⟨p.data.toList.tail.toArray⟩ := ⟨_, rfl⟩
      rw [← hrr] at CP
      have rl : r.data.toList = p.data.toList.tail := by rw [hrr]
      have rs : r.size ≤ 64 := by
        have h1 : r.data.toList.length ≤ p.data.toList.length := by rw [rl]; simp
        have h2 : r.data.toList.length = r.size := by simp
        have h3 : p.data.toList.length = p.size := by simp
        omega
      obtain ⟨ts, hts⟩ : ∃ ts, ts = (pieces 47 p.data.toList.tail).map bytesOf := ⟨_, rfl⟩
      have cn : Lib.countB r ⟨#[47]⟩ + 1 = ts.length := by rw [splitB_len, rl, hts]
      have sp : Lib.splitB ⟨#[47]⟩ 0 (Lib.countB r ⟨#[47]⟩) r = ts := by rw [splitB_pieces, rl, hts]
      have hsome : Hid (ts.length ≤ 8 → ts.all nameB = true → splitE p = 0 ∧ splitT p = ts) := Lib.hid (by
        intro h8 hall
        have e : splitO p = some ts := by
          unfold splitO
          rw [if_neg hr, if_pos ⟨hpre, h64, by rw [← hts]; exact h8, by rw [← hts]; exact hall⟩, ← hts]
        unfold splitE splitT
        rw [e]
        exact ⟨rfl, rfl⟩)
      have hno : Hid (¬ (ts.length ≤ 8 ∧ ts.all nameB = true) → splitE p = 41 ∧ splitT p = []) := Lib.hid (by
        intro h
        refine HN.out fun h2 => h ?_
        rw [hts]
        exact h2.2.2)
      have tl : ts.length ≤ 65 := by
        have := Lib.countB_le ⟨#[47]⟩ (by decide) _ r (Nat.le_refl _)
        omega
      have SP : Hid (∀ W m, W.cell? ⟨0, 0, none⟩ = some (.int .i64 m) → Calls Tryd.prog 65 #[.string r, .string ⟨#[47]⟩] W fun e w' => e = .returned (.slice (some ⟨W.heap.size, 0, none⟩) ts.length ts.length) ∧ OwnS W.heap.size w' (.slice (some ⟨W.heap.size, 0, none⟩) ts.length ts.length) ts ∧ Gd W w') := Lib.hid fun W m hm => by
        have h := Tryd.strings_Split r ⟨#[47]⟩ m W (by omega) hm (by decide)
        rw [cn, sp] at h
        refine h.mono ?_
        rintro e w' ⟨rfl, rfl⟩
        refine ⟨rfl, ⟨by simp [cellsS], .inr ⟨W.heap.size, ts.length, (ts.map Value.string).toArray, rfl, Nat.le_refl _, Array.getElem?_push_size, Nat.le_refl _, by unfold maxLen; omega, by simp, by show List.take (ts.length * 1) (ts.map Value.string) = _; rw [Nat.mul_one, List.take_of_length_le (by simp)]; rfl⟩⟩, (Gd.refl W).alloc _⟩
      clear HN hrr rl rs hts cn sp
      go_wp2_with fail
      refine (CP.out w).mono ?_
      rintro e w1 ⟨rfl, rfl⟩
      go_wp2_with fail
      obtain ⟨m, hm⟩ := H.out
      refine (SP.out w1 m hm).mono ?_
      rintro e w2 ⟨rfl, own, hb⟩
      have O2 := Lib.hid own
      have B2 := Lib.hid hb
      clear own hb hm SP CP
      by_cases h8 : ts.length ≤ 8
      · have g8 : decide ((ts.length : Int) > 8) = false := decide_eq_false (by omega)
        have AN := Lib.hid (allNames_gd _ ts w2 O2.out.strs)
        cases hall : ts.all nameB with
        | true =>
          rw [hall] at AN
          have hA := Lib.hid (hsome.out h8 hall)
          go_wp2_with fail
          refine AN.out.mono ?_
          rintro e w3 ⟨rfl, hb⟩
          have O3 := Lib.hid (O2.out.below hb.1)
          have B3 := Lib.hid (B2.out.trans hb)
          clear hb
          go_wp2_with fail
          go_ret2
          exact ⟨_, by rw [hA.out.1]; rfl, by rw [hA.out.2]; exact O3.out, B3.out⟩
        | false =>
          rw [hall] at AN
          have hA := Lib.hid (hno.out (by rw [hall]; simp))
          go_wp2_with fail
          refine AN.out.mono ?_
          rintro e w3 ⟨rfl, hb⟩
          have B3 := Lib.hid (B2.out.trans hb)
          clear hb
          go_wp2_with fail
          go_ret2
          exact ⟨.slice none 0 0, by rw [hA.out.1]; rfl, by rw [hA.out.2]; exact World.ownsRow_nil _ _ _ _, B3.out⟩
      · have g8 : decide ((ts.length : Int) > 8) = true := decide_eq_true (by omega)
        have hA := Lib.hid (hno.out (fun h => h8 h.1))
        go_wp2_with fail
        go_ret2
        exact ⟨.slice none 0 0, by rw [hA.out.1]; rfl, by rw [hA.out.2]; exact World.ownsRow_nil _ _ _ _, B2.out⟩
    · have g64 : decide ((p.size : Int) > 64) = true := decide_eq_true (by omega)
      have hA := Lib.hid (HN.out (fun h => h64 h.2.1))
      go_wp2_with fail
      refine (CP.out w).mono ?_
      rintro e w1 ⟨rfl, rfl⟩
      go_wp2_with fail
      go_ret2
      exact ⟨.slice none 0 0, by rw [hA.out.1]; rfl, by rw [hA.out.2]; exact World.ownsRow_nil _ _ _ _, Gd.refl _⟩
end Go.Proofs.YtlbnmafopfljcaaDoor.L
