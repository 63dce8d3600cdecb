/-
  The documents Split, Path, Line, Parent, Under: of every text.
-/
import Derived.Test.YtfkoiehnkelpoaaDoorLRefPath
namespace Go.Proofs.YtfkoiehnkelpoaaDoor.L
open Go.RowKit
theorem pieces_head_ne {p : List UInt8} (h : Lib.hasPrefix p [47] = false) : (pieces 47 p).length < 2 ∨ ∃ x r, (pieces 47 p) = x :: r ∧ x ≠ [] := by
  cases p with
  | nil => exact Or.inl (by decide)
  | cons b l =>
    have hb : b ≠ 47 := by
      intro e
      subst e
      simp [Lib.hasPrefix] at h
    rw [pieces_cons, if_neg hb]
    exact Or.inr ⟨_, _, rfl, by simp⟩
theorem pieces_slash {p : List UInt8} (h : Lib.hasPrefix p [47] = true) : pieces 47 p = [] :: pieces 47 p.tail := by
  cases p with
  | nil => cases h
  | cons b l =>
    have : b = 47 := by simp [Lib.hasPrefix] at h; exact h.symm
    rw [pieces_cons, if_pos this]
    rfl
theorem pieces_pos (c : UInt8) (l : List UInt8) : 1 ≤ (pieces c l).length := List.length_pos_iff.2 (pieces_ne c l)
set_option maxHeartbeats 8000000 in
set_option maxRecDepth 100000 in
theorem refSplit_any (p : ByteArray) (w : World) (hs : p.size ≤ 1048576) :
    Calls Tryd.prog 68 #[.string p] w fun e w' => ∃ v, e = .returned (.tuple #[v, .int .i64 (splitE p)]) ∧ Strs w' v (splitT p) ∧ Below w.heap.size w w' := by
  have nilS : ∀ W, Strs W (.slice none 0 0) [] := fun W => ⟨none, 0, rfl, by simp, by decide, fun _ => rfl, fun k hk => by simp at hk⟩
  have NS := Lib.hid nilS
  clear nilS
  have PP := Lib.hid (refPieces_any p w hs)
  go_enter Tryd.func68, Tryd.ntmps68
  by_cases hr : p.data.toList = [47]
  · have hA : Hid (splitE p = 0 ∧ splitT p = []) := Lib.hid (by unfold splitE splitT splitO; rw [if_pos hr]; exact ⟨rfl, rfl⟩)
    have hp : (p.toList == [47]) = true := by rw [list_of_bytes, hr]; rfl
    go_wp2_with fail
    go_ret2
    exact ⟨.slice none 0 0, by rw [hA.out.1]; rfl, by rw [hA.out.2]; exact NS.out _, Below.refl _ _⟩
  have hp : (p.toList == [47]) = false := by rw [list_of_bytes, beq_eq_false_iff_ne]; exact hr
  have HN : Hid (¬ (Lib.hasPrefix p.data.toList [47] = true ∧ p.size ≤ 64 ∧ ((pieces 47 p.data.toList.tail).map bytesOf).length ≤ 8 ∧ ((pieces 47 p.data.toList.tail).map bytesOf).all nameB = true) → splitE p = 41 ∧ splitT p = []) := Lib.hid (by
    intro h
    unfold splitE splitT splitO
    rw [if_neg hr, if_neg h]
    exact ⟨rfl, rfl⟩)
  go_wp2_with fail
  refine PP.out.mono ?_
  rintro e w1 ⟨v, rfl, own, hb⟩
  have B1 := Lib.hid hb
  have S1 := Lib.hid own.strs
  have hplen : ((pieces 47 p.data.toList).map bytesOf).length = (pieces 47 p.data.toList).length := by simp
  obtain ⟨g, cap, hv, hc1, hc2⟩ : ∃ g cap, v = .slice (some ⟨g, 0, none⟩) (pieces 47 p.data.toList).length cap ∧ (pieces 47 p.data.toList).length ≤ cap ∧ cap ≤ maxLen := by
    obtain ⟨_, ⟨_, h⟩ | ⟨g, cap, cur, hv, _, _, h1, h2, _⟩⟩ := own
    · rw [hplen] at h
      have := pieces_pos 47 p.data.toList
      omega
    · exact ⟨g, cap, by rw [hv, hplen], by omega, h2⟩
  subst hv
  unfold maxLen at hc2
  clear own hb PP hplen
  by_cases h64 : p.size ≤ 64
  · have g64 : decide ((p.size : Int) > 64) = false := decide_eq_false (by omega)
    cases hpre : Lib.hasPrefix p.data.toList [47] with
    | false =>
      have hA := Lib.hid (HN.out (by rw [hpre]; simp))
      have hx := pieces_head_ne hpre
      have hat := S1.out
      by_cases h2 : (pieces 47 p.data.toList).length < 2
      · have g2 : decide (((pieces 47 p.data.toList).length : Int) < 2) = true := decide_eq_true (by omega)
        clear hx hat
        obtain ⟨n, hn⟩ : ∃ n, n = (pieces 47 p.data.toList).length := ⟨_, rfl⟩
        rw [← hn] at g2 hc1 ⊢
        clear hn
        go_wp2_with fail
        go_ret2
        exact ⟨.slice none 0 0, by rw [hA.out.1]; rfl, by rw [hA.out.2]; exact NS.out _, B1.out⟩
      · have g2 : decide (((pieces 47 p.data.toList).length : Int) < 2) = false := decide_eq_false (by omega)
        obtain ⟨x, r, hxr, hxe⟩ : ∃ x r, pieces 47 p.data.toList = x :: r ∧ x ≠ [] := by
          rcases hx with h | h
          · exact absurd h h2
          · exact h
        obtain ⟨b, off, e', c0⟩ := hat.at 0 (by rw [List.length_map]; omega)
        cases e'
        rw [hxr, List.map_cons, List.getD_cons_zero, Nat.add_zero] at c0
        have gx : (bytesOf x).toList.isEmpty = false := by
          rw [list_of_bytes]
          cases x with
          | nil => exact absurd rfl hxe
          | cons y z => rfl
        obtain ⟨t, ht⟩ : ∃ t, t = bytesOf x := ⟨_, rfl⟩
        rw [← ht] at c0 gx
        obtain ⟨n, hn⟩ : ∃ n, n = (pieces 47 p.data.toList).length := ⟨_, rfl⟩
        have hn2 : 2 ≤ n := by omega
        rw [← hn] at g2 hc1 ⊢
        clear hn ht hxr hxe hx hat h2
        by_cases h9 : n ≤ 9
        · have g9 : decide ((n : Int) > 9) = false := decide_eq_false (by omega)
          go_wp2_with fail
          go_ret2
          exact ⟨.slice none 0 0, by rw [hA.out.1]; rfl, by rw [hA.out.2]; exact NS.out _, B1.out⟩
        · have g9 : decide ((n : Int) > 9) = true := decide_eq_true (by omega)
          go_wp2_with fail
          go_ret2
          exact ⟨.slice none 0 0, by rw [hA.out.1]; rfl, by rw [hA.out.2]; exact NS.out _, B1.out⟩
    | true =>
      have hsl := pieces_slash hpre
      obtain ⟨ts, hts⟩ : ∃ ts, ts = (pieces 47 p.data.toList.tail).map bytesOf := ⟨_, rfl⟩
      have hlen : (pieces 47 p.data.toList).length = ts.length + 1 := by rw [hsl, hts, List.length_cons, List.length_map]
      have hmap : (pieces 47 p.data.toList).map bytesOf = ⟨#[]⟩ :: ts := by rw [hsl, hts, List.map_cons]; rfl
      have hpos : 1 ≤ ts.length := by rw [hts, List.length_map]; exact pieces_pos _ _
      have hsome : Hid (ts.length ≤ 8 → ts.all nameB = true → splitE p = 0 ∧ splitT p = ts) := Lib.hid (by
        intro h8 hall
        have e : splitO p = some ts := by
          unfold splitO
          rw [if_neg hr, if_pos ⟨hpre, h64, by rw [← hts]; exact h8, by rw [← hts]; exact hall⟩, ← hts]
        unfold splitE splitT
        rw [e]
        exact ⟨rfl, rfl⟩)
      have hno : Hid (¬ (ts.length ≤ 8 ∧ ts.all nameB = true) → splitE p = 41 ∧ splitT p = []) := Lib.hid (by
        intro h
        refine HN.out fun h2 => h ?_
        rw [hts]
        exact h2.2.2)
      rw [hmap, hlen] at S1
      rw [hlen] at hc1 ⊢
      obtain ⟨b, off, e', c0⟩ := S1.out.at 0 (by simp)
      cases e'
      rw [List.getD_cons_zero, Nat.add_zero] at c0
      have g2 : decide ((ts.length : Int) + 1 < 2) = false := decide_eq_false (by omega)
      clear HN hts hmap hsl hlen
      by_cases h8 : ts.length ≤ 8
      · have g9 : decide ((ts.length : Int) + 1 > 9) = false := decide_eq_false (by omega)
        go_wp2_with fail
        clear c0 g2 g9
        go_loopg [5] ts.length (fun g' si wr => ∃ (k : Nat), k ≤ ts.length ∧ g' = ts.length - k ∧ si = .int .i64 ((k : Int) + 1) ∧ (ts.take k).all nameB = true ∧ Below w1.heap.size w1 wr)
        case atStart => exact ⟨0, Nat.zero_le _, rfl, rfl, rfl, Below.refl _ _⟩
        case round =>
          obtain ⟨k, hk, hgk, rfl, ha, hb⟩ := hrel
          have GK := Lib.hid hgk
          have HA := Lib.hid ha
          have HB := Lib.hid hb
          clear hgk ha hb
          by_cases hlt : k < ts.length
          · obtain ⟨b', off', e', ck⟩ := (S1.out.below HB.out).at (k + 1) (by simp; omega)
            cases e'
            rw [List.getD_cons_succ, Nat.zero_add] at ck
            obtain ⟨t, ht⟩ : ∃ t, t = ts.getD k ⟨#[]⟩ := ⟨_, rfl⟩
            rw [← ht] at ck
            have C := Lib.hid ht
            clear ht
            have hlt' : (k : Int) + 1 < (ts.length : Int) + 1 := by omega
            have RN := Lib.hid (refName_any t)
            cases hn : nameB t with
            | true =>
              rw [hn] at RN
              go_wp2_with fail
              refine (RN.out _).mono ?_
              rintro e w2 ⟨rfl, rfl⟩
              go_wp2_with fail
              go_roundg (ts.length - (k + 1))
              case measure => have := GK.out; omega
              case rel => exact ⟨k + 1, by omega, rfl, by go_num, by rw [take_one ts k ⟨#[]⟩ hlt, ← C.out, List.all_append, HA.out]; simp [hn], HB.out⟩
            | false =>
              rw [hn] at RN
              have hall : ts.all nameB = false := by
                rw [List.all_eq_false]
                refine ⟨t, ?_, by rw [hn]; exact Bool.false_ne_true⟩
                rw [C.out, List.getD_eq_getElem?_getD, List.getElem?_eq_getElem hlt]
                exact List.getElem_mem hlt
              have hA := Lib.hid (hno.out (by rw [hall]; simp))
              clear hall
              go_wp2_with fail
              refine (RN.out _).mono ?_
              rintro e w2 ⟨rfl, rfl⟩
              go_wp2_with fail
              go_ret2
              exact ⟨.slice none 0 0, by rw [hA.out.1]; rfl, by rw [hA.out.2]; exact NS.out _, B1.out.trans (HB.out.mono B1.out.size)⟩
          · have hall : ts.all nameB = true := by
              have := HA.out
              rwa [List.take_of_length_le (by omega)] at this
            have hA := Lib.hid (hsome.out h8 hall)
            have ek : k = ts.length := by omega
            subst ek
            clear hall
            have ST := Lib.hid ((S1.out.below HB.out).tail (by simp))
            go_wp2_with fail
            go_ret2
            refine ⟨_, by rw [hA.out.1]; rfl, ?_, B1.out.trans (HB.out.mono B1.out.size)⟩
            rw [hA.out.2]
            have := ST.out
            rw [List.tail_cons, Nat.add_sub_cancel] at this
            exact this
      · have g9 : decide ((ts.length : Int) + 1 > 9) = true := decide_eq_true (by omega)
        have hA := Lib.hid (hno.out (fun h => h8 h.1))
        go_wp2_with fail
        go_ret2
        exact ⟨.slice none 0 0, by rw [hA.out.1]; rfl, by rw [hA.out.2]; exact NS.out _, B1.out⟩
  · have g64 : decide ((p.size : Int) > 64) = true := decide_eq_true (by omega)
    have hA := Lib.hid (HN.out (fun h => h64 h.2.1))
    obtain ⟨n, hn⟩ : ∃ n, n = (pieces 47 p.data.toList).length := ⟨_, rfl⟩
    rw [← hn] at hc1 ⊢
    clear hn
    go_wp2_with fail
    go_ret2
    exact ⟨.slice none 0 0, by rw [hA.out.1]; rfl, by rw [hA.out.2]; exact NS.out _, B1.out⟩
end Go.Proofs.YtfkoiehnkelpoaaDoor.L
