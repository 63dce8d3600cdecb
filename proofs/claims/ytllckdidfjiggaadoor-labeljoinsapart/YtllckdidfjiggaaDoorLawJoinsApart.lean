/-
  THE WALK of LabelJoinsApart.
-/
import Derived.Test.YtllckdidfjiggaaDoorFixed
import Derived.Test.YtllckdidfjiggaaDoorSplitA
import Derived.Test.YtllckdidfjiggaaDoorRefJoin
namespace Go.Proofs.YtllckdidfjiggaaDoor
open Go.RowKit
theorem all_false {ts : List ByteArray} {t : ByteArray} (hm : t ∈ ts) (hn : nameB t = false) : ts.all nameB = false := by
  rw [List.all_eq_false]
  exact ⟨t, hm, by rw [hn]; exact Bool.false_ne_true⟩
theorem getD_mem {ts : List ByteArray} {k : Nat} (h : k < ts.length) : ts.getD k ⟨#[]⟩ ∈ ts := by
  rw [List.getD_eq_getElem?_getD, List.getElem?_eq_getElem h]
  exact List.getElem_mem h
theorem pathL_pos (ts : List ByteArray) : (pathL ts).length = (pathOf ts).length ∨ (ts = [] ∧ (pathL ts).length = 1) := by
  unfold pathL
  split
  · exact Or.inr ⟨‹_›, rfl⟩
  · exact Or.inl rfl
set_option maxHeartbeats 8000000 in
set_option maxRecDepth 100000 in
theorem labelJoinsApart_walk (v : Value) (ts : List ByteArray) (w : World) (hm : HasM w) (hv : Strs w v ts) (hs : (∀ t ∈ ts, t.size ≤ 140737488355328) ∧ ts.length ≤ 8796093021952) :
    Calls Tryd.prog 3 #[v] w fun e w' => e = .returned (.bool true) ∧ Below w.heap.size w w' := by
  have H := Lib.hid hm
  have V := Lib.hid hv
  have hlen := hs.2
  obtain ⟨a, cap, rfl, hlc, hcm⟩ := hv.len
  unfold maxLen at hcm
  clear hm hv hs
  go_enter Tryd.func3, Tryd.ntmps3
  go_wp2_with fail
  refine (fixed_ok w H.out).mono ?_
  rintro e w1 ⟨rfl, hb⟩
  have B1 := Lib.hid hb
  have V1 := Lib.hid (V.out.below hb)
  have H1 := Lib.hid (H.out.below hb)
  clear hb H V
  go_wp2_with fail
  go_loopg [4, 5] ts.length (fun g sb si wr => ∃ (k : Nat), k ≤ ts.length ∧ g = ts.length - k ∧ si = .int .i64 k ∧ sb = .int .i64 (pathOf (ts.take k)).length ∧ (ts.take k).all nameB = true ∧ Below w1.heap.size w1 wr)
  case atStart => exact ⟨0, Nat.zero_le _, rfl, rfl, rfl, rfl, Below.refl _ _⟩
  case round =>
    obtain ⟨k, hk, hg, rfl, rfl, ha, hb⟩ := hrel
    have R : Aside (gk = ts.length - k ∧ (ts.take k).all nameB = true ∧ Below w1.heap.size w1 wr) := ⟨hg, ha, hb⟩
    obtain ⟨n, hn⟩ : ∃ n, n = (pathOf (ts.take k)).length := ⟨_, rfl⟩
    rw [← hn]
    have N0 : Aside (n = (pathOf (ts.take k)).length) := hn
    have hns : n ≤ 8796093021952 * 33 := by
      have h1 := pathOf_length (ts.take k) ha
      rw [← hn, List.length_take] at h1
      omega
    have BW := Lib.hid (B1.out.trans (hb.mono B1.out.size))
    have VW := Lib.hid (V1.out.below hb)
    clear hg ha hb hn
    by_cases hlt : k < ts.length
    · obtain ⟨b, off, rfl, p0⟩ := VW.out.at k hlt
      obtain ⟨t, ht⟩ : ∃ t, t = ts.getD k ⟨#[]⟩ := ⟨_, rfl⟩
      rw [← ht] at p0
      have C : Aside (t = ts.getD k ⟨#[]⟩) := ht
      clear ht
      have hlt' : (k : Int) < (ts.length : Int) := by omega
      have N := Lib.hid (name_any t)
      cases hnm : nameB t with
      | true =>
        rw [hnm] at N
        have ht32 := name_size hnm
        have hA : Hid ((pathOf (ts.take (k + 1))).length = n + 1 + t.size) := Lib.hid (by
          rw [pathOf_take ts k hlt, List.length_append, ← N0.out, ← C.out, List.length_cons]
          have : t.data.toList.length = t.size := by simp
          omega)
        go_wp2_with fail
        refine (N.out _).mono ?_
        rintro e w2 ⟨rfl, hb⟩
        have p2 := (hb.cell (block_lt_of_cell p0)).trans p0
        have B2 := Lib.hid (R.out.2.2.trans (hb.mono R.out.2.2.size))
        clear hb p0
        go_wp2_with fail
        go_roundg (ts.length - (k + 1))
        case measure => have := R.out.1; omega
        case rel => exact ⟨k + 1, by omega, rfl, by go_num, by rw [hA.out]; go_num, by rw [take_one ts k ⟨#[]⟩ hlt, ← C.out, List.all_append, R.out.2.1]; simp [hnm], B2.out⟩
      | false =>
        rw [hnm] at N
        have hr : joinR ts = (⟨#[]⟩, 40) := by
          unfold joinR
          rw [all_false (t := t) (by rw [C.out]; exact getD_mem hlt) hnm]
          rfl
        go_wp2_with fail
        refine (N.out _).mono ?_
        rintro e w2 ⟨rfl, hb⟩
        have B2 := Lib.hid (BW.out.trans (hb.mono BW.out.size))
        have J := Lib.hid (join_any _ ts w2 (VW.out.below hb))
        rw [hr] at J
        clear hb hr
        go_wp2_with fail
        refine J.out.mono ?_
        rintro e w3 ⟨rfl, hb⟩
        have B3 := Lib.hid (B2.out.trans (hb.mono B2.out.size))
        clear hb J
        go_wp2_with fail
        go_ret
        exact ⟨rfl, B3.out⟩
    · have hall : ts.all nameB = true := by
        have := R.out.2.1
        rwa [List.take_of_length_le (by omega)] at this
      have hP : n = (pathOf ts).length := by rw [N0.out, List.take_of_length_le (by omega)]
      have J0 := join_any _ ts wr VW.out
      have HW := Lib.hid (H1.out.below R.out.2.2)
      by_cases h8 : ts.length ≤ 8
      · have g8 : decide ((ts.length : Int) > 8) = false := decide_eq_false (by omega)
        by_cases h64 : n ≤ 64
        · have g64 : decide ((n : Int) > 64) = false := decide_eq_false (by omega)
          have hL : (pathL ts).length ≤ 64 := by
            rcases pathL_pos ts with h | h
            · omega
            · omega
          have hr : joinR ts = (bytesOf (pathL ts), 0) := by
            unfold joinR
            rw [hall, if_pos rfl, if_pos h8, if_pos hL]
            rfl
          rw [hr] at J0
          have J := Lib.hid J0
          have SP := Lib.hid (split_path ts hall h8 hL)
          have hq : Hid ((pathL ts).length = n ∨ (ts = [] ∧ n = 0)) := Lib.hid (by
            rcases pathL_pos ts with h | h
            · exact Or.inl (by omega)
            · refine Or.inr ⟨h.1, ?_⟩
              rw [hP, h.1]
              rfl)
          clear J0 hr hP
          obtain ⟨q, hqq⟩ : ∃ q, q = bytesOf (pathL ts) := ⟨_, rfl⟩
          have Q : Aside (q = bytesOf (pathL ts)) := hqq
          rw [← hqq] at J SP
          have qs : q.size = (pathL ts).length := by rw [hqq]; simp [bytesOf, ByteArray.size]
          have QS := Lib.hid qs
          clear hqq qs
          go_wp2_with fail
          refine J.out.mono ?_
          rintro e w2 ⟨rfl, hb⟩
          have B2 := Lib.hid (BW.out.trans (hb.mono BW.out.size))
          have V2 := Lib.hid (VW.out.below hb)
          have H2 := Lib.hid (HW.out.below hb)
          clear hb J
          go_wp2_with fail
          refine (split_any q w2 H2.out).mono ?_
          rw [SP.out.1, SP.out.2]
          rintro e w3 ⟨v3, rfl, own, hb⟩
          have B3 := Lib.hid (B2.out.trans (hb.mono B2.out.size))
          have V3 := Lib.hid (V2.out.below hb)
          have S3 := Lib.hid own.strs
          clear own hb V2 H2 B2
          go_wp2_with fail
          refine (sameTexts_yes v3 _ ts w3 S3.out V3.out).mono ?_
          rintro e w4 ⟨rfl, hb⟩
          have B4 := Lib.hid (B3.out.trans (hb.mono B3.out.size))
          clear hb S3 V3 B3
          rcases hq.out with h | h
          · have ge : ((q.size : Int) == (n : Int)) = true := by rw [beq_iff_eq, QS.out, h]
            go_wp2_with fail
            go_ret
            exact ⟨rfl, B4.out⟩
          · have hqd : q = ⟨#[47]⟩ := by rw [Q.out, h.1]; rfl
            have hn0 := h.2
            subst hn0 hqd
            go_wp2_with fail
            go_ret
            exact ⟨rfl, B4.out⟩
        · have g64 : decide ((n : Int) > 64) = true := decide_eq_true (by omega)
          have hr : joinR ts = (⟨#[]⟩, 41) := by
            unfold joinR
            rw [hall, if_pos rfl, if_pos h8, if_neg]
            rcases pathL_pos ts with h | h
            · omega
            · rw [h.1] at hP
              exact absurd hP (by simp [pathOf]; omega)
          rw [hr] at J0
          have J := Lib.hid J0
          clear J0 hr hP
          go_wp2_with fail
          refine J.out.mono ?_
          rintro e w2 ⟨rfl, hb⟩
          have B2 := Lib.hid (BW.out.trans (hb.mono BW.out.size))
          clear hb J
          go_wp2_with fail
          go_ret
          exact ⟨rfl, B2.out⟩
      · have g8 : decide ((ts.length : Int) > 8) = true := decide_eq_true (by omega)
        have hr : joinR ts = (⟨#[]⟩, 41) := by unfold joinR; rw [hall, if_pos rfl, if_neg h8]
        rw [hr] at J0
        have J := Lib.hid J0
        clear J0 hr hP
        go_wp2_with fail
        refine J.out.mono ?_
        rintro e w2 ⟨rfl, hb⟩
        have B2 := Lib.hid (BW.out.trans (hb.mono BW.out.size))
        clear hb J
        go_wp2_with fail
        go_ret
        exact ⟨rfl, B2.out⟩
end Go.Proofs.YtllckdidfjiggaaDoor
