/-
  value, validValues: of every text, of every list of texts.
-/
import Derived.Test.YtjlpcklcnabldaaDoorLStrs
import Derived.Maps.OwnSet
import Derived.Maps.OwnOps
import Derived.Maps.Own
import Derived.Maps.Views
namespace Go.Proofs.YtjlpcklcnabldaaDoor.L
open Go.RowKit Go.Maps
def valueB (t : ByteArray) : Bool := decide (t.size = 0) || nameB t
def valuesB (ts : List ByteArray) : Bool :=
  if ts.length = 1 then valueB (ts.getD 0 ⟨#[]⟩) else decide (0 < ts.length) && decide (ts.length ≤ 8) && ts.all nameB && decide (ts.map (·.data.toList)).Nodup
set_option maxHeartbeats 1000000 in
theorem value_any (t : ByteArray) (w : World) : Calls Tryd.prog 54 #[.string t] w fun e w' => e = .returned (.bool (valueB t)) ∧ Below w.heap.size w w' := by
  have N := Lib.hid (name_any t w)
  go_enter Tryd.func54, Tryd.ntmps54
  by_cases h0 : t.size = 0
  · have e0 : t.toList.isEmpty = true := by
      rw [list_of_bytes]
      obtain ⟨⟨l⟩⟩ := t
      have : l = [] := List.length_eq_zero_iff.1 h0
      subst this
      rfl
    have hA : Hid (valueB t = true) := Lib.hid (by unfold valueB; rw [decide_eq_true h0]; rfl)
    go_wp2_with fail
    go_ret
    exact ⟨by rw [hA.out]; rfl, Below.refl _ _⟩
  · have e0 : t.toList.isEmpty = false := by
      rw [list_of_bytes]
      obtain ⟨⟨l⟩⟩ := t
      cases l with
      | nil => exact absurd rfl h0
      | cons x r => rfl
    have hA : Hid (valueB t = nameB t) := Lib.hid (by unfold valueB; rw [decide_eq_false h0]; rfl)
    go_wp2_with fail
    refine N.out.mono ?_
    rintro e w1 ⟨rfl, hb⟩
    have B1 := Lib.hid hb
    clear hb
    go_wp2_with fail
    go_ret
    exact ⟨by rw [hA.out]; rfl, B1.out⟩
theorem law : Keyed Tryd.prog 9 := string_keyed Tryd.underlying9
theorem zeroE (w : World) : (zeroValue 3).run Tryd.prog w = .ok (.int .i64 0) w := by go_simp
theorem isKeyS (l : List UInt8) : WideAt.IsKeyLit (.string l) := by trivial
/-- The map of what was seen: just these. -/
def Seen (D : DataW Unit) (ls : List (List UInt8)) : Prop := IsMap D ∧ ∀ l : List UInt8, Maps.has D (.string l) = decide (l ∈ ls)
theorem seen_none : Seen (.map []) [] := ⟨⟨[], rfl⟩, fun t => by simp [Maps.has_eq]⟩
theorem Seen.put {D : DataW Unit} {ls : List (List UInt8)} (h : Seen D ls) (l : List UInt8) (d : DataW Unit) : Seen (D.put (.string l) d) (ls ++ [l]) := by
  refine ⟨h.1.put _ _, fun u => ?_⟩
  by_cases e : u = l
  · subst e
    rw [has_put_same h.1 (isKeyS _)]
    simp
  · rw [has_put_other (fun h => e (by injection h)), h.2]
    simp [e]
theorem nodup_snoc {ls : List (List UInt8)} {l : List UInt8} (h : ls.Nodup) (hn : l ∉ ls) : (ls ++ [l]).Nodup := by
  rw [List.nodup_append]
  refine ⟨h, by simp, ?_⟩
  intro a ha b hb e
  simp only [List.mem_singleton] at hb
  subst hb e
  exact hn ha
theorem not_nodup {ls ms : List (List UInt8)} {l : List UInt8} (hn : l ∈ ls) : ¬ (ls ++ l :: ms).Nodup := by
  intro h
  rw [List.nodup_append] at h
  exact h.2.2 l hn l (by simp) rfl
theorem split_at (ts : List ByteArray) (k : Nat) (h : k < ts.length) : ts = ts.take k ++ ts.getD k ⟨#[]⟩ :: ts.drop (k + 1) := by
  rw [List.getD_eq_getElem?_getD, List.getElem?_eq_getElem h]
  simp
theorem make_seen (n : Int) (w : World) : (Instr.makeMap 82 (some (.int .i64 n))).run Tryd.prog w = .ok (.map (some w.heap.size)) (w.alloc (.map #[] 0)) := by
  simp [Instr.makeMap, run_underlying Tryd.underlying82, asInt, asIntOf, Result.andThen]
set_option maxHeartbeats 4000000 in
set_option maxRecDepth 100000 in
theorem values_any (v : Value) (ts : List ByteArray) (w : World) (hv : Strs w v ts) (hz : ∀ t ∈ ts, t.size ≤ maxLen) :
    Calls Tryd.prog 45 #[v] w fun e w' => e = .returned (.bool (valuesB ts)) ∧ Below w.heap.size w w' := by
  have V : Aside (Strs w v ts ∧ ∀ t ∈ ts, t.size ≤ maxLen) := ⟨hv, hz⟩
  obtain ⟨a, cap, rfl, hlc, hcm⟩ := hv.len
  unfold maxLen at hcm
  clear hv hz
  by_cases h1 : ts.length = 1
  · obtain ⟨b, off, rfl, p0⟩ := V.out.1.at 0 (by omega)
    obtain ⟨t, ht⟩ : ∃ t, t = ts.getD 0 ⟨#[]⟩ := ⟨_, rfl⟩
    rw [← ht, Nat.add_zero] at p0
    have hA : Hid (valuesB ts = valueB t) := Lib.hid (by unfold valuesB; rw [if_pos h1, ht])
    have VA := Lib.hid (value_any t w)
    clear ht
    go_enter Tryd.func45, Tryd.ntmps45
    go_wp2_with fail
    refine VA.out.mono ?_
    rintro e w1 ⟨rfl, hb⟩
    have B1 := Lib.hid hb
    clear hb
    go_wp2_with fail
    go_ret
    exact ⟨by rw [hA.out]; rfl, B1.out⟩
  have g1 : ((ts.length : Int) == 1) = false := by rw [beq_eq_false_iff_ne]; omega
  by_cases h0 : ts.length = 0
  · have g0 : ((ts.length : Int) == 0) = true := by rw [beq_iff_eq]; omega
    have hA : Hid (valuesB ts = false) := Lib.hid (by unfold valuesB; rw [if_neg h1, decide_eq_false (show ¬ 0 < ts.length by omega)]; rfl)
    go_enter Tryd.func45, Tryd.ntmps45
    go_wp2_with fail
    go_ret
    exact ⟨by rw [hA.out]; rfl, Below.refl _ _⟩
  have g0 : ((ts.length : Int) == 0) = false := by rw [beq_eq_false_iff_ne]; omega
  by_cases h8 : 8 < ts.length
  · have g8 : decide ((ts.length : Int) > 8) = true := decide_eq_true (by omega)
    have hA : Hid (valuesB ts = false) := Lib.hid (by unfold valuesB; rw [if_neg h1, decide_eq_false (show ¬ ts.length ≤ 8 by omega), Bool.and_false]; rfl)
    go_enter Tryd.func45, Tryd.ntmps45
    go_wp2_with fail
    go_ret
    exact ⟨by rw [hA.out]; rfl, Below.refl _ _⟩
  have g8 : decide ((ts.length : Int) > 8) = false := decide_eq_false (by omega)
  have hmm := make_seen
  go_enter Tryd.func45, Tryd.ntmps45
  go_wp2_with fail
  clear hmm
  go_loopg [28] ts.length (fun g si wr => ∃ (k : Nat), k ≤ ts.length ∧ g = ts.length - k ∧ si = .int .i64 k ∧ ((ts.take k).all nameB = true ∧ ((ts.take k).map (·.data.toList)).Nodup) ∧ (∃ D, wr.ownsMap Tryd.prog 9 (plainElem Tryd.prog 3) w.heap.size k D ∧ Seen D ((ts.take k).map (·.data.toList))) ∧ Below w.heap.size w wr)
  case atStart => exact ⟨0, Nat.zero_le _, rfl, rfl, ⟨rfl, by simp⟩, ⟨_, World.ownsMap_made _ _ _ _, seen_none⟩, (Below.refl _ _).alloc (Nat.le_refl _) _⟩
  case round =>
    obtain ⟨k, hk, hg, rfl, ha, ⟨D, hD, hS⟩, hb⟩ := hrel
    have R : Aside (gk = ts.length - k ∧ ((ts.take k).all nameB = true ∧ ((ts.take k).map (·.data.toList)).Nodup) ∧ Seen D ((ts.take k).map (·.data.toList)) ∧ Below w.heap.size w wr) := ⟨hg, ha, hS, hb⟩
    have M := Lib.hid hD
    clear hg hb ha hS hD
    by_cases hlt : k < ts.length
    · obtain ⟨b, off, rfl, p0⟩ := (V.out.1.below R.out.2.2.2).at k hlt
      obtain ⟨t, ht⟩ : ∃ t, t = ts.getD k ⟨#[]⟩ := ⟨_, rfl⟩
      rw [← ht] at p0
      have C : Aside (t = ts.getD k ⟨#[]⟩) := ht
      have tmem : t ∈ ts := by
        rw [ht, List.getD_eq_getElem?_getD, List.getElem?_eq_getElem hlt]
        exact List.getElem_mem hlt
      have KY := Lib.hid (WideMaps.keyOf_string_mk Tryd.underlying9 (V.out.2 t tmem))
      have TM := Lib.hid tmem
      clear ht tmem
      have hlt' : (k : Int) < (ts.length : Int) := by omega
      have N := Lib.hid (name_any t)
      by_cases hsn : t.data.toList ∈ (ts.take k).map (·.data.toList)
      · have hh : Maps.has D (.string t.data.toList) = true := by rw [R.out.2.2.1.2, decide_eq_true hsn]
        have hA : Hid (valuesB ts = false) := Lib.hid (by
          unfold valuesB
          rw [if_neg h1]
          have : ¬ (ts.map (·.data.toList)).Nodup := by
            have h2 := not_nodup (ms := (ts.drop (k + 1)).map (·.data.toList)) hsn
            rw [← List.map_cons (f := fun x : ByteArray => x.data.toList), ← List.map_append, C.out, ← split_at ts k hlt] at h2
            exact h2
          rw [decide_eq_false this, Bool.and_false])
        clear hsn
        go_wp2_with (at_lookup; refine wpList_lookup_own_ok_int _ rfl _ _ 82 rfl 9 3 .i64 law Tryd.underlying82 Tryd.underlying3 (zeroE _) w.heap.size k D rfl M.out _ _ rfl KY.out ?_; intro c hat hwc; rw [hh])
        go_ret
        exact ⟨by rw [hA.out]; rfl, R.out.2.2.2⟩
      · have hh : Maps.has D (.string t.data.toList) = false := by rw [R.out.2.2.1.2, decide_eq_false hsn]
        cases hn : nameB t with
        | false =>
          have hA : Hid (valuesB ts = false) := Lib.hid (by
            unfold valuesB
            rw [if_neg h1]
            have : ts.all nameB = false := by
              rw [List.all_eq_false]
              exact ⟨t, TM.out, by rw [hn]; exact Bool.false_ne_true⟩
            rw [this, Bool.and_false, Bool.false_and])
          rw [hn] at N
          clear hsn
          go_wp2_with (at_lookup; refine wpList_lookup_own_ok_int _ rfl _ _ 82 rfl 9 3 .i64 law Tryd.underlying82 Tryd.underlying3 (zeroE _) w.heap.size k D rfl M.out _ _ rfl KY.out ?_; intro c hat hwc; rw [hh])
          refine (N.out _).mono ?_
          rintro e w1 ⟨rfl, hb⟩
          have B1 := Lib.hid (R.out.2.2.2.trans (hb.mono R.out.2.2.2.size))
          clear hb
          go_wp2_with fail
          go_ret
          exact ⟨by rw [hA.out]; rfl, B1.out⟩
        | true =>
          rw [hn] at N
          have HS := Lib.hid hsn
          clear hsn
          go_wp2_with (at_lookup; refine wpList_lookup_own_ok_int _ rfl _ _ 82 rfl 9 3 .i64 law Tryd.underlying82 Tryd.underlying3 (zeroE _) w.heap.size k D rfl M.out _ _ rfl KY.out ?_; intro c hat hwc; rw [hh])
          refine (N.out _).mono ?_
          rintro e w1 ⟨rfl, hb⟩
          have B1 := Lib.hid (R.out.2.2.2.trans (hb.mono R.out.2.2.2.size))
          have M1 := Lib.hid (M.out.kept (row := none) ⟨hb.os, hb.tape, hb.output, hb.size, fun j hj _ => hb.block j hj⟩ (by simp))
          clear hb
          go_wp2_with (at_mapUpdate; refine wpList_mapUpdate_own _ rfl _ _ _ 82 rfl 9 3 law Tryd.underlying82 _ w.heap.size k _ rfl M1.out (by unfold maxLen; omega) _ _ _ rfl rfl KY.out _ [] (plainElem_int Tryd.underlying3 (WalkArith.wf_i64 (by omega))) ?_; intro w2 hown2 hgrow2)
          have B2 := Lib.hid (B1.out.grown hgrow2 B1.out.size (fun j hj => by cases hj; exact Nat.le_refl _))
          have M2 := Lib.hid hown2
          clear hown2 hgrow2
          go_wp2_with fail
          go_roundg (ts.length - (k + 1))
          case measure => have := R.out.1; omega
          case rel => exact ⟨k + 1, by omega, rfl, by go_num, by
              rw [take_one ts k ⟨#[]⟩ hlt, ← C.out, List.all_append, R.out.2.1.1, List.map_append]
              exact ⟨by simp [hn], nodup_snoc R.out.2.1.2 HS.out⟩, ⟨_, M2.out, by
              rw [take_one ts k ⟨#[]⟩ hlt, ← C.out, List.map_append]
              exact R.out.2.2.1.put _ _⟩, B2.out⟩
    · have hA : Hid (valuesB ts = true) := Lib.hid (by
        have h2 := R.out.2.1
        rw [List.take_of_length_le (by omega)] at h2
        unfold valuesB
        rw [if_neg h1, decide_eq_true (show 0 < ts.length by omega), decide_eq_true (show ts.length ≤ 8 by omega), h2.1, decide_eq_true h2.2]
        rfl)
      go_wp2_with fail
      go_ret
      exact ⟨by rw [hA.out]; rfl, R.out.2.2.2⟩
end Go.Proofs.YtjlpcklcnabldaaDoor.L
