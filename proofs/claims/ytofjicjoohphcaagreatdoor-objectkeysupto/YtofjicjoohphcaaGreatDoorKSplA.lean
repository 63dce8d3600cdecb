/-
  Split: the walk.
-/
import Derived.Test.YtofjicjoohphcaaGreatDoorKSpl
namespace Go.Proofs.YtofjicjoohphcaaGreatDoor.K
open Go.RowKit
theorem pieces_data (r : ByteArray) : (Lib.splitB ⟨#[0, 1]⟩ 0 (Lib.countB r ⟨#[0, 1]⟩) r).map (·.data.toList) = Lib.splitK [0, 1] 0 (Lib.count r.data.toList [0, 1]) r.data.toList := Lib.splitB_data ⟨#[0, 1]⟩ 0 (Lib.countB r ⟨#[0, 1]⟩) r
theorem pieces_dec (r : ByteArray) : (Lib.splitB ⟨#[0, 1]⟩ 0 (Lib.countB r ⟨#[0, 1]⟩) r).map dec = (Lib.splitK [0, 1] 0 (Lib.count r.data.toList [0, 1]) r.data.toList).map fun p => bytesOf (Lib.replaceAll p [0, 255] [0]) := by
  rw [← pieces_data, List.map_map]
  rfl
theorem pieces_size (r : ByteArray) : ∀ t ∈ Lib.splitB ⟨#[0, 1]⟩ 0 (Lib.countB r ⟨#[0, 1]⟩) r, t.size ≤ r.size := by
  intro t ht
  have h1 : t.data.toList ∈ (Lib.splitB ⟨#[0, 1]⟩ 0 (Lib.countB r ⟨#[0, 1]⟩) r).map (·.data.toList) := List.mem_map_of_mem ht
  rw [pieces_data] at h1
  have h2 := piece_le _ _ _ h1
  have e1 : t.data.toList.length = t.size := by simp
  have e2 : r.data.toList.length = r.size := by simp
  omega
/-- The first so many done. -/
def done (ts : List ByteArray) (k : Nat) : List ByteArray := (ts.take k).map dec ++ ts.drop k
theorem done_length (ts : List ByteArray) (k : Nat) : (done ts k).length = ts.length := by
  unfold done
  rw [List.length_append, List.length_map, List.length_take, List.length_drop]; omega
theorem done_at (ts : List ByteArray) (k : Nat) (h : k < ts.length) : (done ts k).getD k ⟨#[]⟩ = ts.getD k ⟨#[]⟩ := by
  unfold done
  rw [List.getD_eq_getElem?_getD, List.getD_eq_getElem?_getD, List.getElem?_append_right (by rw [List.length_map, List.length_take]; omega), List.length_map, List.length_take, List.getElem?_drop, Nat.min_eq_left (by omega), Nat.sub_self, Nat.add_zero]
theorem done_set (ts : List ByteArray) (k : Nat) (h : k < ts.length) : (done ts k).set k (dec (ts.getD k ⟨#[]⟩)) = done ts (k + 1) := by
  unfold done
  have hl : ((ts.take k).map dec).length = k := by rw [List.length_map, List.length_take]; omega
  rw [List.set_append_right _ _ (by omega), hl, Nat.sub_self]
  have hd : ts.drop k = ts.getD k ⟨#[]⟩ :: ts.drop (k + 1) := by
    rw [List.getD_eq_getElem?_getD, List.getElem?_eq_getElem h]
    simp
  rw [hd, List.set_cons_zero, take_one ts k ⟨#[]⟩ h, List.map_append]
  simp
theorem done_all (ts : List ByteArray) : done ts ts.length = ts.map dec := by
  unfold done
  rw [List.take_length, List.drop_length, List.append_nil]
set_option maxHeartbeats 8000000 in
set_option maxRecDepth 100000 in
theorem split_any (p : ByteArray) (w : World) (hm : HasM w) (hp : p.size ≤ 140737488355328) :
    Calls Tryz.prog 44 #[.string p] w fun e w' => ∃ v, e = .returned (.tuple #[v, .int .i64 (splitE p)]) ∧ OwnS w.heap.size w' v (splitT p) ∧ Below w.heap.size w w' := by
  have H := Lib.hid hm
  clear hm
  have HN : Hid (¬ (Lib.hasSuffix p.data.toList [0, 1] = true ∧ p.size ≤ 120 ∧ makeR (partsOf p.data.toList) = (p, 0)) → splitE p = 2 ∧ splitT p = []) := Lib.hid fun h => by
    unfold splitE splitT splitO
    rw [if_neg h]
    exact ⟨rfl, rfl⟩
  have CS : Hid (∀ W, Calls Tryz.prog 87 #[.string p, .string ⟨#[0, 1]⟩] W fun e w' => e = .returned (.tuple #[.string ⟨(Lib.trimSuffix p.data.toList [0, 1]).toArray⟩, .bool (Lib.hasSuffix p.data.toList [0, 1])]) ∧ w' = W) := Lib.hid fun W => Tryz.strings_CutSuffix p ⟨#[0, 1]⟩ W (by omega)
  cases hsu : Lib.hasSuffix p.data.toList [0, 1] with
  | false =>
    rw [hsu] at CS
    have hA := Lib.hid (HN.out (by rw [hsu]; simp))
    go_enter Tryz.func44, Tryz.ntmps44
    go_wp2_with fail
    refine (CS.out w).mono ?_
    rintro e w1 ⟨rfl, rfl⟩
    go_wp2_with fail
    go_ret2
    exact ⟨.slice none 0 0, by rw [hA.out.1]; rfl, by rw [hA.out.2]; exact World.ownsRow_nil _ _ _ _, Below.refl _ _⟩
  | true =>
    rw [hsu] at CS
    by_cases h120 : p.size ≤ 120
    · have g120 : decide ((p.size : Int) > 120) = false := decide_eq_false (by omega)
      obtain ⟨r, hr⟩ : ∃ r : ByteArray, r = ⟨(Lib.trimSuffix p.data.toList [0, 1]).toArray⟩ := ⟨_, rfl⟩
      rw [← hr] at CS
      have rl : r.data.toList = Lib.trimSuffix p.data.toList [0, 1] := by rw [hr]
      have rs : r.size ≤ 120 := by
        have h1 : r.data.toList.length ≤ p.data.toList.length := by
          rw [rl]
          unfold Lib.trimSuffix
          split <;> simp
        have h2 : r.data.toList.length = r.size := by simp
        have h3 : p.data.toList.length = p.size := by simp
        omega
      obtain ⟨ts, hts⟩ : ∃ ts, ts = Lib.splitB ⟨#[0, 1]⟩ 0 (Lib.countB r ⟨#[0, 1]⟩) r := ⟨_, rfl⟩
      have cn : Lib.countB r ⟨#[0, 1]⟩ + 1 = ts.length := by rw [hts, Lib.splitB_all ⟨#[0, 1]⟩ (by decide) 0 _ r rfl]
      have tz : Hid (∀ t ∈ ts, t.size ≤ 120) := Lib.hid fun t ht => by
        rw [hts] at ht
        have := pieces_size r t ht
        omega
      have po : Hid (partsOf p.data.toList = ts.map dec) := Lib.hid (by
        unfold partsOf
        rw [hts, pieces_dec, rl])
      have tl : ts.length ≤ 121 := by
        have := Lib.countB_le ⟨#[0, 1]⟩ (by decide) _ r (Nat.le_refl _)
        omega
      have SP : Hid (∀ W m, W.cell? ⟨0, 0, none⟩ = some (.int .i64 m) → Calls Tryz.prog 88 #[.string r, .string ⟨#[0, 1]⟩] W fun e w' => e = .returned (.slice (some ⟨W.heap.size, 0, none⟩) ts.length ts.length) ∧ OwnS W.heap.size w' (.slice (some ⟨W.heap.size, 0, none⟩) ts.length ts.length) ts ∧ Below W.heap.size W w') := Lib.hid fun W m hm => by
        have h := Tryz.strings_Split r ⟨#[0, 1]⟩ m W (by omega) hm (by decide)
        rw [cn, ← hts] at h
        refine h.mono ?_
        rintro e w' ⟨rfl, rfl⟩
        refine ⟨rfl, ⟨by simp [cellsS], .inr ⟨W.heap.size, ts.length, (ts.map Value.string).toArray, rfl, Nat.le_refl _, Array.getElem?_push_size, Nat.le_refl _, by unfold maxLen; omega, by simp, by show List.take (ts.length * 1) (ts.map Value.string) = _; rw [Nat.mul_one, List.take_of_length_le (by simp)]; rfl⟩⟩, (Below.refl _ W).alloc (Nat.le_refl _) _⟩
      have RA : Hid (∀ (t : ByteArray) W, HasM W → t.size ≤ 120 → Calls Tryz.prog 84 #[.string t, .string ⟨#[0, 255]⟩, .string ⟨#[0]⟩] W fun e w' => e = .returned (.string (dec t)) ∧ Below W.heap.size W w') := Lib.hid fun t W ⟨m, hm⟩ ht => by
        have hz := Lib.countB_le ⟨#[0, 255]⟩ (by decide) _ t (Nat.le_refl _)
        exact Tryz.strings_ReplaceAll t ⟨#[0, 255]⟩ ⟨#[0]⟩ m W (by omega) hm (by decide) (by have : (⟨#[0]⟩ : ByteArray).size = 1 := rfl; rw [this]; omega)
      have CL := Lib.hid clone_any
      clear hr rl rs hts cn
      go_enter Tryz.func44, Tryz.ntmps44
      go_wp2_with fail
      refine (CS.out w).mono ?_
      rintro e w1 ⟨rfl, rfl⟩
      go_wp2_with fail
      obtain ⟨m, hm⟩ := H.out
      refine (SP.out w1 m hm).mono ?_
      rintro e w2 ⟨rfl, own, hb⟩
      have O2 : Hid (OwnS w1.heap.size w2 (.slice (some ⟨w1.heap.size, 0, none⟩) ts.length ts.length) (done ts 0)) := Lib.hid (by
        have : done ts 0 = ts := by simp [done]
        rw [this]; exact own)
      have B2 := Lib.hid hb
      clear own hb hm SP CS
      go_wp2_with fail
      go_loopg [27] ts.length (fun g si wr => ∃ (k : Nat), k ≤ ts.length ∧ g = ts.length - k ∧ si = .int .i64 k ∧ OwnS w1.heap.size wr (.slice (some ⟨w1.heap.size, 0, none⟩) ts.length ts.length) (done ts k) ∧ Below w1.heap.size w1 wr)
      case atStart => exact ⟨0, Nat.zero_le _, rfl, rfl, O2.out, B2.out⟩
      case round =>
        obtain ⟨k, hk, hg, rfl, ho, hb⟩ := hrel
        have R : Hid (gk = ts.length - k ∧ OwnS w1.heap.size wr (.slice (some ⟨w1.heap.size, 0, none⟩) ts.length ts.length) (done ts k) ∧ Below w1.heap.size w1 wr) := ⟨hg, ho, hb⟩
        clear hg ho hb
        by_cases hlt : k < ts.length
        · obtain ⟨t, ht⟩ : ∃ t, t = ts.getD k ⟨#[]⟩ := ⟨_, rfl⟩
          obtain ⟨-, -, c0, -, -⟩ := R.out.2.1.set k (by rw [done_length]; exact hlt) ⟨#[]⟩
          rw [done_at ts k hlt, ← ht] at c0
          have t120 : t.size ≤ 120 := tz.out t (by rw [ht]; exact mem_getD hlt)
          have dz : (dec t).size ≤ 120 := by have := dec_size t; omega
          have C := Lib.hid ht
          clear ht
          have hlt' : (k : Int) < (ts.length : Int) := by omega
          go_wp2_with fail
          refine (RA.out t wr (H.out.below R.out.2.2) t120).mono ?_
          rintro e w3 ⟨rfl, hb⟩
          have B3 := Lib.hid (R.out.2.2.trans (hb.mono R.out.2.2.size))
          have O3 := Lib.hid (R.out.2.1.below hb)
          clear hb c0
          go_wp2_with fail
          refine (CL.out (dec t) w3 (by omega)).mono ?_
          rintro e w4 ⟨rfl, hb⟩
          have B4 := Lib.hid (B3.out.trans (hb.mono B3.out.size))
          have O4 := Lib.hid (O3.out.below hb)
          clear hb B3 O3
          obtain ⟨o5, hB, c1, f1, -⟩ := O4.out.set k (by rw [done_length]; exact hlt) (dec t)
          have O5 : Hid (OwnS w1.heap.size (w4.setCell ⟨w1.heap.size, k, none⟩ (.string (dec t))) (.slice (some ⟨w1.heap.size, 0, none⟩) ts.length ts.length) (done ts (k + 1))) := Lib.hid (by
            rw [← done_set ts k hlt, ← C.out]; exact o5)
          clear o5
          go_wp2_with fail
          go_roundg (ts.length - (k + 1))
          case measure => have := R.out.1; omega
          case rel => exact ⟨k + 1, by omega, rfl, by go_num, O5.out, B4.out.setCell (p := ⟨w1.heap.size, k, none⟩) hB _⟩
        · have ek : k = ts.length := by omega
          have O3 : Hid (OwnS w1.heap.size wr (.slice (some ⟨w1.heap.size, 0, none⟩) ts.length ts.length) (ts.map dec)) := Lib.hid (by
            have := R.out.2.1
            rw [ek, done_all] at this
            exact this)
          obtain ⟨us, hus⟩ : ∃ us, us = ts.map dec := ⟨_, rfl⟩
          have MK := Lib.hid (make_any _ us wr (H.out.below R.out.2.2) (by rw [hus]; exact O3.out.strs) (by
            intro t ht
            rw [hus] at ht
            obtain ⟨u, hu, rfl⟩ := List.mem_map.1 ht
            have h1 := dec_size u
            have h2 := tz.out u hu
            omega))
          rw [← hus] at O3
          have PO : Hid (partsOf p.data.toList = us) := Lib.hid (by rw [hus]; exact po.out)
          clear ek hus
          obtain ⟨⟨r1, r2⟩, hr⟩ : ∃ r, r = makeR us := ⟨_, rfl⟩
          rw [← hr] at MK
          by_cases e2 : r2 = 0
          · subst e2
            by_cases e1 : r1 = p
            · have q1 := eqB r1 p e1
              have hA : Hid (splitE p = 0 ∧ splitT p = us) := Lib.hid (by
                have : splitO p = some us := by
                  unfold splitO
                  rw [PO.out, if_pos ⟨hsu, h120, by rw [← hr, e1]⟩]
                unfold splitE splitT
                rw [this]
                exact ⟨rfl, rfl⟩)
              clear e1 hr
              go_wp2_with fail
              refine MK.out.mono ?_
              rintro e w3 ⟨rfl, hb⟩
              have B3 := Lib.hid (R.out.2.2.trans (hb.mono R.out.2.2.size))
              have O4 := Lib.hid (O3.out.below hb)
              clear hb
              go_wp2_with fail
              go_ret2
              exact ⟨_, by rw [hA.out.1]; rfl, by rw [hA.out.2]; exact O4.out, B3.out⟩
            · have q1 := neB r1 p e1
              have hA := Lib.hid (HN.out (fun h => e1 (by have h3 := h.2.2; rw [PO.out, ← hr] at h3; exact congrArg Prod.fst h3)))
              clear e1 hr
              go_wp2_with fail
              refine MK.out.mono ?_
              rintro e w3 ⟨rfl, hb⟩
              have B3 := Lib.hid (R.out.2.2.trans (hb.mono R.out.2.2.size))
              clear hb
              go_wp2_with fail
              go_ret2
              exact ⟨.slice none 0 0, by rw [hA.out.1]; rfl, by rw [hA.out.2]; exact World.ownsRow_nil _ _ _ _, B3.out⟩
          · have q2 : (r2 != 0) = true := bne_iff_ne.2 e2
            have hA := Lib.hid (HN.out (fun h => e2 (by have h3 := h.2.2; rw [PO.out, ← hr] at h3; exact congrArg Prod.snd h3)))
            clear e2 hr
            go_wp2_with fail
            refine MK.out.mono ?_
            rintro e w3 ⟨rfl, hb⟩
            have B3 := Lib.hid (R.out.2.2.trans (hb.mono R.out.2.2.size))
            clear hb
            go_wp2_with fail
            go_ret2
            exact ⟨.slice none 0 0, by rw [hA.out.1]; rfl, by rw [hA.out.2]; exact World.ownsRow_nil _ _ _ _, B3.out⟩
    · have g120 : decide ((p.size : Int) > 120) = true := decide_eq_true (by omega)
      have hA := Lib.hid (HN.out (fun h => h120 h.2.1))
      go_enter Tryz.func44, Tryz.ntmps44
      go_wp2_with fail
      refine (CS.out w).mono ?_
      rintro e w1 ⟨rfl, rfl⟩
      go_wp2_with fail
      go_ret2
      exact ⟨.slice none 0 0, by rw [hA.out.1]; rfl, by rw [hA.out.2]; exact World.ownsRow_nil _ _ _ _, Below.refl _ _⟩
end Go.Proofs.YtofjicjoohphcaaGreatDoor.K
