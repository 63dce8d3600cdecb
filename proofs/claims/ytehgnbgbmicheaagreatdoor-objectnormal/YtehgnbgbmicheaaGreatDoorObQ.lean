/-
  Resource names and amounts: isPiece, isResource, isAmount, quant.Valid.
-/
import Derived.Test.YtehgnbgbmicheaaGreatDoorObS
import Derived.Test.YtehgnbgbmicheaaGreatDoorObD
import Derived.Test.YtehgnbgbmicheaaGreatDoorLaG
namespace Go.Proofs.YtehgnbgbmicheaaGreatDoor
open Go.RowKit Go.Shelf
open Go.Sort (grow)
attribute [local go_sem] Oper.semAt_some
def pcAt (t : ByteArray) (i : Nat) : Bool := decide ((t.get! i).toNat = 45) || L.plainN (t.get! i).toNat
def pieceB (t : ByteArray) : Bool := decide (0 < t.size) && (!decide ((t.get! 0).toNat = 45) && (!decide ((t.get! (t.size - 1)).toNat = 45) && (List.range t.size).all (pcAt t)))
def resB (t : ByteArray) : Bool := decide (t.size ≤ 48) && (dots t).all pieceB
def amB (x : Am) : Bool := decide (0 ≤ x.v) && resB x.n
theorem piece_no {t : ByteArray} {i : Nat} (hi : i < t.size) (h : pcAt t i = false) : pieceB t = false := by
  unfold pieceB
  have : (List.range t.size).all (pcAt t) = false := by
    rw [List.all_eq_false]; exact ⟨i, List.mem_range.2 hi, by rw [h]; exact Bool.false_ne_true⟩
  rw [this]; simp
theorem piece_yes {t : ByteArray} (h0 : 0 < t.size) (h1 : ¬ (t.get! 0).toNat = 45) (h2 : ¬ (t.get! (t.size - 1)).toNat = 45) (h : ∀ i, i < t.size → pcAt t i = true) : pieceB t = true := by
  unfold pieceB
  rw [decide_eq_true h0, decide_eq_false h1, decide_eq_false h2, List.all_eq_true.2 (fun i hi => h i (List.mem_range.1 hi))]; rfl
set_option maxHeartbeats 4000000 in
set_option maxRecDepth 100000 in
theorem piece_any (t : ByteArray) (ht : t.size ≤ 48) (w : World) : Calls Tryz.prog 103 #[.string t] w fun e w' => e = .returned (.bool (pieceB t)) ∧ w' = w := by
  go_enter Tryz.func103, Tryz.ntmps103
  by_cases h0 : t.size = 0
  · have g0 : t.toList.isEmpty = true := by
      rw [L.list_of_bytes, List.isEmpty_iff, ← List.length_eq_zero_iff]; simpa using h0
    have hA : Hid (pieceB t = false) := Lib.hid (by unfold pieceB; rw [decide_eq_false (by omega)]; rfl)
    go_wp2
    go_ret
    exact ⟨by rw [hA.out]; rfl, rfl⟩
  have g0 : t.toList.isEmpty = false := by
    cases hh : t.toList.isEmpty with
    | false => rfl
    | true =>
      rw [L.list_of_bytes, List.isEmpty_iff, ← List.length_eq_zero_iff] at hh
      have : t.size = 0 := by simpa using hh
      omega
  have w1 : wrap64 ((t.size : Int) - 1) = (t.size : Int) - 1 := by unfold wrap64; omega
  have hp : 0 < t.size := by omega
  have hl : t.size - 1 < t.size := by omega
  by_cases hf : (t[0]'hp).toNat = 45
  · have f0 : (((t[0]'hp).toNat : Int) == 45) = true := by rw [beq_iff_eq]; omega
    have hA : Hid (pieceB t = false) := Lib.hid (by unfold pieceB; rw [L.get_lit t 0 hp, decide_eq_true hf]; simp)
    go_wp2
    go_ret
    exact ⟨by rw [hA.out]; rfl, rfl⟩
  have f0 : (((t[0]'hp).toNat : Int) == 45) = false := by rw [beq_eq_false_iff_ne]; omega
  by_cases he : (t[t.size - 1]'hl).toNat = 45
  · have f1 : (((t[t.size - 1]'hl).toNat : Int) == 45) = true := by rw [beq_iff_eq]; omega
    have hA : Hid (pieceB t = false) := Lib.hid (by unfold pieceB; rw [L.get_lit t (t.size - 1) hl, decide_eq_true he]; simp)
    go_wp2
    go_ret
    exact ⟨by rw [hA.out]; rfl, rfl⟩
  have f1 : (((t[t.size - 1]'hl).toNat : Int) == 45) = false := by rw [beq_eq_false_iff_ne]; omega
  have F0 : Hid (¬ (t.get! 0).toNat = 45) := Lib.hid (by rw [L.get_lit t 0 hp]; exact hf)
  have F1 : Hid (¬ (t.get! (t.size - 1)).toNat = 45) := Lib.hid (by rw [L.get_lit t (t.size - 1) hl]; exact he)
  clear hf he
  go_wp2
  clear f0 f1
  go_loopg [22] t.size (fun g si wr => ∃ (k : Nat), k ≤ t.size ∧ g = t.size - k ∧ si = .int .i64 k ∧ (∀ i, i < k → pcAt t i = true) ∧ wr = w)
  case atStart => exact ⟨0, Nat.zero_le _, rfl, rfl, fun i h => by omega, rfl⟩
  case round =>
    obtain ⟨k, hk, hg, rfl, hok, rfl⟩ := hrel
    have R : Aside (gk = t.size - k ∧ ∀ i, i < k → pcAt t i = true) := ⟨hg, hok⟩
    clear hg hok
    by_cases hlt : k < t.size
    · have hlt' : (k : Int) < (t.size : Int) := by omega
      obtain ⟨c, hc⟩ : ∃ c, c = (t[k]'hlt).toNat := ⟨_, rfl⟩
      have hc' : (t.get! k).toNat = c := by rw [L.get_lit t k hlt]; exact hc.symm
      have C : Hid ((t.get! k).toNat = c) := hc'
      have fc : ((t[k]'hlt).toNat : Int) = (c : Int) := by rw [hc]
      clear hc hc'
      rcases (by omega : (c = 45) ∨ (c < 48 ∧ c ≠ 45) ∨ (48 ≤ c ∧ c ≤ 57) ∨ (58 ≤ c ∧ c ≤ 96) ∨ (97 ≤ c ∧ c ≤ 122) ∨ (122 < c)) with hx | hx | hx | hx | hx | hx
      · have gne : ((c : Int) != 45) = false := by rw [bne_eq_false_iff_eq]; omega
        have hA : Hid (pcAt t k = true) := Lib.hid (by unfold pcAt; rw [C.out, decide_eq_true hx]; rfl)
        clear hx
        go_wp2
        go_roundg (t.size - (k + 1))
        case measure => have := R.out.1; omega
        case rel => exact ⟨k + 1, by omega, rfl, by go_num, fun i hi => by
          rcases Nat.lt_or_ge i k with q | q
          · exact R.out.2 i q
          · rw [show i = k by omega]; exact hA.out, rfl⟩
      · have gne : ((c : Int) != 45) = true := by rw [bne_iff_ne]; omega
        have ga : decide ((c : Int) < 97) = true := decide_eq_true (by omega)
        have gc : decide ((c : Int) < 48) = true := decide_eq_true (by omega)
        have hA : Hid (pieceB t = false) := Lib.hid (piece_no hlt (by unfold pcAt L.plainN; rw [C.out]; simp; omega))
        clear hx
        go_wp2
        go_ret
        exact ⟨by rw [hA.out]; rfl, rfl⟩
      · have gne : ((c : Int) != 45) = true := by rw [bne_iff_ne]; omega
        have ga : decide ((c : Int) < 97) = true := decide_eq_true (by omega)
        have gc : decide ((c : Int) < 48) = false := decide_eq_false (by omega)
        have gd : decide ((c : Int) > 57) = false := decide_eq_false (by omega)
        have hA : Hid (pcAt t k = true) := Lib.hid (by unfold pcAt L.plainN; rw [C.out]; simp [hx])
        clear hx
        go_wp2
        go_roundg (t.size - (k + 1))
        case measure => have := R.out.1; omega
        case rel => exact ⟨k + 1, by omega, rfl, by go_num, fun i hi => by
          rcases Nat.lt_or_ge i k with q | q
          · exact R.out.2 i q
          · rw [show i = k by omega]; exact hA.out, rfl⟩
      · have gne : ((c : Int) != 45) = true := by rw [bne_iff_ne]; omega
        have ga : decide ((c : Int) < 97) = true := decide_eq_true (by omega)
        have gc : decide ((c : Int) < 48) = false := decide_eq_false (by omega)
        have gd : decide ((c : Int) > 57) = true := decide_eq_true (by omega)
        have hA : Hid (pieceB t = false) := Lib.hid (piece_no hlt (by unfold pcAt L.plainN; rw [C.out]; simp; omega))
        clear hx
        go_wp2
        go_ret
        exact ⟨by rw [hA.out]; rfl, rfl⟩
      · have gne : ((c : Int) != 45) = true := by rw [bne_iff_ne]; omega
        have ga : decide ((c : Int) < 97) = false := decide_eq_false (by omega)
        have gb : decide ((c : Int) > 122) = false := decide_eq_false (by omega)
        have hA : Hid (pcAt t k = true) := Lib.hid (by unfold pcAt L.plainN; rw [C.out]; simp [hx])
        clear hx
        go_wp2
        go_roundg (t.size - (k + 1))
        case measure => have := R.out.1; omega
        case rel => exact ⟨k + 1, by omega, rfl, by go_num, fun i hi => by
          rcases Nat.lt_or_ge i k with q | q
          · exact R.out.2 i q
          · rw [show i = k by omega]; exact hA.out, rfl⟩
      · have gne : ((c : Int) != 45) = true := by rw [bne_iff_ne]; omega
        have ga : decide ((c : Int) < 97) = false := decide_eq_false (by omega)
        have gb : decide ((c : Int) > 122) = true := decide_eq_true (by omega)
        have gc : decide ((c : Int) < 48) = false := decide_eq_false (by omega)
        have gd : decide ((c : Int) > 57) = true := decide_eq_true (by omega)
        have hA : Hid (pieceB t = false) := Lib.hid (piece_no hlt (by unfold pcAt L.plainN; rw [C.out]; simp; omega))
        clear hx
        go_wp2
        go_ret
        exact ⟨by rw [hA.out]; rfl, rfl⟩
    · have hA : Hid (pieceB t = true) := Lib.hid (piece_yes hp F0.out F1.out (fun i hi => R.out.2 i (by omega)))
      go_wp2
      go_ret
      exact ⟨by rw [hA.out]; rfl, rfl⟩
set_option maxHeartbeats 4000000 in
set_option maxRecDepth 100000 in
theorem res_gen (t : ByteArray) (w : World) : Calls Tryz.prog 87 #[.string t] w fun e w' => e = .returned (.bool (resB t)) ∧ Below w.heap.size w w' := by
  refine (callsIn_wide (n := 6)).1 ?_
  refine callsIn_of_wp_marks Tryz.func87 rfl trivial ?_ rfl
  simp only [Tryz.ntmps87, List.size_toArray, List.length_cons, List.length_nil, Nat.reduceAdd, Nat.reduceSub, Array.replicate_succ, Array.replicate_zero, List.push_toArray, List.append_toArray, List.nil_append, List.cons_append]
  have k0 := Q.cell_new_q w (.bool false) 4
  have B0 : Below w.heap.size w (w.alloc (.cells #[.bool false] 4)) := (Below.refl _ w).alloc (Nat.le_refl _) _
  by_cases ht : 48 < t.size
  · have g0 : decide ((t.size : Int) > 48) = true := decide_eq_true (by omega)
    have hA : resB t = false := by unfold resB; rw [decide_eq_false (by omega)]; rfl
    gi_wp2_with fail
    refine ⟨.bool false, ?_, by rw [hA], B0⟩
    simp [results, Tryz.results87, go_sem, k0.1]
  have hl' : ¬ ((t.size : Int) > 48) := by omega
  gi_wp2_with fail
  refine ⟨trivial, (callsIn_wide.2 (Q.splitSeq_any t _)).mono ?_⟩
  rintro e w' ⟨rfl, rfl⟩
  unfold Q.splitF Q.splitW
  simp only [World.size_alloc]
  gi_wp2_with fail
  have k1 := Q.cell_new_q (w.alloc (.cells #[.bool false] 4)) (.string t) 9
  have k2 := Q.cell_new_q ((w.alloc (.cells #[.bool false] 4)).alloc (.cells #[.string t] 9)) (.string ⟨#[46]⟩) 9
  have k3 := Q.cell_new_q (((w.alloc (.cells #[.bool false] 4)).alloc (.cells #[.string t] 9)).alloc (.cells #[.string ⟨#[46]⟩] 9)) (.int .i64 0) 3
  simp only [World.size_alloc] at k1 k2 k3
  have hB0 : Below w.heap.size w ((((w.alloc (.cells #[.bool false] 4)).alloc (.cells #[.string t] 9)).alloc (.cells #[.string ⟨#[46]⟩] 9)).alloc (.cells #[.int .i64 0] 3)) := ((((Below.refl _ w).alloc (Nat.le_refl _) _).alloc (by simp) _).alloc (by simp; omega) _).alloc (by simp; omega) _
  refine range_box rfl (by decide) (gf := 132) (lb := #[.pointer (some ⟨w.heap.size + 1 + 1, 0, none⟩), .pointer (some ⟨w.heap.size + 1, 0, none⟩), .pointer (some ⟨w.heap.size + 1 + 1 + 1, 0, none⟩)]) rfl trivial (enters_of Tryz.func132 (by kernel_rfl) rfl) (b := w.heap.size + 1) (by simp)
    (split_box 5 (by decide) t (by omega) (w.heap.size + 1 + 1) (w.heap.size + 1) (w.heap.size + 1 + 1 + 1) _ _ (Nat.le_refl _) (by simp) (by simp) (by simp) (by omega) (by omega) (Q.cell_alloc_q _ k2.1) (Q.cell_alloc_q _ (Q.cell_alloc_q _ k1.1)) (Q.frozen_alloc_q _ (Q.cell_alloc_q _ k1.1) (Q.frozen_alloc_q _ k1.1 k1.2)) k3.1) (fun _ => rfl)
    (fun pre W => ((∀ x ∈ pre, pieceB x = true) ∧ W.cell? ⟨w.heap.size, 0, none⟩ = some (.bool false) ∧ W.frozen? ⟨w.heap.size, 0, none⟩ = false) ∧ Below w.heap.size w W)
    (fun c pre W => (c = .ret ∧ (∃ x ∈ pre, pieceB x = false) ∧ W.cell? ⟨w.heap.size, 0, none⟩ = some (.bool false)) ∧ Below w.heap.size w W)
    (OwnFrom.and (Own.from (fun s A B row hs hg hr => ⟨hs.1, cell_kept hs.2.1 hg hr, (frozen_kept hs.2.1 hg hr).trans hs.2.2⟩) _) (ownFrom_below (Nat.le_refl _) (by simp; omega)))
    (fun c => OwnFrom.and (Own.from (fun s A B row hs hg hr => ⟨hs.1, hs.2.1, cell_kept hs.2.2 hg hr⟩) _) (ownFrom_below (Nat.le_refl _) (by simp; omega)))
    (fun pre A B hs hg => ⟨⟨hs.1.1, (World.cell?_of_block (hg.block w.heap.size (block_lt_of_cell hs.1.2.1) (by simp))).trans hs.1.2.1, (World.frozen?_of_block (hg.block w.heap.size (block_lt_of_cell hs.1.2.1) (by simp))).trans hs.1.2.2⟩, hs.2.trans ((Below.refl _ A).grown hg hs.2.size (fun k e => by cases e; omega))⟩)
    (fun c pre A B hs hg => ⟨⟨hs.1.1, hs.1.2.1, (World.cell?_of_block (hg.block w.heap.size (block_lt_of_cell hs.1.2.2) (by simp))).trans hs.1.2.2⟩, hs.2.trans ((Below.refl _ A).grown hg hs.2.size (fun k e => by cases e; omega))⟩)
    ⟨⟨by simp, Q.cell_alloc_q _ (Q.cell_alloc_q _ (Q.cell_alloc_q _ k0.1)), Q.frozen_alloc_q _ (Q.cell_alloc_q _ (Q.cell_alloc_q _ k0.1)) (Q.frozen_alloc_q _ (Q.cell_alloc_q _ k0.1) (Q.frozen_alloc_q _ k0.1 k0.2))⟩, hB0⟩
    (fun x => { tmps := #[.string t, undef, .pointer (some ⟨w.heap.size, 0, none⟩), .string x, .string t, .int .i64 t.size, .bool false, .string t, .func (.func 132) #[] #[.pointer (some ⟨w.heap.size + 1 + 1, 0, none⟩), .pointer (some ⟨w.heap.size + 1, 0, none⟩), .pointer (some ⟨w.heap.size + 1 + 1 + 1, 0, none⟩)], .string x, undef, undef, undef], defers := [] }) ?assign ?body ?done ?stop
  case assign =>
    intro l x W K hK
    gi_wp2
    exact hK
  case body =>
    rintro l pre x W hx48 ⟨⟨hp0, hc, hf⟩, hB⟩ _
    have PA := Lib.hid (piece_any x hx48)
    clear hx48
    gi_wp2_with fail
    refine ⟨trivial, (CallsIn.inRound l (callsIn_wide.2 (PA.out _))).mono ?_⟩
    rintro e W ⟨rfl, rfl⟩
    cases hb : pieceB x with
    | true =>
      gi_wp2
      exact ⟨KeepsFrom.refl _ _, Below.refl _ _, ⟨fun y hy => by
        rcases List.mem_append.1 hy with q | q
        · exact hp0 y q
        · rw [List.mem_singleton.1 q]; exact hb, hc, hf⟩, hB⟩
    | false =>
      gi_wp2
      exact ⟨(KeepsOthers.setCell _ _ _).from _, ⟨rfl, ⟨x, by simp, hb⟩, World.cell?_setCell_same' _ _ _ (by rw [hc]; rfl)⟩, hB.setCell (p := ⟨w.heap.size, 0, none⟩) (by simp) _⟩
  case done =>
    rintro D ys W hD hys ⟨⟨hne, hcr, hfr⟩, hB⟩ hK
    have hA : resB t = true := by
      unfold resB
      rw [decide_eq_true (by omega), Bool.true_and, ← hys, List.all_eq_true]
      exact hne
    gi_wp2
    have hK' := (KeepsOthers.setCell W ⟨w.heap.size, 0, none⟩ (.bool true)).same D _ hK rfl
    refine ⟨by simp, .inl ⟨_, _, rfl, run_takeDeferred hK', ?_⟩⟩
    have hc5 := cell_kept (World.cell?_setCell_same' W ⟨w.heap.size, 0, none⟩ (.bool true) (by rw [hcr]; rfl)) (grownBy_putObj' _ D (.deferred none)) (fun r e => by cases e; exact ⟨_, hK', rfl⟩)
    refine ⟨.bool true, ?_, by rw [hA], (hB.setCell (p := ⟨w.heap.size, 0, none⟩) (by simp) _).trans (belowK_b (w := w) (Nat.le_refl _) _ D _ _ (by simp at hD; omega) hK' rfl rfl)⟩
    simp [results, Tryz.results87, go_sem, hc5]
  case stop =>
    rintro D c pre W hD hpre ⟨⟨rfl, hb, hcr⟩, hB⟩ hK
    have hA : resB t = false := by
      unfold resB
      have : (dots t).all pieceB = false := by
        rw [List.all_eq_false]
        obtain ⟨x, hx, hxb⟩ := hb
        exact ⟨x, hpre.subset hx, by rw [hxb]; exact Bool.false_ne_true⟩
      rw [this, Bool.and_false]
    gi_wp2
    refine ⟨by simp, .inl ⟨_, _, rfl, run_takeDeferred hK, ?_⟩⟩
    have hc5 := cell_kept hcr (grownBy_putObj' _ D (.deferred none)) (fun r e => by cases e; exact ⟨_, hK, rfl⟩)
    refine ⟨.bool false, ?_, by rw [hA], hB.trans (belowK_b (w := w) (Nat.le_refl _) W D _ _ (by simp at hD; omega) hK rfl rfl)⟩
    simp [results, Tryz.results87, go_sem, hc5]
end Go.Proofs.YtehgnbgbmicheaaGreatDoor
