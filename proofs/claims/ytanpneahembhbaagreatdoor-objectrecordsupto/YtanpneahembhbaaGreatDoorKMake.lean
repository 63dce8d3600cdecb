/-
  size and Make: of every list of texts.
-/
import Derived.Test.YtanpneahembhbaaGreatDoorKBld
namespace Go.Proofs.YtanpneahembhbaaGreatDoor.K
open Go.RowKit
/-- A variable of the library's holds some number. -/
def HasM (w : World) : Prop := ∃ m, w.cell? ⟨0, 0, none⟩ = some (.int .i64 m)
theorem HasM.below {w w' : World} (h : HasM w) (hb : Below w.heap.size w w') : HasM w' := by
  obtain ⟨m, hm⟩ := h
  exact ⟨m, (hb.cell (block_lt_of_cell hm)).trans hm⟩
theorem mem_getD {ts : List ByteArray} {k : Nat} (h : k < ts.length) : ts.getD k ⟨#[]⟩ ∈ ts := by
  rw [List.getD_eq_getElem?_getD, List.getElem?_eq_getElem h]
  exact List.getElem_mem h
set_option maxHeartbeats 4000000 in
set_option maxRecDepth 100000 in
theorem size_few (v : Value) (ts : List ByteArray) (w : World) (hv : Strs w v ts) (h8 : ts.length ≤ 8) (hs : ∀ t ∈ ts, t.size ≤ 140737488355328) :
    Calls Tryz.prog 82 #[v] w fun e w' => e = .returned (.int .i64 (keyL ts).length) ∧ w' = w := by
  have V : Aside (Strs w v ts) := hv
  obtain ⟨a, cap, rfl, hlc, hcm⟩ := hv.len
  unfold maxLen at hcm
  have HS := Lib.hid hs
  clear hv hs
  have CN : Hid (∀ t W, Calls Tryz.prog 109 #[.string t, .string ⟨#[0]⟩] W fun e w' => e = .returned (.int .i64 (zeros t)) ∧ w' = W) := Lib.hid fun t W => Tryz.strings_Count_one t 0 W
  go_enter Tryz.func82, Tryz.ntmps82
  go_wp2_with fail
  go_loopg [3, 8] ts.length (fun g sn si wr => ∃ (k : Nat), k ≤ ts.length ∧ g = ts.length - k ∧ si = .int .i64 k ∧ sn = .int .i64 (keyL (ts.take k)).length ∧ wr = w)
  case atStart => exact ⟨0, Nat.zero_le _, rfl, rfl, rfl, rfl⟩
  case round =>
    obtain ⟨k, hk, hg, rfl, rfl, rfl⟩ := hrel
    have R : Aside (gk = ts.length - k) := hg
    clear hg
    obtain ⟨n, hn⟩ : ∃ n, n = (keyL (ts.take k)).length := ⟨_, rfl⟩
    rw [← hn]
    have hb : n ≤ 2251799813685376 := by
      have := key_bound ts 140737488355328 HS.out k hk
      have h2 := Nat.mul_le_mul_right (2 * 140737488355328 + 2) (show k ≤ 8 by omega)
      omega
    have NN := Lib.hid hn
    clear hn
    by_cases hlt : k < ts.length
    · obtain ⟨b, off, rfl, p0⟩ := V.out.at k hlt
      obtain ⟨t, ht⟩ : ∃ t, t = ts.getD k ⟨#[]⟩ := ⟨_, rfl⟩
      rw [← ht] at p0
      have ts0 : t.size ≤ 140737488355328 := HS.out _ (by rw [ht]; exact mem_getD hlt)
      have C : Aside (t = ts.getD k ⟨#[]⟩) := ht
      clear ht
      have hlt' : (k : Int) < (ts.length : Int) := by omega
      go_wp2_with fail
      refine (CN.out t wr).mono ?_
      rintro e w1 ⟨rfl, rfl⟩
      have zb := zeros_le t
      obtain ⟨z, hz⟩ : ∃ z, z = zeros t := ⟨_, rfl⟩
      rw [← hz] at zb ⊢
      have Z := Lib.hid hz
      clear hz
      go_wp2_with fail
      go_roundg (ts.length - (k + 1))
      case measure => have := R.out; omega
      case rel =>
        refine ⟨k + 1, by omega, rfl, by go_num, ?_, rfl⟩
        rw [key_one ts k hlt, ← C.out, ← NN.out, ← Z.out]
        go_num
    · go_wp2_with fail
      go_ret
      refine ⟨?_, rfl⟩
      have := NN.out
      rw [List.take_of_length_le (by omega)] at this
      rw [← this]
      rfl
theorem key_mono (ts : List ByteArray) (k : Nat) : (keyL (ts.take k)).length ≤ (keyL ts).length := by
  conv => rhs; rw [← List.take_append_drop k ts, keyL_app, List.length_append]
  omega
theorem zeros_data (t : ByteArray) : Lib.countB t ⟨#[0]⟩ ≤ t.size := Lib.countB_le ⟨#[0]⟩ (by decide) _ t (Nat.le_refl _)
set_option maxHeartbeats 4000000 in
set_option maxRecDepth 100000 in
theorem make_any (v : Value) (ts : List ByteArray) (w : World) (hm : HasM w) (hv : Strs w v ts) (hs : ∀ t ∈ ts, t.size ≤ 140737488355328) :
    Calls Tryz.prog 48 #[v] w fun e w' => e = .returned (.tuple #[.string (makeR ts).1, .int .i64 (makeR ts).2]) ∧ Below w.heap.size w w' := by
  have V : Hid (Strs w v ts) := hv
  have H := Lib.hid hm
  have SZ := Lib.hid fun (h8 : ts.length ≤ 8) => size_few v ts w hv h8 hs
  obtain ⟨a, cap, rfl, hlc, hcm⟩ := hv.len
  unfold maxLen at hcm
  clear hv hs hm
  by_cases h0 : ts.length = 0
  · have g0 : ((ts.length : Int) == 0) = true := by rw [h0]; rfl
    have hr : Hid (makeR ts = (⟨#[]⟩, 1)) := Lib.hid (by unfold makeR; rw [if_pos (.inl h0)])
    clear h0
    go_enter Tryz.func48, Tryz.ntmps48
    go_wp2_with fail
    go_ret2
    exact ⟨by rw [hr.out]; rfl, Below.refl _ _⟩
  have g0 : ((ts.length : Int) == 0) = false := by rw [beq_eq_false_iff_ne]; omega
  by_cases h9 : 8 < ts.length
  · have g8 : decide ((ts.length : Int) > 8) = true := decide_eq_true (by omega)
    have hr : Hid (makeR ts = (⟨#[]⟩, 1)) := Lib.hid (by unfold makeR; rw [if_pos (.inr (by omega))])
    go_enter Tryz.func48, Tryz.ntmps48
    go_wp2_with fail
    go_ret2
    exact ⟨by rw [hr.out]; rfl, Below.refl _ _⟩
  have h8 : ts.length ≤ 8 := by omega
  have g8 : decide ((ts.length : Int) > 8) = false := decide_eq_false (by omega)
  clear h9
  have S8 := Lib.hid (SZ.out h8)
  clear SZ
  by_cases h120 : 120 < (keyL ts).length
  · have hr : Hid (makeR ts = (⟨#[]⟩, 23)) := Lib.hid (by unfold makeR; rw [if_neg (by omega), if_pos h120])
    obtain ⟨n, hn⟩ : ∃ n, n = (keyL ts).length := ⟨_, rfl⟩
    rw [← hn] at S8 h120
    have g120 : decide ((n : Int) > 120) = true := decide_eq_true (by omega)
    clear hn
    go_enter Tryz.func48, Tryz.ntmps48
    go_wp2_with fail
    refine S8.out.mono ?_
    rintro e w1 ⟨rfl, rfl⟩
    go_wp2_with fail
    go_ret2
    exact ⟨by rw [hr.out]; rfl, Below.refl _ _⟩
  · have hr : Hid (makeR ts = (⟨(keyL ts).toArray⟩, 0)) := Lib.hid (by unfold makeR; rw [if_neg (by omega), if_neg h120])
    have KM : Hid (∀ k, k ≤ ts.length → (keyL (ts.take k)).length ≤ 120) := Lib.hid fun k _ => by have := key_mono ts k; omega
    obtain ⟨n, hn⟩ : ∃ n, n = (keyL ts).length := ⟨_, rfl⟩
    rw [← hn] at S8 h120
    have g120 : decide ((n : Int) > 120) = false := decide_eq_false (by omega)
    clear hn
    have RA : Hid (∀ (t : ByteArray) W, HasM W → t.size ≤ 120 → Calls Tryz.prog 84 #[.string t, .string ⟨#[0]⟩, .string ⟨#[0, 255]⟩] W fun e w' => e = .returned (.string (bytesOf (enc t.data.toList))) ∧ Below W.heap.size W w') := Lib.hid fun t W ⟨m, hm⟩ ht => by
      have hz := zeros_data t
      refine (Tryz.strings_ReplaceAll t ⟨#[0]⟩ ⟨#[0, 255]⟩ m W (by omega) hm (by decide) (by have : (⟨#[0, 255]⟩ : ByteArray).size = 2 := rfl; rw [this]; omega)).mono ?_
      rintro e w' ⟨rfl, hb⟩
      refine ⟨?_, hb⟩
      rw [show (⟨#[0]⟩ : ByteArray).data.toList = [0] from rfl, show (⟨#[0, 255]⟩ : ByteArray).data.toList = [0, 255] from rfl, all_enc _ _ (Nat.le_refl _)]
      rfl
    have WS := Lib.hid write_any
    have ST : Hid (∀ (B b : Nat) (l : List UInt8) (W : World), IsB B b l W → B ≤ W.heap.size → Calls Tryz.prog 85 #[.pointer (some ⟨b, 0, none⟩)] W fun e w' => e = .returned (.string ⟨l.toArray⟩) ∧ (Lib.IsBuilderF 123 5 B b (Lib.byteCells l) w' ∧ Below B W w')) := Lib.hid fun B b l W h hB => Tryz.Builder_String_any_f B b l W h hB
    go_enter Tryz.func48, Tryz.ntmps48
    go_wp2_with fail
    refine S8.out.mono ?_
    rintro e w1 ⟨rfl, rfl⟩
    go_wp2_with fail
    go_loopg [20] ts.length (fun g si wr => ∃ (k : Nat), k ≤ ts.length ∧ g = ts.length - k ∧ si = .int .i64 k ∧ IsB w1.heap.size w1.heap.size (keyL (ts.take k)) wr ∧ Below w1.heap.size w1 wr)
    case atStart => exact ⟨0, Nat.zero_le _, rfl, rfl, isB_new w1, (Below.refl _ w1).alloc (Nat.le_refl _) _⟩
    case round =>
      obtain ⟨k, hk, hg, rfl, hB, hb⟩ := hrel
      have R : Hid (gk = ts.length - k ∧ IsB w1.heap.size w1.heap.size (keyL (ts.take k)) wr ∧ Below w1.heap.size w1 wr) := ⟨hg, hB, hb⟩
      clear hg hB hb
      by_cases hlt : k < ts.length
      · obtain ⟨b, off, rfl, p0⟩ := (V.out.below R.out.2.2).at k hlt
        obtain ⟨t, ht⟩ : ∃ t, t = ts.getD k ⟨#[]⟩ := ⟨_, rfl⟩
        rw [← ht] at p0
        have k1 := key_one ts k hlt
        have k2 := KM.out (k + 1) hlt
        have kk : Hid (keyL (ts.take (k + 1)) = keyL (ts.take k) ++ (enc t.data.toList ++ [0, 1])) := Lib.hid (by rw [take_one ts k ⟨#[]⟩ hlt, keyL_app, ← ht]; simp [keyL])
        rw [← ht] at k1
        have ts0 : t.size ≤ 120 := by omega
        have el : Hid ((keyL (ts.take k)).length + (enc t.data.toList).length ≤ 120 ∧ (keyL (ts.take k) ++ enc t.data.toList).length ≤ 120) := Lib.hid (by
          rw [List.length_append, enc_length]
          have : t.data.toList.length = t.size := by simp
          have hz : zeros t = t.data.toList.count 0 := rfl
          omega)
        clear ht k1 k2
        have hlt' : (k : Int) < (ts.length : Int) := by omega
        go_wp2_with fail
        refine (RA.out t wr (H.out.below R.out.2.2) ts0).mono ?_
        rintro e w2 ⟨rfl, hb⟩
        have B2 := Lib.hid (R.out.2.2.trans (hb.mono R.out.2.2.size))
        have I2 := Lib.hid (isB_below R.out.2.1 hb)
        clear hb
        go_wp2_with fail
        refine (WS.out w1.heap.size w1.heap.size (keyL (ts.take k)) (bytesOf (enc t.data.toList)) w2 I2.out (by have := el.out.1; simp [bytesOf, ByteArray.size]; omega) B2.out.size).mono ?_
        rintro e w3 ⟨rfl, hI, hb⟩
        have B3 := Lib.hid (B2.out.trans hb)
        rw [data_bytesOf] at hI
        have I3 := Lib.hid hI
        clear hb hI B2 I2
        go_wp2_with fail
        refine (WS.out w1.heap.size w1.heap.size (keyL (ts.take k) ++ enc t.data.toList) ⟨#[0, 1]⟩ w3 I3.out (by have := el.out.2; have : (⟨#[0, 1]⟩ : ByteArray).size = 2 := rfl; omega) B3.out.size).mono ?_
        rintro e w4 ⟨rfl, hI, hb⟩
        have B4 := Lib.hid (B3.out.trans hb)
        have I4 : Hid (IsB w1.heap.size w1.heap.size (keyL (ts.take (k + 1))) w4) := Lib.hid (by rw [kk.out, ← List.append_assoc]; exact hI)
        clear hb hI B3 I3
        go_wp2_with fail
        go_roundg (ts.length - (k + 1))
        case measure => have := R.out.1; omega
        case rel => exact ⟨k + 1, by omega, rfl, by go_num, I4.out, B4.out⟩
      · have e : ts.take k = ts := List.take_of_length_le (by omega)
        have I2 : Hid (IsB w1.heap.size w1.heap.size (keyL ts) wr) := Lib.hid (by have := R.out.2.1; rw [e] at this; exact this)
        clear e
        go_wp2_with fail
        refine (ST.out w1.heap.size w1.heap.size (keyL ts) wr I2.out R.out.2.2.size).mono ?_
        rintro e w2 ⟨rfl, _, hb⟩
        have B2 := Lib.hid (R.out.2.2.trans hb)
        clear hb
        go_wp2_with fail
        go_ret2
        exact ⟨by rw [hr.out]; rfl, B2.out⟩
end Go.Proofs.YtanpneahembhbaaGreatDoor.K
