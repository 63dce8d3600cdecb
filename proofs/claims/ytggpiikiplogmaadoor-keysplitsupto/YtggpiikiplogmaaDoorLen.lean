/-
  length: the bytes of a tuple's key.
-/
import Derived.Test.YtggpiikiplogmaaDoorCmp
namespace Go.Proofs.YtggpiikiplogmaaDoor
open Go.RowKit
def zeros (t : ByteArray) : Nat := t.data.toList.count 0
theorem zeros_le (t : ByteArray) : zeros t ≤ t.size := by
  have := List.count_le_length (a := (0 : UInt8)) (l := t.data.toList)
  have e : t.data.toList.length = t.size := by simp
  unfold zeros; omega
theorem key_one (ts : List ByteArray) (k : Nat) (h : k < ts.length) : (keyL (ts.take (k + 1))).length = (keyL (ts.take k)).length + (ts.getD k ⟨#[]⟩).size + zeros (ts.getD k ⟨#[]⟩) + 2 := by
  rw [take_one ts k ⟨#[]⟩ h, keyL_app, List.length_append, keyL, List.length_append, enc_length]
  have e : (ts.getD k ⟨#[]⟩).data.toList.length = (ts.getD k ⟨#[]⟩).size := by simp
  rw [e]
  show _ + ((_ + zeros _) + 2) = _
  omega
theorem key_bound (ts : List ByteArray) (B : Nat) (h : ∀ t ∈ ts, t.size ≤ B) (k : Nat) (hk : k ≤ ts.length) : (keyL (ts.take k)).length ≤ k * (2 * B + 2) := by
  induction k with
  | zero => simp [keyL]
  | succ k ih =>
    have h1 := ih (by omega)
    have h2 := key_one ts k (by omega)
    have h3 : (ts.getD k ⟨#[]⟩).size ≤ B := h _ (by rw [List.getD_eq_getElem?_getD, List.getElem?_eq_getElem (by omega)]; exact List.getElem_mem (by omega))
    have h4 := zeros_le (ts.getD k ⟨#[]⟩)
    rw [Nat.succ_mul]
    omega
def zerosTo (t : ByteArray) (j : Nat) : Nat := (t.data.toList.take j).count 0
theorem zerosTo_all (t : ByteArray) : zerosTo t t.size = zeros t := by
  unfold zerosTo zeros
  rw [List.take_of_length_le (by simp)]
theorem zerosTo_one (t : ByteArray) (j : Nat) (h : j < t.size) : zerosTo t (j + 1) = zerosTo t j + (if (t[j]'h).toNat = 0 then 1 else 0) := by
  unfold zerosTo
  have hl : j < t.data.toList.length := by simpa using h
  rw [take_one t.data.toList j 0 hl, List.count_append]
  have e : t.data.toList.getD j 0 = t[j]'h := by
    rw [List.getD_eq_getElem?_getD, List.getElem?_eq_getElem hl]
    simp [ByteArray.getElem_eq_getElem_data]
  rw [e]
  congr 1
  by_cases hz : (t[j]'h).toNat = 0
  · rw [if_pos hz, show t[j]'h = 0 from UInt8.toNat_inj.1 hz]; rfl
  · rw [if_neg hz]
    rw [List.count_singleton, if_neg]
    intro e
    rw [beq_iff_eq] at e
    exact hz (by rw [e]; rfl)
theorem zerosTo_le (t : ByteArray) (j : Nat) : zerosTo t j ≤ j := by
  have h1 := List.count_le_length (a := (0 : UInt8)) (l := t.data.toList.take j)
  have h2 : (t.data.toList.take j).length ≤ j := by rw [List.length_take]; omega
  unfold zerosTo; omega
set_option maxHeartbeats 4000000 in
set_option maxRecDepth 100000 in
theorem length_few (v : Value) (ts : List ByteArray) (w : World) (hv : Strs w v ts) (h8 : ts.length ≤ 8) (hs : ∀ t ∈ ts, t.size ≤ 140737488355328) :
    Calls Tryd.prog 16 #[v] w fun e w' => e = .returned (.int .i64 (keyL ts).length) ∧ Below w.heap.size w w' := by
  have V : Aside (Strs w v ts) := hv
  obtain ⟨a, cap, rfl, hlc, hcm⟩ := hv.len
  unfold maxLen at hcm
  have HS := Lib.hid hs
  clear hv hs
  go_enter Tryd.func16, Tryd.ntmps16
  go_wp2_with fail
  go_loopg [3, 4] ts.length (fun g sn si wr => ∃ (k : Nat), k ≤ ts.length ∧ g = ts.length - k ∧ si = .int .i64 k ∧ sn = .int .i64 (keyL (ts.take k)).length ∧ wr = w)
  case atStart => exact ⟨0, Nat.zero_le _, rfl, rfl, rfl, rfl⟩
  case round =>
    obtain ⟨k, hk, hg, rfl, rfl, rfl⟩ := hrel
    have R : Aside (gk = ts.length - k) := hg
    clear hg
    obtain ⟨n, hn⟩ : ∃ n, n = (keyL (ts.take k)).length := ⟨_, rfl⟩
    rw [← hn]
    have hb : n ≤ 2251799813685376 := by
      have := key_bound ts 140737488355328 HS.out k hk
      have h2 := Nat.mul_le_mul_right (2 * 140737488355328 + 2) (show k ≤ 8 by omega)
      omega
    have NN := Lib.hid hn
    clear hn
    by_cases hlt : k < ts.length
    · obtain ⟨b, off, rfl, p0⟩ := V.out.at k hlt
      obtain ⟨t, ht⟩ : ∃ t, t = ts.getD k ⟨#[]⟩ := ⟨_, rfl⟩
      rw [← ht] at p0
      have ts0 : t.size ≤ 140737488355328 := HS.out _ (by rw [ht, List.getD_eq_getElem?_getD, List.getElem?_eq_getElem (by omega)]; exact List.getElem_mem (by omega))
      have C : Aside (t = ts.getD k ⟨#[]⟩) := ht
      clear ht
      have hlt' : (k : Int) < (ts.length : Int) := by omega
      go_wp2_with fail
      go_loopg [3, 5] t.size (fun g sn sj wr' => ∃ (j : Nat), j ≤ t.size ∧ g = t.size - j ∧ sj = .int .i64 j ∧ sn = .int .i64 ((n + t.size + 2 + zerosTo t j : Nat) : Int) ∧ wr' = wr)
      case atStart => exact ⟨0, Nat.zero_le _, rfl, rfl, by go_num, rfl⟩
      case round =>
        obtain ⟨j, hj, hg, rfl, rfl, rfl⟩ := hrel
        have R2 : Aside (gk = t.size - j) := hg
        clear hg
        have zb := zerosTo_le t j
        obtain ⟨z, hz⟩ : ∃ z, z = zerosTo t j := ⟨_, rfl⟩
        rw [← hz] at zb ⊢
        have Z := Lib.hid hz
        clear hz
        by_cases hlj : j < t.size
        · have hlj' : (j : Int) < (t.size : Int) := by omega
          have h1 := zerosTo_one t j hlj
          by_cases hc : (t[j]'hlj).toNat = 0
          · rw [if_pos hc] at h1
            have H1 := Lib.hid h1
            have fc : (((t[j]'hlj).toNat : Int) == 0) = true := by rw [hc]; rfl
            clear h1 hc
            go_wp2_with fail
            go_roundg (t.size - (j + 1))
            case measure => have := R2.out; omega
            case rel => exact ⟨j + 1, by omega, rfl, by go_num, by rw [H1.out, ← Z.out]; go_num, rfl⟩
          · rw [if_neg hc] at h1
            have H1 := Lib.hid h1
            have fc : (((t[j]'hlj).toNat : Int) == 0) = false := by rw [beq_eq_false_iff_ne]; omega
            clear h1 hc
            go_wp2_with fail
            go_roundg (t.size - (j + 1))
            case measure => have := R2.out; omega
            case rel => exact ⟨j + 1, by omega, rfl, by go_num, by rw [H1.out, ← Z.out]; rfl, rfl⟩
        · go_wp2_with fail
          go_roundg (ts.length - (k + 1))
          case measure => have := R.out; omega
          case rel =>
            refine ⟨k + 1, by omega, rfl, by go_num, ?_, rfl⟩
            rw [key_one ts k hlt, ← C.out, ← NN.out, ← zerosTo_all, show t.size = j by omega, ← Z.out]
            congr 1
            omega
    · go_wp2_with fail
      go_ret
      refine ⟨?_, Below.refl _ _⟩
      have := NN.out
      rw [List.take_of_length_le (by omega)] at this
      rw [← this]
      rfl
set_option maxHeartbeats 4000000 in
set_option maxRecDepth 100000 in
theorem length_some (v : Value) (ts : List ByteArray) (w : World) (hv : Strs w v ts) (hs : ∀ t ∈ ts, t.size ≤ 140737488355328) :
    Calls Tryd.prog 16 #[v] w fun e w' => (∃ n, e = .returned (.int .i64 n)) ∧ Below w.heap.size w w' := by
  have V : Aside (Strs w v ts) := hv
  obtain ⟨a, cap, rfl, hlc, hcm⟩ := hv.len
  unfold maxLen at hcm
  have HS := Lib.hid hs
  clear hv hs
  go_enter Tryd.func16, Tryd.ntmps16
  go_wp2_with fail
  go_loopg [3, 4] ts.length (fun g sn si wr => ∃ (k : Nat), k ≤ ts.length ∧ g = ts.length - k ∧ si = .int .i64 k ∧ (∃ n, sn = .int .i64 n) ∧ wr = w)
  case atStart => exact ⟨0, Nat.zero_le _, rfl, rfl, ⟨_, rfl⟩, rfl⟩
  case round =>
    obtain ⟨k, hk, hg, rfl, ⟨n, rfl⟩, rfl⟩ := hrel
    have R : Aside (gk = ts.length - k) := hg
    clear hg
    by_cases hlt : k < ts.length
    · obtain ⟨b, off, rfl, p0⟩ := V.out.at k hlt
      obtain ⟨t, ht⟩ : ∃ t, t = ts.getD k ⟨#[]⟩ := ⟨_, rfl⟩
      rw [← ht] at p0
      have ts0 : t.size ≤ 140737488355328 := HS.out _ (by rw [ht, List.getD_eq_getElem?_getD, List.getElem?_eq_getElem (by omega)]; exact List.getElem_mem (by omega))
      clear ht
      have hlt' : (k : Int) < (ts.length : Int) := by omega
      go_wp2_with fail
      go_loopg [3, 5] t.size (fun g sn sj wr' => ∃ (j : Nat), j ≤ t.size ∧ g = t.size - j ∧ sj = .int .i64 j ∧ (∃ n, sn = .int .i64 n) ∧ wr' = wr)
      case atStart => exact ⟨0, Nat.zero_le _, rfl, rfl, ⟨_, rfl⟩, rfl⟩
      case round =>
        obtain ⟨j, hj, hg, rfl, ⟨m, rfl⟩, rfl⟩ := hrel
        have R2 : Aside (gk = t.size - j) := hg
        clear hg
        by_cases hlj : j < t.size
        · have hlj' : (j : Int) < (t.size : Int) := by omega
          by_cases hc : (t[j]'hlj).toNat = 0
          · have fc : (((t[j]'hlj).toNat : Int) == 0) = true := by rw [hc]; rfl
            clear hc
            go_wp2_with fail
            go_roundg (t.size - (j + 1))
            case measure => have := R2.out; omega
            case rel => exact ⟨j + 1, by omega, rfl, by go_num, ⟨_, rfl⟩, rfl⟩
          · have fc : (((t[j]'hlj).toNat : Int) == 0) = false := by rw [beq_eq_false_iff_ne]; omega
            clear hc
            go_wp2_with fail
            go_roundg (t.size - (j + 1))
            case measure => have := R2.out; omega
            case rel => exact ⟨j + 1, by omega, rfl, by go_num, ⟨_, rfl⟩, rfl⟩
        · go_wp2_with fail
          go_roundg (ts.length - (k + 1))
          case measure => have := R.out; omega
          case rel => exact ⟨k + 1, by omega, rfl, by go_num, ⟨_, rfl⟩, rfl⟩
    · go_wp2_with fail
      go_ret
      exact ⟨⟨_, rfl⟩, Below.refl _ _⟩
end Go.Proofs.YtggpiikiplogmaaDoor
