/-
  Parse of digits and a suffix.
-/
import Derived.Test.YtjegjpdeclgegaaDoorDivA
import Derived.Test.YtjegjpdeclgegaaDoorConv
namespace Go.Proofs.YtjegjpdeclgegaaDoor
open Go.RowKit Go.Lib
theorem take_step (l : List UInt8) (k : Nat) (c : UInt8) (h : l[k]? = some c) : numOf (l.take (k + 1)) = numOf (l.take k) * 10 + (c.toNat - 48) := by
  rw [List.take_add_one, h]; exact numOf_snoc _ _
theorem take_lt (l : List UInt8) (hd : ∀ c ∈ l, 48 ≤ c.toNat ∧ c.toNat ≤ 57) : ∀ k, k ≤ l.length → numOf (l.take k) < 10 ^ k
  | 0, _ => by show (0 : Nat) < 1; omega
  | k + 1, hk => by
    have ih := take_lt l hd k (by omega)
    have hc : l[k]? = some l[k] := List.getElem?_eq_getElem (by omega)
    have hb := hd l[k] (List.getElem_mem _)
    rw [take_step l k _ hc, Nat.pow_succ]
    omega
set_option maxHeartbeats 4000000 in
set_option maxRecDepth 100000 in
theorem parse_dig (m i v : Nat) (hi : i < 12) (hv : m * sufN i = v) (hm : v < 9223372036854775808) (hd : (decDigits m).length ≤ 19) (w : World) (h : Suf w) :
    Calls Tryd.prog 8 #[.string (dig m ++ sufT i)] w fun e w' => e = .returned (.tuple #[.int .i64 v, .int .i64 0]) ∧ Below w.heap.size w w' := by
  have H : Aside (Suf w) := h
  clear h
  have hsz : (sufT i).size ≤ 2 := sufT_len i hi
  have e1 := text_trim m i hi
  have e2 := text_cut m i
  have e3 := text_size m i
  have e4 := suf_dot i hi
  have mpos : 0 < (decDigits m).length := List.length_pos_iff.2 (dec_ne m)
  have dsz : (dig m).size = (decDigits m).length := dig_size m
  obtain ⟨t, ht⟩ : ∃ t, t = dig m ++ sufT i := ⟨_, rfl⟩
  obtain ⟨r, hr⟩ : ∃ r, r = sufT i := ⟨_, rfl⟩
  obtain ⟨d, hdg⟩ : ∃ d, d = dig m := ⟨_, rfl⟩
  rw [← ht] at e1 e2 e3 ⊢
  rw [← hr] at e1 e2 e3 e4 hsz
  rw [← hdg] at e2 dsz
  have E : Aside (trimLeftS t.data.toList digs.data.toList = r.data.toList ∧ t.extract 0 (t.size - r.size) = d ∧ t.size = (decDigits m).length + r.size ∧ hasPrefix r.data.toList [46] = false ∧ trimPrefix r.data.toList [46] = r.data.toList) := ⟨e1, e2, e3, e4⟩
  have F : Aside (r = sufT i ∧ d = dig m ∧ i < 12 ∧ m * sufN i = v ∧ v < 9223372036854775808 ∧ (decDigits m).length ≤ 19 ∧ r.size ≤ 2 ∧ 0 < (decDigits m).length ∧ d.size = (decDigits m).length) := ⟨hr, hdg, hi, hv, hm, hd, hsz, mpos, dsz⟩
  clear e1 e2 e3 e4 ht hr hdg hi hv hm hd hsz mpos dsz
  go_enter Tryd.func8, Tryd.ntmps8
  go_wp2_with fail
  refine (cut_at t d r E.out.1 E.out.2.1 (by have := E.out.2.2.1; omega) (by have := E.out.2.2.1; have := F.out.2.2.2.2.2.1; have := F.out.2.2.2.2.2.2.1; omega) w).mono ?_
  rintro e w1 ⟨rfl, hb⟩
  have B1 : Aside (Below w.heap.size w w1) := hb
  clear hb
  go_wp2_with fail
  refine (Tryd.strings_CutPrefix r ⟨#[46]⟩ w1).mono ?_
  rintro e w2 ⟨rfl, rfl⟩
  rw [show trimPrefix r.data.toList (⟨#[46]⟩ : ByteArray).data.toList = r.data.toList from E.out.2.2.2.2, show hasPrefix r.data.toList (⟨#[46]⟩ : ByteArray).data.toList = false from E.out.2.2.2.1]
  go_wp2_with fail
  rw [F.out.1]
  refine (factor_any i F.out.2.2.1 _ (H.out.below B1.out)).mono ?_
  rintro e w3 ⟨rfl, hb⟩
  have B3 : Aside (Below w.heap.size w w3) := B1.out.trans (hb.mono B1.out.size)
  clear hb
  rw [← F.out.1]
  obtain ⟨n, hn⟩ : ∃ n, n = sufN i := ⟨_, rfl⟩
  rw [← hn]
  have NE : Aside (n = sufN i ∧ 0 < n ∧ n < 18446744073709551616) := ⟨hn, by rw [hn]; exact (sufN_pos i F.out.2.2.1).1, by rw [hn]; exact (sufN_pos i F.out.2.2.1).2⟩
  clear hn
  have n0 : ¬ (n : Int) = 0 := by have := NE.out.2.1; omega
  have n0' : ((n : Int) == 0) = false := by simpa using n0
  have em : d.toList.isEmpty = false := by
    rw [ByteArray.toList_eq]
    cases hl : d.data.toList with
    | nil =>
      have h2 := congrArg List.length hl
      have h3 := F.out.2.2.2.2.2.2.2.1
      have h4 := F.out.2.2.2.2.2.2.2.2
      have h5 : d.data.toList.length = d.size := by simp
      rw [h2] at h5
      simp at h5
      omega
    | cons _ _ => rfl
  have dl : (d.size : Int) ≤ 19 := by have := F.out.2.2.2.2.2.2.2.2; have := F.out.2.2.2.2.2.1; omega
  have dg : decide ((d.size : Int) > 19) = false := by rw [decide_eq_false_iff_not]; omega
  obtain ⟨cap, w4, hcv, hb, hcells⟩ := conv_bytes w3 (d ++ ⟨#[]⟩)
  have B4 : Aside (Below w.heap.size w w4) := B3.out.trans (hb.mono B3.out.size)
  have C4 : Aside (∀ k v, (d.data.toList.map fun b => (Value.int .u8 b.toNat))[k]? = some v → w4.cell? ⟨w3.heap.size, k, none⟩ = some v) := fun k v hv => hcells k v (by simpa using hv)
  have sz : (d ++ ⟨#[]⟩ : ByteArray).size = d.size := by rw [ByteArray.size_append]; rfl
  rw [sz] at hcv
  clear hcells hb sz
  go_wp2_with fail
  go_loopg [10, 58] (d.size) (fun g sn si wr => ∃ (k : Nat), k ≤ d.size ∧ g = d.size - k ∧ sn = .int .u64 (numOf (d.data.toList.take k)) ∧ si = .int .i64 k ∧ w4 = wr)
  case atStart => exact ⟨0, by omega, rfl, rfl, rfl, rfl⟩
  case round =>
    obtain ⟨k, hk, hg, rfl, rfl, rfl⟩ := hrel
    have R : Aside (gk = d.size - k ∧ k ≤ d.size) := ⟨hg, hk⟩
    clear hg hk
    have LD : Aside (d.data.toList = decDigits m ∧ d.data.toList.length = d.size) := ⟨by rw [F.out.2.1]; simp [dig], by simp⟩
    by_cases hlt : k < d.size
    · have hlt' : (k : Int) < (d.size : Int) := by omega
      have hc : d.data.toList[k]? = some (d.data.toList[k]'(by have := LD.out.2; omega)) := List.getElem?_eq_getElem _
      obtain ⟨c, hcc⟩ : ∃ c, c = d.data.toList[k]'(by have := LD.out.2; omega) := ⟨_, rfl⟩
      rw [← hcc] at hc
      have hbd := dec_digits m c (by rw [← LD.out.1]; exact List.mem_of_getElem? hc)
      have hcell := C4.out k (.int .u8 c.toNat) (by rw [List.getElem?_map, hc]; rfl)
      have ST := take_step d.data.toList k c hc
      have XL := take_lt d.data.toList (fun c hc => dec_digits m c (by rw [← LD.out.1]; exact hc)) k (by have := LD.out.2; omega)
      have X2 : (10 : Nat) ^ k ≤ 10 ^ 18 := Nat.pow_le_pow_right (by omega) (by omega)
      have X3 : (10 : Nat) ^ 18 = 1000000000000000000 := by decide
      obtain ⟨x, hx⟩ : ∃ x, x = numOf (d.data.toList.take k) := ⟨_, rfl⟩
      obtain ⟨y, hy⟩ : ∃ y, y = numOf (d.data.toList.take (k + 1)) := ⟨_, rfl⟩
      obtain ⟨z, hz⟩ : ∃ z, z = c.toNat := ⟨_, rfl⟩
      rw [← hx] at XL ST ⊢
      rw [← hy, ← hz] at ST
      rw [← hz] at hcell hbd
      have Y : Aside (y = numOf (d.data.toList.take (k + 1)) ∧ y = x * 10 + (z - 48) ∧ 48 ≤ z ∧ z ≤ 57) := ⟨hy, ST, hbd.1, hbd.2⟩
      have x1 : (x : Int) < 1000000000000000000 := by omega
      have z1 : (48 : Int) ≤ (z : Int) := by omega
      have z2 : (z : Int) ≤ 57 := by omega
      clear hc hcc hbd ST XL X2 X3 hx hy hz
      go_wp2_with fail
      go_roundg (d.size - (k + 1))
      case measure => have := R.out.1; omega
      case rel => exact ⟨k + 1, by omega, rfl, by rw [← Y.out.1]; have := Y.out.2; congr 1; omega, by go_num, rfl⟩
    · obtain rfl : k = d.size := by have := R.out.2; omega
      go_wp2_with fail
      have NU : Aside (numOf (d.data.toList.take d.size) = m) := by
        show numOf _ = m
        rw [← LD.out.2, List.take_length, LD.out.1, numOf_dec]
      rw [NU.out]
      refine wp_loop_rounds 1 ?_
      rw [rounds_succ]
      go_wp2_with fail
      have ML : m < 18446744073709551616 := by
        have h1 := take_lt d.data.toList (fun c hc => dec_digits m c (by rw [← LD.out.1]; exact hc)) d.data.toList.length (Nat.le_refl _)
        rw [List.take_length, LD.out.1, numOf_dec] at h1
        have h2 : (10 : Nat) ^ (decDigits m).length ≤ 10 ^ 19 := Nat.pow_le_pow_right (by omega) F.out.2.2.2.2.2.1
        have h3 : (10 : Nat) ^ 19 = 10000000000000000000 := by decide
        omega
      refine (times_one m n v ML NE.out.2.2 (by rw [NE.out.1]; exact F.out.2.2.2.1) F.out.2.2.2.2.1 _).mono ?_
      rintro e w5 ⟨rfl, hb⟩
      have B5 : Aside (Below w.heap.size w w5) := B4.out.trans (hb.mono B4.out.size)
      clear hb
      go_wp2_with fail
      go_ret2
      exact ⟨rfl, B5.out⟩
end Go.Proofs.YtjegjpdeclgegaaDoor
