/-
  Math, Base, Base2, Num, Wr, joined.
-/
import Derived.WalkKit
import Derived.Laws.BitsAllLaws
import Derived.Laws.Bits64
import Derived.Laws.Bits64b
import Derived.Test.YthdofbjijpghfaaGreatDoorRows
import Derived.WalkSpells
import Derived.WalkLawsBesides
import Derived.Deep.LoopGhost
import Derived.Laws.Rows
import Derived.Lib.SlBytesConst
import Derived.Deep.WholeRow
import Derived.OwnWalk
import Derived.Laws.AppendOwnNone
import Derived.Laws.BytesArg
import Derived.Laws.CopyOwn
import Derived.Laws.MakeOwn
import Derived.Lib.AppendStr
import Derived.Deep.QuietTactic
import Derived.BigQuiet
import Derived.Deep.RegionLaw
import Derived.RegionTactic
import Derived.OneCell
import Derived.Maps.AppendAt
import Derived.Deep.DeepAppendWide
import Derived.Lib.SliceRun
section S0
namespace Go.Proofs.YthdofbjijpghfaaGreatDoor

/-- A byte as a number. -/
def c8 (x : UInt8) : Int := (x.toNat : Int)
theorem c8_lo (x : UInt8) : 0 ≤ c8 x := by unfold c8; omega
theorem c8_hi (x : UInt8) : c8 x < 256 := by unfold c8; have := x.toNat_lt; omega
theorem c8_nat (x : UInt8) : (c8 x).toNat = x.toNat := by unfold c8; omega
theorem c8_inj {x y : UInt8} (h : c8 x = c8 y) : x = y := by
  unfold c8 at h; exact UInt8.toNat_inj.1 (by omega)
theorem c8_of (n : Nat) (h : n < 256) : c8 (UInt8.ofNat n) = (n : Int) := by
  unfold c8; rw [UInt8.toNat_ofNat']; omega
theorem toNat_of (n : Nat) (h : n < 256) : (UInt8.ofNat n).toNat = n := by rw [UInt8.toNat_ofNat']; omega
theorem of_toNat (c : UInt8) : UInt8.ofNat c.toNat = c := by simp

theorem take_one {α : Type} (l : List α) (k : Nat) (d : α) (h : k < l.length) : l.take (k + 1) = l.take k ++ [l.getD k d] := by
  rw [List.take_add_one]; simp [List.getD, h]

/-- The form of a number. -/
def form (v : Nat) : List UInt8 := if h : v < 128 then [UInt8.ofNat v] else UInt8.ofNat (v % 128 + 128) :: form (v / 128)
termination_by v
decreasing_by omega
theorem form_low {v : Nat} (h : v < 128) : form v = [UInt8.ofNat v] := by rw [form, dif_pos h]
theorem form_high {v : Nat} (h : ¬ v < 128) : form v = UInt8.ofNat (v % 128 + 128) :: form (v / 128) := by rw [form, dif_neg h]
theorem form_pos (v : Nat) : 1 ≤ (form v).length := by
  by_cases h : v < 128
  · rw [form_low h]; simp
  · rw [form_high h]; simp
theorem form_le (k v : Nat) (hk : 1 ≤ k) (h : v < 128 ^ k) : (form v).length ≤ k := by
  induction k generalizing v with
  | zero => omega
  | succ k ih =>
    by_cases h' : v < 128
    · rw [form_low h']; simp
    · rw [form_high h', List.length_cons]
      have h2 : v / 128 < 128 ^ k := by
        rw [Nat.pow_succ] at h; omega
      rcases Nat.eq_zero_or_pos k with rfl | hp
      · simp at h2; omega
      · have := ih (v / 128) hp h2; omega
theorem form_ten (v : Nat) (h : v < 18446744073709551616) : (form v).length ≤ 10 := form_le 10 v (by decide) (by omega)

/-- What a reader makes of bytes, i bytes behind the form's first one: the value, the form's size, the error. -/
def num : List UInt8 → Nat → Nat × Nat × Nat
  | [], i => (0, 0, if i < 10 then 20 else 21)
  | c :: t, i =>
    if 10 ≤ i then (0, 0, 21)
    else if 128 ≤ c.toNat then
      if (num t (i + 1)).2.2 = 0 then (c.toNat - 128 + 128 * (num t (i + 1)).1, (num t (i + 1)).2.1 + 1, 0) else (0, 0, (num t (i + 1)).2.2)
    else if (0 < i ∧ c.toNat = 0) ∨ (i = 9 ∧ 1 < c.toNat) then (0, 0, 21) else (c.toNat, 1, 0)

theorem num_form (v : Nat) (t : List UInt8) (i : Nat) (hi : i ≤ 9) (hv : v * 128 ^ i < 18446744073709551616) (h0 : 0 < i → 0 < v) :
    num (form v ++ t) i = (v, (form v).length, 0) := by
  induction v using Nat.strongRecOn generalizing i with
  | _ v ih =>
    by_cases h : v < 128
    · rw [form_low h, List.singleton_append, num, if_neg (by omega), toNat_of v (by omega), if_neg (by omega)]
      rw [if_neg ?_]
      · simp
      · rintro (⟨h1, h2⟩ | ⟨rfl, h2⟩)
        · have := h0 h1; omega
        · omega
    · have h9 : i ≠ 9 := by rintro rfl; omega
      have hv' : v / 128 * 128 ^ (i + 1) < 18446744073709551616 := by
        have e : v / 128 * 128 ^ (i + 1) = v / 128 * 128 * 128 ^ i := by rw [Nat.pow_succ, Nat.mul_assoc, Nat.mul_comm (128 ^ i)]
        rw [e]
        exact Nat.lt_of_le_of_lt (Nat.mul_le_mul_right _ (by omega)) hv
      rw [form_high h, List.cons_append, num, if_neg (by omega), toNat_of _ (by omega), if_pos (by omega), ih (v / 128) (by omega) (i + 1) (by omega) hv' (fun _ => by omega)]
      simp only [if_true, List.length_cons, Prod.mk.injEq, and_true]
      omega

/-- What is taken is a form. -/
theorem form_num (b : List UInt8) (i : Nat) (h : (num b i).2.2 = 0) :
    i ≤ 9 ∧ b = form (num b i).1 ++ b.drop (num b i).2.1 ∧ (num b i).2.1 = (form (num b i).1).length ∧ (num b i).1 * 128 ^ i < 18446744073709551616 ∧ (0 < i → 0 < (num b i).1) := by
  induction b generalizing i with
  | nil => simp only [num] at h; split at h <;> simp at h
  | cons c t ih =>
    have hc := c.toNat_lt
    rw [num] at h ⊢
    by_cases h1 : 10 ≤ i
    · rw [if_pos h1] at h; simp at h
    rw [if_neg h1] at h ⊢
    by_cases h2 : 128 ≤ c.toNat
    · rw [if_pos h2] at h ⊢
      by_cases h3 : (num t (i + 1)).2.2 = 0
      · rw [if_pos h3]
        obtain ⟨a1, a2, a3, a4, a5⟩ := ih (i + 1) h3
        have hp := a5 (by omega)
        have n1 : ¬ (c.toNat - 128 + 128 * (num t (i + 1)).1 < 128) := by omega
        have e1 : (c.toNat - 128 + 128 * (num t (i + 1)).1) / 128 = (num t (i + 1)).1 := by omega
        have e2 : (c.toNat - 128 + 128 * (num t (i + 1)).1) % 128 + 128 = c.toNat := by omega
        refine ⟨by omega, ?_, ?_, ?_, fun _ => by show 0 < c.toNat - 128 + 128 * (num t (i + 1)).1; omega⟩
        · show c :: t = form (c.toNat - 128 + 128 * (num t (i + 1)).1) ++ (c :: t).drop ((num t (i + 1)).2.1 + 1)
          rw [form_high n1, e1, e2, of_toNat, List.cons_append, List.drop_succ_cons, ← a2]
        · show (num t (i + 1)).2.1 + 1 = (form (c.toNat - 128 + 128 * (num t (i + 1)).1)).length
          rw [form_high n1, e1, List.length_cons, a3]
        · show (c.toNat - 128 + 128 * (num t (i + 1)).1) * 128 ^ i < 18446744073709551616
          rw [Nat.pow_succ] at a4
          have b1 : ((num t (i + 1)).1 + 1) * (128 ^ i * 128) ≤ 18446744073709551616 := by
            have d : (18446744073709551616 : Nat) = 2 ^ (64 - 7 * (i + 1)) * (128 ^ i * 128) := by
              rw [show (128 : Nat) ^ i * 128 = 128 ^ (i + 1) from (Nat.pow_succ _ _).symm, show (128 : Nat) = 2 ^ 7 from rfl, ← Nat.pow_mul, ← Nat.pow_add, show 64 - 7 * (i + 1) + 7 * (i + 1) = 64 by omega]
            rw [d] at a4 ⊢
            exact Nat.mul_le_mul_right _ (Nat.lt_of_mul_lt_mul_right a4)
          have b2 : (c.toNat - 128 + 128 * (num t (i + 1)).1) * 128 ^ i < ((num t (i + 1)).1 + 1) * (128 ^ i * 128) := by
            rw [show ((num t (i + 1)).1 + 1) * (128 ^ i * 128) = (((num t (i + 1)).1 + 1) * 128) * 128 ^ i by rw [Nat.mul_comm (128 ^ i), Nat.mul_assoc]]
            exact Nat.mul_lt_mul_of_pos_right (by omega) (Nat.pow_pos (by decide))
          omega
      · rw [if_neg h3] at h; simp at h; exact absurd h h3
    · rw [if_neg h2] at h ⊢
      by_cases h3 : (0 < i ∧ c.toNat = 0) ∨ (i = 9 ∧ 1 < c.toNat)
      · rw [if_pos h3] at h; simp at h
      · rw [if_neg h3]
        refine ⟨by omega, ?_, ?_, ?_, fun hi => by show 0 < c.toNat; omega⟩
        · show c :: t = form c.toNat ++ (c :: t).drop 1
          rw [form_low (by omega), of_toNat]; rfl
        · show 1 = (form c.toNat).length
          rw [form_low (by omega)]; rfl
        · show c.toNat * 128 ^ i < 18446744073709551616
          by_cases h9 : i = 9
          · subst h9
            have : c.toNat ≤ 1 := by omega
            omega
          · have hi : 128 ^ i ≤ 128 ^ 8 := Nat.pow_le_pow_right (by decide) (by omega)
            exact Nat.lt_of_le_of_lt (Nat.mul_le_mul (show c.toNat ≤ 127 by omega) hi) (by decide)
theorem num_err (b : List UInt8) (i : Nat) (h : (num b i).2.2 ≠ 0) : num b i = (0, 0, (num b i).2.2) := by
  cases b with
  | nil => rfl
  | cons c t =>
    rw [num] at h ⊢
    split
    · rfl
    · split
      · split
        · rename_i h1 h2 h3
          rw [if_neg h1, if_pos h2, if_pos h3] at h; simp at h
        · rfl
      · split
        · rfl
        · rename_i h1 h2 h3
          rw [if_neg h1, if_neg h2, if_neg h3] at h; simp at h

/-- The number of a signed one. -/
def zig (v : Int) : Nat := if 0 ≤ v then (2 * v).toNat else (-2 * v - 1).toNat
def zag (u : Nat) : Int := if u % 2 = 0 then (u / 2 : Nat) else -((u / 2 : Nat) : Int) - 1
theorem zag_zig (v : Int) : zag (zig v) = v := by
  unfold zag zig; split <;> split <;> omega
theorem zig_zag (u : Nat) : zig (zag u) = u := by
  unfold zag zig; split <;> split <;> omega
theorem zig_lt (v : Int) (h1 : -9223372036854775808 ≤ v) (h2 : v < 9223372036854775808) : zig v < 18446744073709551616 := by
  unfold zig; split <;> omega
theorem zag_bd (u : Nat) (h : u < 18446744073709551616) : -9223372036854775808 ≤ zag u ∧ zag u < 9223372036854775808 := by
  unfold zag; split <;> omega
end Go.Proofs.YthdofbjijpghfaaGreatDoor
end S0

section S1
namespace Go.Proofs.YthdofbjijpghfaaGreatDoor
open Go.RowKit

theorem ret_int {k : IntKind} {a b : Int} (h : a = b) : Ending.returned (.int k a) = .returned (.int k b) := by rw [h]
/-- The slice v holds the bytes l in w. -/
def Bytes (w : World) (v : Value) (l : List UInt8) : Prop :=
  ∃ a cap, v = .slice a l.length cap ∧ l.length ≤ cap ∧ cap ≤ maxLen ∧ (a = none → cap = 0) ∧ (∀ k, k < l.length → ∃ b off, a = some ⟨b, off, none⟩ ∧ w.cell? ⟨b, off + k, none⟩ = some (.int .u8 (c8 (l.getD k 0))))

theorem Bytes.below {w w' : World} {v : Value} {l : List UInt8} (H : Bytes w v l) (hb : Below w.heap.size w w') : Bytes w' v l := by
  obtain ⟨a, cap, e, h1, h2, h0, h3⟩ := H
  refine ⟨a, cap, e, h1, h2, h0, fun k hk => ?_⟩
  obtain ⟨b, off, ea, hc⟩ := h3 k hk
  exact ⟨b, off, ea, by rw [hb.cell (p := ⟨b, off + k, none⟩) (block_lt_of_cell hc)]; exact hc⟩

theorem info_byte : (Tryz.prog.info? 5).map (fun i => (i.zero, i.size, i.bytes)) = some (some (.int .u8 0), 1, 1) := by kernel_rfl
/-- The cells of bytes. -/
def cells8 (l : List UInt8) : List Value := l.map fun c => .int .u8 (c8 c)
theorem cells8_length (l : List UInt8) : (cells8 l).length = l.length := by simp [cells8]
theorem cells8_at {l : List UInt8} {k : Nat} (h : k < l.length) : (cells8 l)[k]? = some (.int .u8 (c8 (l.getD k 0))) := by
  simp [cells8, h]
theorem cells8_one (l : List UInt8) : ∀ v ∈ cells8 l, v.oneCell' = true := by
  intro v hv; simp only [cells8, List.mem_map] at hv; obtain ⟨c, _, rfl⟩ := hv; rfl
theorem cells8_app (l m : List UInt8) : cells8 (l ++ m) = cells8 l ++ cells8 m := by simp [cells8]
/-- The slice v belongs to the call alone (its block is at B or above) and holds the bytes l. -/
def Own (B : Nat) (w : World) (v : Value) (l : List UInt8) : Prop := w.ownsRow B 5 1 v l.length (cells8 l)
theorem Own.bytes {B : Nat} {w : World} {v : Value} {l : List UInt8} (H : Own B w v l) : Bytes w v l := by
  obtain ⟨_, ⟨hv, hn⟩ | ⟨g, cap, cur, hv, hb, hg, hn, hm, hs, ht⟩⟩ := H
  · refine ⟨none, 0, by rw [hv, hn], by omega, by decide, fun _ => rfl, fun k hk => by omega⟩
  · refine ⟨_, cap, hv, hn, hm, fun h => by simp at h, fun k hk => ⟨g, 0, rfl, ?_⟩⟩
    rw [cell_of_row w g (0 + k) cur _ _ hg, Nat.zero_add, ← Array.getElem?_toList]
    have h1 : (cur.toList.take (l.length * 1))[k]? = cur.toList[k]? := by rw [List.getElem?_take_of_lt (by omega)]
    rw [← h1, ht, cells8_at hk]
theorem Own.below {B : Nat} {w w' : World} {v : Value} {l : List UInt8} (H : Own B w v l) (hb : Below w.heap.size w w') : Own B w' v l := by
  obtain ⟨h1, h | ⟨g, cap, cur, hv, hB, hg, hr⟩⟩ := H
  · exact ⟨h1, .inl h⟩
  · have hlt : g < w.heap.size := by
      rcases Nat.lt_or_ge g w.heap.size with h | h
      · exact h
      · rw [Array.getElem?_eq_none h] at hg; simp at hg
    exact ⟨h1, .inr ⟨g, cap, cur, hv, hB, by rw [hb.block g hlt]; exact hg, hr⟩⟩
theorem Own.mono {B B' : Nat} {w : World} {v : Value} {l : List UInt8} (H : Own B w v l) (h : B' ≤ B) : Own B' w v l := by
  obtain ⟨h1, h2 | ⟨g, cap, cur, hv, hB, hr⟩⟩ := H
  · exact ⟨h1, .inl h2⟩
  · exact ⟨h1, .inr ⟨g, cap, cur, hv, by omega, hr⟩⟩
theorem add_plain (b off j : Nat) : (⟨b, off, none⟩ : Addr).add j = ⟨b, off + j, none⟩ := by unfold Addr.add; split <;> simp_all
theorem Bytes.take {w : World} {a : Option Addr} {cap : Nat} {l : List UInt8} (H : Bytes w (.slice a l.length cap) l) (k : Nat) (hk : k ≤ l.length) : Bytes w (.slice a k cap) (l.take k) := by
  obtain ⟨a', cap', e, h1, h2, h0, hc⟩ := H
  simp only [Value.slice.injEq, true_and] at e
  obtain ⟨rfl, rfl⟩ := e
  refine ⟨a, cap, by rw [List.length_take, Nat.min_eq_left hk], by rw [List.length_take]; omega, h2, h0, fun j hj => ?_⟩
  rw [List.length_take] at hj
  obtain ⟨b, off, ea, h⟩ := hc j (by omega)
  refine ⟨b, off, ea, ?_⟩
  rw [h]
  simp only [List.getD, List.getElem?_take_of_lt (show j < k by omega)]
theorem Bytes.drop {w : World} {a : Option Addr} {cap : Nat} {l : List UInt8} (H : Bytes w (.slice a l.length cap) l) (m : Nat) (_hm : m ≤ l.length) : Bytes w (.slice (Option.map (fun x => x.add m) a) (l.length - m) (cap - m)) (l.drop m) := by
  obtain ⟨a', cap', e, h1, h2, h0, hc⟩ := H
  simp only [Value.slice.injEq, true_and] at e
  obtain ⟨rfl, rfl⟩ := e
  refine ⟨_, cap - m, by rw [List.length_drop], by rw [List.length_drop]; omega, by omega, fun h => ?_, fun j hj => ?_⟩
  · cases a with
    | none => have := h0 rfl; omega
    | some a => simp at h
  · rw [List.length_drop] at hj
    obtain ⟨b, off, rfl, h⟩ := hc (m + j) (by omega)
    refine ⟨b, off + m, by simp [add_plain], ?_⟩
    rw [Nat.add_assoc, h]
    simp [List.getD, List.getElem?_drop]
theorem Bytes.drop_all {w : World} {a : Option Addr} {m : Nat} {l : List UInt8} (H : Bytes w (.slice a l.length m) l) (_hm : m ≤ l.length) : Bytes w (.slice a (l.length - m) 0) (l.drop m) := by
  obtain ⟨a', cap', e, h1, h2, h0, hc⟩ := H
  simp only [Value.slice.injEq, true_and] at e
  obtain ⟨rfl, rfl⟩ := e
  have e : l.length - m = 0 := by omega
  have e2 : l.drop m = [] := List.drop_eq_nil_of_le (by omega)
  rw [e, e2]
  exact ⟨a, 0, rfl, by simp, by decide, fun _ => rfl, fun j hj => by simp at hj⟩
theorem Bytes.zero (w : World) (a : Option Addr) {l : List UInt8} (h : l = []) : Bytes w (.slice a 0 0) l := by
  rw [h]; exact ⟨a, 0, rfl, by simp, by decide, fun _ => rfl, fun j hj => by simp at hj⟩
theorem Bytes.nil (w : World) : Bytes w (.slice none 0 0) [] := ⟨none, 0, rfl, by simp, by decide, fun _ => rfl, fun k hk => by simp at hk⟩
theorem news8 {w : World} {a : Addr} {l : List UInt8}
    (h : ∀ k, k < l.length → ∃ b off, some a = some (⟨b, off, none⟩ : Addr) ∧ w.cell? ⟨b, off + k, none⟩ = some (.int .u8 (c8 (l.getD k 0)))) :
    ∀ j v, (cells8 l)[j]? = some v → w.cell? (a.add j) = some v := by
  intro j v hv
  have hj : j < l.length := by
    rcases Nat.lt_or_ge j l.length with q | q
    · exact q
    · rw [List.getElem?_eq_none (by rw [cells8_length]; exact q)] at hv; simp at hv
  obtain ⟨b, off, ha, hc⟩ := h j hj
  obtain rfl : a = ⟨b, off, none⟩ := by simpa using ha
  rw [cells8_at hj] at hv
  rw [add_plain, hc]; exact hv

def str8 (l : List UInt8) : ByteArray := strOfNums (l.map c8)
theorem getD8 (l : List UInt8) (i : Nat) : (l.map c8).getD i 0 = c8 (l.getD i 0) := by
  simp only [List.getD, List.getElem?_map]; cases l[i]? <;> rfl
theorem conv8 {w : World} {v : Value} {l : List UInt8} (hv : Bytes w v l) : (convert 126 9 v).run Tryz.prog w = .ok (.string (str8 l)) w := by
  obtain ⟨a, cap, rfl, hlc, hcm, hn, hc⟩ := hv
  cases l with
  | nil =>
    rw [run_convert_bytes_string w 126 9 5 a _ cap Tryz.underlying126 Tryz.underlying5 Tryz.underlying9]
    cases a with
    | none => simp [Conv.bytesToString]; rfl
    | some a => exact (run_bytesToString w a 0 cap [] (by rfl))
  | cons c l =>
    obtain ⟨b, off, rfl, _⟩ := hc 0 (by simp)
    refine run_convert_bytes_arg w 126 5 Tryz.underlying126 Tryz.underlying5 b off _ cap ((c :: l).map c8) (by simp) (fun i hi => ?_) 9 Tryz.underlying9
    obtain ⟨b', off', e, h⟩ := hc i hi
    simp only [Option.some.injEq, Addr.mk.injEq] at e
    obtain ⟨rfl, rfl, _⟩ := e
    rw [h, getD8]

theorem size_byte : (Tryz.prog.info? 5).map (·.size) = some 1 := by kernel_rfl
theorem splice_take {α : Type} (L cs : List α) : (splice L 0 cs).take cs.length = cs := by simp [splice]

theorem make_bytes (w : World) {a b : Int} (len cap : Nat) (ha : a = len) (hb : b = cap) (h : len ≤ cap) (hc : cap ≤ 140737488355328) :
    (Instr.makeSlice 126 (.int .i64 a) (.int .i64 b)).run Tryz.prog w = .ok (.slice (some ⟨w.heap.size, 0, none⟩) len cap) (w.alloc (.cells (madeCells #[.int .u8 0] cap) 5)) := by
  subst ha hb
  obtain ⟨i0, hi, hz0, hz1, hz2⟩ := info_parts info_byte
  have h := run_make (P := Tryz.prog) w 126 5 i0 (.int .u8 0) Tryz.underlying126 hi hz0 .i64 .i64 (len : Int) (cap : Int) (by omega) (by omega) (by rw [hz2]; omega) (by omega)
  simpa [hz1, Value.cells] using h
theorem made_heap (w : World) (cap : Nat) : (w.alloc (.cells (madeCells #[.int .u8 0] cap) 5)).heap[w.heap.size]? = some (.cells (madeCells #[.int .u8 0] cap).toList.toArray 5 (0, 0)) := by
  rw [heap_alloc_new]
theorem made_length (cap : Nat) : (madeCells #[.int .u8 0] cap).toList.length = cap := by rw [Array.length_toList, size_madeCells]

/-- A source of a copy. -/
theorem Bytes.src {w : World} {a : Option Addr} {cap : Nat} {l m : List UInt8} (H : Bytes w (.slice a l.length cap) l) (hm : ∀ k, k < m.length → k < l.length ∧ l.getD k 0 = m.getD k 0) :
    0 < (cells8 m).length → ∃ ad, a = some ad ∧ ∀ j v, (cells8 m)[j]? = some v → w.cell? (ad.add j) = some v := by
  intro hp
  rw [cells8_length] at hp
  obtain ⟨a', cap', e, _, _, _, hc⟩ := H
  simp only [Value.slice.injEq, true_and] at e
  obtain ⟨rfl, rfl⟩ := e
  obtain ⟨b, off, rfl, _⟩ := hc 0 (hm 0 hp).1
  refine ⟨_, rfl, news8 fun k hk => ?_⟩
  obtain ⟨b', off', e, h⟩ := hc k (hm k hk).1
  exact ⟨b', off', e, by rw [h, (hm k hk).2]⟩

theorem new_cells (w : World) (xs : Array Value) : ∀ j v, xs.toList[j]? = some v → (w.alloc (.cells xs 5)).cell? ((⟨w.heap.size, 0, none⟩ : Addr).add j) = some v := by
  intro j v hv
  rw [add_plain, Nat.zero_add, World.cell?_alloc_new, ← Array.getElem?_toList]; exact hv
theorem own_made {w1 : World} {g n cap : Nat} {l : List UInt8} {z : Array Value} (H : w1.heap[g]? = some (.cells (splice (madeCells z cap).toList 0 (cells8 l)).toArray 5 (0, 0))) (hn : l.length ≤ cap ∧ l.length = n ∧ cap ≤ maxLen) :
    w1.ownsRow g 5 1 (.slice (some ⟨g, 0, none⟩) n cap) n (cells8 l) := by
  obtain ⟨h1, rfl, h2⟩ := hn
  have hm : (madeCells z cap).toList.length = cap := by simp [size_madeCells]
  refine ⟨by rw [cells8_length, Nat.mul_one], .inr ⟨g, cap, _, rfl, Nat.le_refl _, H, h1, h2, ?_, ?_⟩⟩
  · rw [List.size_toArray, length_splice _ _ _ (by rw [cells8_length, hm, Nat.zero_add]; exact h1), hm, Nat.mul_one]
  · rw [Nat.mul_one]; have := splice_take (madeCells z cap).toList (cells8 l); rw [cells8_length] at this; exact this
theorem owns_below {B e k n : Nat} {w w' : World} {v : Value} {xs : List Value} (H : w.ownsRow B e k v n xs) (hb : Below w.heap.size w w') : w'.ownsRow B e k v n xs := by
  obtain ⟨h1, h | ⟨g, cap, cur, hv, hB, hg, hr⟩⟩ := H
  · exact ⟨h1, .inl h⟩
  · have hlt : g < w.heap.size := by
      rcases Nat.lt_or_ge g w.heap.size with h | h
      · exact h
      · rw [Array.getElem?_eq_none h] at hg; simp at hg
    exact ⟨h1, .inr ⟨g, cap, cur, hv, hB, by rw [hb.block g hlt]; exact hg, hr⟩⟩

theorem Bytes.drewN {w : World} {v : Value} {l : List UInt8} (H : Bytes w v l) (n : Nat) : Bytes (w.drewN n) v l := by
  obtain ⟨a, cap, e, h1, h2, h0, h3⟩ := H
  refine ⟨a, cap, e, h1, h2, h0, fun k hk => ?_⟩
  obtain ⟨b, off, ea, hc⟩ := h3 k hk
  exact ⟨b, off, ea, by rw [World.cell?_drewN]; exact hc⟩
theorem below_drawn (w : World) (n : Nat) : Below w.heap.size w (w.drewN n) := ⟨rfl, rfl, rfl, Nat.le_refl _, fun _ _ => rfl⟩

/-- An append onto a row of the call alone, as one step of a region that draws its order. -/
theorem step_append_own {P : Program} {ops : Array Oper} {o : Oper} {a : Act} {w : World} {K : Act → World → Prop} {Q : Exit → Act → World → Prop} {E : Prop}
    (hgd : o.guard = none) (s x : Operand) (t : TypeId) (ho : o.op = .call { callee := .builtin .append, args := #[s, x], argTypes := #[t, t] })
    (base : Nat) (e : TypeId) (i : TypeInfo) (z : Value) (size bytes : Nat) (ht : P.underlying t = some (.slice e)) (hi : P.info? e = some i) (hz : i.zero = some z)
    (hsize : i.size = size) (hby : i.bytes = bytes) (hzs : z.cells.size = size) (hsz : 0 < size)
    (v : Value) (n : Nat) (xs : List Value) (hs : a.eval s = v) (hown : w.ownsRow base e size v n xs)
    (ad : Addr) (m c : Nat) (news : List Value) (hx : a.eval x = .slice (some ad) m c) (hl : news.length = m * size) (hnews : ∀ j u, news[j]? = some u → w.cell? (ad.add j) = some u) (h1 : ∀ u ∈ news, u.oneCell' = true)
    (h63 : n + m ≤ maxLen) (hbytes : (n + m) * bytes ≤ 140737488355328) (hbase : base ≤ w.heap.size)
    (h : ∀ v' w', w'.ownsRow base e size v' (n + m) (xs ++ news) → w.grownBy w' v.ownBlock → K (a.put o.dst v') w') :
    if Region.wanted o (yielded ops a.tmps) = true then Oper.wp P o a w K Q else E := by
  have hw : Region.wanted o (yielded ops a.tmps) = true := by simp [Region.wanted, hgd]
  rw [if_pos hw]
  exact wp_append_own w s x t ho base e i z size bytes ht hi hz hsize hby hzs hsz v n xs hs hown ad m c news hx hl hnews h1 h63 hbytes hbase fun v' w' h2 h3 _ => h v' w' h2 h3

/-- One byte more on a slice of the call alone. -/
theorem own_more {B : Nat} {w' : World} {v' : Value} {l : List UInt8} {c : UInt8} (h : w'.ownsRow B 5 1 v' (l.length + 1) (cells8 l ++ [.int .u8 (c8 c)])) : Own B w' v' (l ++ [c]) := by
  have e : cells8 (l ++ [c]) = cells8 l ++ [.int .u8 (c8 c)] := by simp [cells8]
  show w'.ownsRow _ _ _ _ _ _
  rw [e, List.length_append]; exact h
theorem below_more {B : Nat} {w0 w w' : World} {v : Value} {l : List UInt8} {o : Obj} (hb : Below B w0 w) (ho : Own B w v l) (hB : B ≤ w.heap.size) (hg : (w.alloc o).grownBy w' v.ownBlock) : Below B w0 w' :=
  (hb.alloc hB o).grown hg (by simp; omega) (fun k hk => (World.ownsRow.lt ho k hk).1)
theorem one_cell {w : World} {x : Value} : ∀ j v, [x][j]? = some v → (w.alloc (.cells #[x] 5)).cell? ((⟨w.heap.size, 0, none⟩ : Addr).add j) = some v := fun j v h => new_cells w #[x] j v h


end Go.Proofs.YthdofbjijpghfaaGreatDoor
end S1

section S2
namespace Go.Proofs.YthdofbjijpghfaaGreatDoor
open Go.RowKit

/-- All but the blocks of F is as it was. -/
structure Kept (F : Nat → Prop) (w w' : World) : Prop where
  os : w'.os = w.os
  tape : w'.tape = w.tape
  output : w'.output = w.output
  size : w.heap.size ≤ w'.heap.size
  block : ∀ k, k < w.heap.size → ¬ F k → w'.heap[k]? = w.heap[k]?

theorem Kept.refl (F : Nat → Prop) (w : World) : Kept F w w := ⟨rfl, rfl, rfl, Nat.le_refl _, fun _ _ _ => rfl⟩
theorem Kept.mono {F G : Nat → Prop} {w w' : World} (h : Kept F w w') (k : ∀ x, x < w.heap.size → F x → G x) : Kept G w w' := ⟨h.os, h.tape, h.output, h.size, fun x hx hn => h.block x hx fun hf => hn (k x hx hf)⟩
theorem Kept.trans {F G : Nat → Prop} {a b c : World} (h : Kept F a b) (k : Kept G b c) (hG : ∀ x, x < a.heap.size → G x → F x) : Kept F a c :=
  ⟨k.os.trans h.os, k.tape.trans h.tape, k.output.trans h.output, Nat.le_trans h.size k.size, fun x hx hn => (k.block x (Nat.lt_of_lt_of_le hx h.size) fun hg => hn (hG x hx hg)).trans (h.block x hx hn)⟩
theorem Kept.below {F : Nat → Prop} {B : Nat} {w w' : World} (h : Kept F w w') (hB : B ≤ w.heap.size) (hF : ∀ x, F x → B ≤ x) : Below B w w' :=
  ⟨h.os, h.tape, h.output, h.size, fun k hk => h.block k (by omega) fun hf => by have := hF k hf; omega⟩
theorem Below.kept {w w' : World} (h : Below w.heap.size w w') (F : Nat → Prop) : Kept F w w' := ⟨h.os, h.tape, h.output, h.size, fun k hk _ => h.block k hk⟩
theorem grown_kept {w w' : World} {row : Option Nat} (h : w.grownBy w' row) : Kept (fun k => some k = row) w w' := ⟨h.os, h.tape, h.output, h.size, h.block⟩
theorem grown_alloc {w w' : World} {o : Obj} {row : Option Nat} (h : (w.alloc o).grownBy w' row) : w.grownBy w' row :=
  ⟨h.os, h.tape, h.output, Nat.le_trans (by simp) h.size, fun k hk hr => (h.block k (by simp; omega) hr).trans (Below.heap_alloc w o k hk)⟩
theorem kept_set {F : Nat → Prop} (w : World) (a : Addr) (u : Value) (h : F a.block) : Kept F w (w.setCell a u) :=
  ⟨rfl, rfl, rfl, by simp [World.setCell], fun k _ hn => Below.heap_setCell _ _ _ _ (fun e => hn (e ▸ h))⟩

theorem Own.lt {B : Nat} {w : World} {v : Value} {l : List UInt8} (h : Own B w v l) : ∀ k, v.ownBlock = some k → B ≤ k ∧ k < w.heap.size := World.ownsRow.lt h
theorem Own.kept {B : Nat} {F : Nat → Prop} {w w' : World} {v : Value} {l : List UInt8} (H : Own B w v l) (hk : Kept F w w') (hF : ∀ k, v.ownBlock = some k → ¬ F k) : Own B w' v l := by
  obtain ⟨h1, h | ⟨g, cap, cur, hv, hB, hg, hr⟩⟩ := H
  · exact ⟨h1, .inl h⟩
  · have hlt : g < w.heap.size := by
      rcases Nat.lt_or_ge g w.heap.size with h | h
      · exact h
      · rw [Array.getElem?_eq_none h] at hg; simp at hg
    subst hv
    exact ⟨h1, .inr ⟨g, cap, cur, rfl, hB, by rw [hk.block g hlt (hF g rfl)]; exact hg, hr⟩⟩
theorem Bytes.len {w : World} {v : Value} {l : List UInt8} (H : Bytes w v l) : ∃ a cap, v = .slice a l.length cap ∧ l.length ≤ cap ∧ cap ≤ maxLen := by
  obtain ⟨a, cap, h, h1, h2, _⟩ := H; exact ⟨a, cap, h, h1, h2⟩

theorem grown_below {B : Nat} {w w' : World} {v : Value} {l : List UInt8} (h : w.grownBy w' v.ownBlock) (ho : Own B w v l) (hB : B ≤ w.heap.size) : Below B w w' :=
  (Below.refl B w).grown h hB (fun k hk => (ho.lt k hk).1)

/-- Where what was appended lies. -/
def At (v v' : Value) (w : World) : Prop := ∀ k, some k = v'.ownBlock → some k = v.ownBlock ∨ w.heap.size ≤ k
theorem At.refl (v : Value) (w : World) : At v v w := fun _ h => Or.inl h
theorem At.trans {u v x : Value} {a b : World} (h : At u v a) (k : At v x b) (hs : a.heap.size ≤ b.heap.size) : At u x a := fun i hi => by
  rcases k i hi with q | q
  · exact h i q
  · exact Or.inr (by omega)
theorem at_of {v v' : Value} {w w0 : World} (h : v'.ownBlock = v.ownBlock ∨ v'.ownBlock = some w.heap.size) (hs : w0.heap.size ≤ w.heap.size) : At v v' w0 := fun k hk => by
  rcases h with h | h
  · exact Or.inl (by rw [hk, h])
  · rw [h] at hk; simp only [Option.some.injEq] at hk; exact Or.inr (by omega)

theorem app_byte {ops : Array Oper} {rest : List Oper} {o : Oper} {a : Act} {Q : Exit → Act → World → Prop} (hgd : o.guard = none) (s x : Operand)
    (ho : o.op = .call { callee := .builtin .append, args := #[s, x], argTypes := #[126, 126] })
    {B : Nat} {w0 : World} {v : Value} {l : List UInt8} (hs : a.eval s = v) (hown : Own B w0 v l) (hB : B ≤ w0.heap.size) (n : Int) (c : UInt8) (hn : n = c8 c)
    (hx : a.eval x = .slice (some ⟨w0.heap.size, 0, none⟩) 1 1) (hl : l.length < 140737488355328)
    (h : ∀ v' w', Own B w' v' (l ++ [c]) → w0.grownBy w' v.ownBlock → At v v' w0 → wpList Tryz.prog ops Q rest (a.put o.dst v') w') :
    wpList Tryz.prog ops Q (o :: rest) a (w0.alloc (.cells #[.int .u8 n] 5)) := by
  subst hn
  obtain ⟨i0, hi, hz0, hz1, hz2⟩ := info_parts info_byte
  refine wpList_append_own_at _ hgd s x 126 ho B 5 i0 (.int .u8 0) 1 1 Tryz.underlying126 hi hz0 hz1 hz2 rfl (by decide) v l.length (cells8 l) hs (World.ownsRow.alloc hown _) ⟨w0.heap.size, 0, none⟩ 1 1 [.int .u8 (c8 c)] hx rfl one_cell ?_ (by unfold maxLen; omega) (by omega) (by simp; omega) ?_
  · intro v hv; simp only [List.mem_cons, List.not_mem_nil, or_false] at hv; rw [hv]; rfl
  · intro v' w' h1 h2 _ h3
    exact h v' w' (own_more h1) (grown_alloc h2) (at_of h3 (by simp))

theorem app_bytes {ops : Array Oper} {rest : List Oper} {o : Oper} {a : Act} {Q : Exit → Act → World → Prop} (hgd : o.guard = none) (s x : Operand)
    (ho : o.op = .call { callee := .builtin .append, args := #[s, x], argTypes := #[126, 126] })
    {B : Nat} {w : World} {v u : Value} {l m : List UInt8} (hs : a.eval s = v) (hown : Own B w v l) (hB : B ≤ w.heap.size) (hx : a.eval x = u) (hu : Bytes w u m) (hl : l.length + m.length ≤ 140737488355328)
    (h : ∀ v' w', Own B w' v' (l ++ m) → w.grownBy w' v.ownBlock → At v v' w → wpList Tryz.prog ops Q rest (a.put o.dst v') w') :
    wpList Tryz.prog ops Q (o :: rest) a w := by
  obtain ⟨i0, hi, hz0, hz1, hz2⟩ := info_parts info_byte
  obtain ⟨ad, cap, rfl, hlc, hcm, hn, hc⟩ := hu
  cases ad with
  | none =>
    obtain rfl := hn rfl
    obtain rfl : m = [] := by simpa using hlc
    refine wpList_append_own_none hgd s x 126 ho B 5 i0 1 Tryz.underlying126 hi v l.length (cells8 l) hs hown hx ?_
    exact h v w (by simpa using hown) ⟨rfl, rfl, rfl, Nat.le_refl _, fun _ _ _ => rfl⟩ (At.refl _ _)
  | some ad =>
    refine wpList_append_own_at w hgd s x 126 ho B 5 i0 (.int .u8 0) 1 1 Tryz.underlying126 hi hz0 hz1 hz2 rfl (by decide) v l.length (cells8 l) hs hown ad m.length cap (cells8 m) hx (by rw [cells8_length]; omega) (news8 hc) (cells8_one m) (by unfold maxLen; omega) (by omega) hB ?_
    intro v' w' h1 h2 _ h3
    refine h v' w' ?_ h2 (at_of h3 (Nat.le_refl _))
    show w'.ownsRow _ _ _ _ _ _
    rw [cells8_app, List.length_append]; exact h1

theorem app_wide {ops : Array Oper} {rest : List Oper} {o : Oper} {a : Act} {Q : Exit → Act → World → Prop} (hgd : o.guard = none) (s x : Operand)
    (ho : o.op = .call { callee := .builtin .append, args := #[s, x], argTypes := #[126, 126] })
    {B : Nat} {w : World} {v u : Value} {l m : List UInt8} (hs : a.eval s = v) (hown : Own B w v l) (hB : B ≤ w.heap.size) (hx : a.eval x = u) (hu : Bytes w u m) (hl : l.length + m.length ≤ 200000000000000)
    (h : ∀ v' w', Own B w' v' (l ++ m) → w.grownBy w' v.ownBlock → wpList Tryz.prog ops Q rest (a.put o.dst v') w') :
    wpList Tryz.prog ops Q (o :: rest) a w := by
  obtain ⟨i0, hi, hz0, hz1, hz2⟩ := info_parts info_byte
  obtain ⟨ad, cap, rfl, hlc, hcm, hn, hc⟩ := hu
  cases ad with
  | none =>
    obtain rfl := hn rfl
    obtain rfl : m = [] := by simpa using hlc
    refine wpList_append_own_none hgd s x 126 ho B 5 i0 1 Tryz.underlying126 hi v l.length (cells8 l) hs hown hx ?_
    exact h v w (by simpa using hown) ⟨rfl, rfl, rfl, Nat.le_refl _, fun _ _ _ => rfl⟩
  | some ad =>
    refine wpList_append_own_wide w hgd s x 126 ho B 5 i0 (.int .u8 0) 1 1 Tryz.underlying126 hi hz0 hz1 hz2 rfl (by decide) v l.length (cells8 l) hs hown ad m.length cap (cells8 m) hx (by rw [cells8_length]; omega) (news8 hc) (cells8_one m) (by unfold maxLen; omega) (by omega) hB ?_
    intro v' w' h1 h2 _
    refine h v' w' ?_ h2
    show w'.ownsRow _ _ _ _ _ _
    rw [cells8_app, List.length_append]; exact h1

/-- The text of bytes. -/
def txt (l : List UInt8) : ByteArray := ⟨l.toArray⟩
theorem txt_size (l : List UInt8) : (txt l).size = l.length := by simp [txt, ByteArray.size]
theorem txt_list (l : List UInt8) : (txt l).data.toList = l := by simp [txt]
theorem list_txt (s : ByteArray) : txt s.data.toList = s := by simp [txt]
theorem str_size (s : ByteArray) : s.data.toList.length = s.size := by simp
theorem strCells_eq (s : ByteArray) : Lib.strCells s = cells8 s.data.toList := rfl
theorem str8_txt (l : List UInt8) : str8 l = txt l := by
  have h : (str8 l).data = (txt l).data := by
    apply Array.toList_inj.1
    simp only [str8, strOfNums_data, txt, List.map_map]
    have : ((fun n : Int => UInt8.ofNat n.toNat) ∘ c8) = id := by
      funext c; simp [c8_nat]
    rw [this]; simp
  cases hs : str8 l; cases ht : txt l; rw [hs, ht] at h; simp_all
theorem convT {w : World} {v : Value} {l : List UInt8} (hv : Bytes w v l) : (convert 126 9 v).run Tryz.prog w = .ok (.string (txt l)) w := by
  rw [← str8_txt]; exact conv8 hv

theorem run_str_at (w : World) (B : Nat) (ty : TypeId) (i : TypeInfo) (hi : Tryz.prog.info? 5 = some i) (hz : i.zero = some (.int .u8 0)) (hsize : i.size = 1) (hby : i.bytes = 1)
    (v : Value) (n : Nat) (xs : List Value) (hown : w.ownsRow B 5 1 v n xs) (s : ByteArray) (hbytes : n + s.size ≤ 140737488355328) (hbase : B ≤ w.heap.size) :
    ∃ v' w', (Builtin.append_ #[126, 9] ty #[v, .string s]).run Tryz.prog w = .ok v' w' ∧ w'.ownsRow B 5 1 v' (n + s.size) (xs ++ Lib.strCells s) ∧ w.grownBy w' v.ownBlock ∧ At v v' w := by
  have h63 : n + s.size ≤ maxLen := by unfold maxLen; omega
  obtain ⟨v', w', hr, h1, h2, _⟩ := Lib.run_append_own_string (P := Tryz.prog) w B 126 9 ty 5 i Tryz.underlying126 Tryz.underlying9 hi hz hsize hby v n xs hown s h63 hbytes hbase
  refine ⟨v', w', hr, h1, h2, ?_⟩
  have hown' := hown
  rcases hown.2 with ⟨rfl, rfl⟩ | ⟨g, cap, cur, rfl, hbg, hg, hnc, hcm, hcs, htake⟩
  · have hx : xs = [] := List.eq_nil_of_length_eq_zero (by simpa using hown.1)
    subst hx
    obtain ⟨v2, w2, hr2, h3, _⟩ := Lib.run_append_own_string (P := Tryz.prog) w w.heap.size 126 9 ty 5 i Tryz.underlying126 Tryz.underlying9 hi hz hsize hby (.slice none 0 0) 0 [] (World.ownsRow_nil w _ _ _) s h63 hbytes (Nat.le_refl _)
    rw [hr] at hr2
    simp only [Result.ok.injEq] at hr2
    obtain ⟨rfl, rfl⟩ := hr2
    exact fun k hk => Or.inr (World.ownsRow.lt h3 k hk.symm).1
  · by_cases hroom : n + s.size ≤ cap
    · have hr2 := Lib.run_append_room_string (P := Tryz.prog) w 126 9 ty 5 i Tryz.underlying126 Tryz.underlying9 hi hsize g n cap cur hg s hroom (by omega)
      rw [hr] at hr2
      simp only [Result.ok.injEq] at hr2
      obtain ⟨rfl, rfl⟩ := hr2
      exact fun k hk => Or.inl hk
    · have holds : ∀ j u, xs[j]? = some u → w.cell? ((⟨g, 0, none⟩ : Addr).add j) = some u := hown'.cells (g := g) rfl
      have hr2 := Lib.run_append_grow_string (P := Tryz.prog) w 126 9 ty 5 i (.int .u8 0) Tryz.underlying126 Tryz.underlying9 hi hz ⟨g, 0, none⟩ n cap xs (by rw [hsize]; exact hown'.1) holds s (by omega) (by unfold maxLen at h63; omega) (by rw [hby]; exact growslice_fits (by omega) (by omega))
      rw [hr] at hr2
      simp only [Result.ok.injEq] at hr2
      obtain ⟨rfl, rfl⟩ := hr2
      refine fun k hk => Or.inr ?_
      simp only [Value.ownBlock, Option.some.injEq] at hk
      omega

theorem app_str {ops : Array Oper} {rest : List Oper} {o : Oper} {a : Act} {Q : Exit → Act → World → Prop} (hgd : o.guard = none) (s x : Operand)
    (ho : o.op = .call { callee := .builtin .append, args := #[s, x], argTypes := #[126, 9] })
    {B : Nat} {w : World} {v : Value} {t : ByteArray} {l : List UInt8} (hs : a.eval s = v) (hown : Own B w v l) (hB : B ≤ w.heap.size) (hx : a.eval x = .string t) (hl : l.length + t.size ≤ 140737488355328)
    (h : ∀ v' w', Own B w' v' (l ++ t.data.toList) → w.grownBy w' v.ownBlock → At v v' w → wpList Tryz.prog ops Q rest (a.put o.dst v') w') :
    wpList Tryz.prog ops Q (o :: rest) a w := by
  obtain ⟨i0, hi, hz0, hz1, hz2⟩ := info_parts info_byte
  refine wpList_plain hgd fun K hK => ?_
  obtain ⟨v', w', hr, h1, h2, h3⟩ := run_str_at w B o.type i0 hi hz0 hz1 hz2 v l.length (cells8 l) hown t hl hB
  unfold Oper.wp execOp
  simp only [ho, resolve, invoke, builtin, Sem.run_bind, Sem.run_pure, Result.andThen_ok, List.map_toArray, List.map_cons, List.map_nil, hs, hx, hr]
  refine hK _ _ (h v' w' ?_ h2 h3)
  show w'.ownsRow _ _ _ _ _ _
  rw [cells8_app, List.length_append, str_size]; exact h1
end Go.Proofs.YthdofbjijpghfaaGreatDoor
end S2

section S3
namespace Go.Proofs.YthdofbjijpghfaaGreatDoor
open Go.RowKit

set_option maxHeartbeats 1000000 in
theorem numberForm_any (v : Nat) (hv : v < 18446744073709551616) (w : World) :
    Calls Tryz.prog 123 #[.int .u64 v] w fun e w' => ∃ v', e = .returned v' ∧ Own w.heap.size w' v' (form v) ∧ Below w.heap.size w w' := by
  have hmk : (Instr.makeSlice 126 (.int .i64 0) (.int .i64 10)).run Tryz.prog w = .ok (.slice (some ⟨w.heap.size, 0, none⟩) 0 10) (w.alloc (.cells (madeCells #[.int .u8 0] 10) 5)) :=
    make_bytes w 0 10 rfl rfl (by omega) (by omega)
  have O0 : Aside (Own w.heap.size (w.alloc (.cells (madeCells #[.int .u8 0] 10) 5)) (.slice (some ⟨w.heap.size, 0, none⟩) 0 10) []) :=
    World.ownsRow_made w _ 10 (Nat.le_refl _) (by decide) (by simp [size_madeCells])
  have T10 : Aside ((form v).length ≤ 10) := form_ten v hv
  go_enter Tryz.func123, Tryz.ntmps123
  go_wp2_with fail
  clear hmk
  go_loopg [0, 3] v (fun g sv so wr => ∃ (x : Nat) (vo : Value) (l : List UInt8), g = x ∧ x < 18446744073709551616 ∧ sv = .int .u64 (x : Int) ∧ vo = so ∧ l ++ form x = form v ∧ Own w.heap.size wr vo l ∧ Below w.heap.size w wr)
  case atStart => exact ⟨v, _, [], rfl, hv, rfl, rfl, rfl, O0.out, (Below.refl _ _).alloc (Nat.le_refl _) _⟩
  case round =>
    obtain ⟨x, vo, l, hg, hx, rfl, rfl, hf, ho, hb⟩ := hrel
    have R : Aside (l ++ form x = form v ∧ Below w.heap.size w wr ∧ gk = x) := ⟨hf, hb, hg⟩
    have O : Hid (Own w.heap.size wr vo l) := ho
    have S : Hid (w.heap.size ≤ wr.heap.size) := hb.size
    have L : Hid (l.length < 140737488355328) := by
      have := congrArg List.length hf
      rw [List.length_append] at this
      have := T10.out
      show _ < _; omega
    clear hf hb ho hg
    by_cases hlt : x < 128
    · have hlt' : ¬ (128 : Int) ≤ (x : Int) := by omega
      obtain ⟨c, hc⟩ : ∃ c, c = UInt8.ofNat x := ⟨_, rfl⟩
      have C : Aside (c8 c = x ∧ c = UInt8.ofNat x) := ⟨by rw [hc, c8_of x (by omega)], hc⟩
      clear hc
      go_wp2_with (at_builtin; refine app_byte rfl _ _ rfl rfl O.out S.out _ c ?hn rfl L.out ?_)
      case hn => rw [C.out.1]
      intro v' w' h1 h2 _
      have A : Aside (Own w.heap.size w' v' (l ++ [c]) ∧ Below w.heap.size w w') := ⟨h1, R.out.2.1.trans (grown_below h2 O.out S.out)⟩
      clear h1 h2 O S L
      go_wp2_with fail
      go_ret
      refine ⟨_, rfl, ?_, A.out.2⟩
      rw [← R.out.1, form_low hlt, ← C.out.2]; exact A.out.1
    · have hlt' : (128 : Int) ≤ (x : Int) := by omega
      obtain ⟨c, hc⟩ : ∃ c, c = UInt8.ofNat (x % 128 + 128) := ⟨_, rfl⟩
      have C : Aside (c8 c = (x : Int) % 128 + 128 ∧ c = UInt8.ofNat (x % 128 + 128)) := ⟨by rw [hc, c8_of _ (by omega)]; omega, hc⟩
      clear hc
      go_wp2_with (at_builtin; refine app_byte rfl _ _ rfl rfl O.out S.out _ c ?hn rfl L.out ?_)
      case hn => rw [C.out.1]
      intro v' w' h1 h2 _
      have A : Aside (Own w.heap.size w' v' (l ++ [c]) ∧ Below w.heap.size w w') := ⟨h1, R.out.2.1.trans (grown_below h2 O.out S.out)⟩
      clear h1 h2 O S L
      go_wp2_with fail
      go_roundg (x / 128)
      case measure => have := R.out.2.2; omega
      case rel =>
        refine ⟨x / 128, v', _, rfl, by omega, by go_num, rfl, ?_, A.out.1, A.out.2⟩
        rw [← R.out.1, form_high hlt, List.append_assoc, C.out.2]; rfl

theorem xor_ones (a : Nat) (ha : a < 18446744073709551616) : a ^^^ 18446744073709551615 = 18446744073709551615 - a := by
  have e2 := BitVec.toNat_not (x := BitVec.ofNat 64 a)
  have e3 : ~~~ (BitVec.ofNat 64 a) = BitVec.ofNat 64 a ^^^ BitVec.allOnes 64 := (BitVec.xor_allOnes).symm
  rw [e3, BitVec.toNat_xor, BitVec.toNat_ofNat, Nat.mod_eq_of_lt ha] at e2
  simpa using e2
theorem fold_bits (v : Int) (h1 : -9223372036854775808 ≤ v) (h2 : v < 9223372036854775808) :
    bits .xor .u64 (IntKind.u64.wrap (IntKind.u64.wrap v * 2)) (IntKind.u64.wrap (v / 9223372036854775808)) = (zig v : Int) := by
  simp only [IntKind.wrap_u64]
  by_cases h : 0 ≤ v
  · have e1 : v % 18446744073709551616 * 2 % 18446744073709551616 = ((zig v : Nat) : Int) := by unfold zig; rw [if_pos h]; omega
    have e2 : v / 9223372036854775808 % 18446744073709551616 = ((0 : Nat) : Int) := by omega
    rw [e1, e2, u64_xor_nat _ _ (zig_lt v h1 h2) (by decide), Nat.xor_zero]
  · have e1 : v % 18446744073709551616 * 2 % 18446744073709551616 = ((18446744073709551615 - zig v : Nat) : Int) := by unfold zig; rw [if_neg h]; omega
    have e2 : v / 9223372036854775808 % 18446744073709551616 = ((18446744073709551615 : Nat) : Int) := by omega
    have hz := zig_lt v h1 h2
    rw [e1, e2, u64_xor_nat _ _ (by omega) (by decide), xor_ones _ (by omega)]
    omega
theorem unfold_bits (u : Nat) (h1 : u < 18446744073709551616) :
    bits .xor .i64 ((u : Int) / 2) (wrap64 (-wrap64 (bits .and .u64 (u : Int) 1))) = zag u := by
  have ea : bits .and .u64 (u : Int) 1 = ((u % 2 : Nat) : Int) := by
    have h := u64_and_nat u 1 h1 (by decide)
    rw [show ((1 : Nat) : Int) = (1 : Int) from rfl] at h
    rw [h, nat_mask1]
  rw [ea]
  unfold zag
  rcases Nat.mod_two_eq_zero_or_one u with h | h
  · rw [h, if_pos rfl]
    show IntKind.i64.wrap ((BitVec.ofInt 64 ((u : Int) / 2) ^^^ BitVec.ofInt 64 (wrap64 (-wrap64 0))).toNat : Int) = _
    have h0 : BitVec.ofInt 64 (wrap64 (-wrap64 0)) = 0#64 := by decide +kernel
    rw [h0, BitVec.xor_zero, show (u : Int) / 2 = ((u / 2 : Nat) : Int) by omega, ofInt_u64 _ (by omega)]
    simp [IntKind.wrap, IntKind.bits, IntKind.signed]
    omega
  · rw [h, if_neg (by decide)]
    show IntKind.i64.wrap ((BitVec.ofInt 64 ((u : Int) / 2) ^^^ BitVec.ofInt 64 (wrap64 (-wrap64 1))).toNat : Int) = _
    have h0 : BitVec.ofInt 64 (wrap64 (-wrap64 1)) = BitVec.allOnes 64 := by decide +kernel
    rw [h0, BitVec.xor_allOnes, BitVec.toNat_not, show (u : Int) / 2 = ((u / 2 : Nat) : Int) by omega, ofInt_u64 _ (by omega)]
    simp [IntKind.wrap, IntKind.bits, IntKind.signed]
    omega
/-- What is read, behind k bytes that were worth A. -/
def lift (A k : Nat) (r : Nat × Nat × Nat) : Nat × Nat × Nat := if r.2.2 = 0 then (A + 128 ^ k * r.1, k + r.2.1, 0) else (0, 0, r.2.2)
theorem lift_zero (l : List UInt8) : num l 0 = lift 0 0 (num l 0) := by
  unfold lift
  split
  · rename_i h
    have e : num l 0 = ((num l 0).1, (num l 0).2.1, (num l 0).2.2) := rfl
    rw [h] at e
    simpa using e
  · rename_i h; exact num_err l 0 h
theorem lift_more {A k : Nat} {l : List UInt8} (hk : k < l.length) (h9 : k < 10) (hc : 128 ≤ (l.getD k 0).toNat) :
    lift A k (num (l.drop k) k) = lift (A + 128 ^ k * ((l.getD k 0).toNat - 128)) (k + 1) (num (l.drop (k + 1)) (k + 1)) := by
  have e : l.drop k = l.getD k 0 :: l.drop (k + 1) := by
    rw [List.drop_eq_getElem_cons hk]; simp [List.getD, hk]
  rw [e, num, if_neg (by omega), if_pos hc]
  unfold lift
  by_cases h : (num (l.drop (k + 1)) (k + 1)).2.2 = 0
  · rw [if_pos h, if_pos rfl, if_pos h, Nat.pow_succ]
    simp only [Prod.mk.injEq, and_true]
    refine ⟨?_, by omega⟩
    rw [Nat.mul_add, Nat.mul_assoc]; omega
  · rw [if_neg h, if_neg h, if_neg h]
theorem lift_last {A k : Nat} {l : List UInt8} (hk : k < l.length) (h9 : k < 10) (hc : (l.getD k 0).toNat < 128) :
    lift A k (num (l.drop k) k) = if (0 < k ∧ (l.getD k 0).toNat = 0) ∨ (k = 9 ∧ 1 < (l.getD k 0).toNat) then (0, 0, 21) else (A + 128 ^ k * (l.getD k 0).toNat, k + 1, 0) := by
  have e : l.drop k = l.getD k 0 :: l.drop (k + 1) := by
    rw [List.drop_eq_getElem_cons hk]; simp [List.getD, hk]
  rw [e, num, if_neg (by omega), if_neg (by omega)]
  split
  · rfl
  · rfl
theorem lift_end {A k : Nat} {l : List UInt8} (hk : k = l.length ∨ k = 10) (hk' : k ≤ l.length) (h9 : k ≤ 10) : lift A k (num (l.drop k) k) = (0, 0, if l.length < 10 then 20 else 21) := by
  by_cases h : l.length ≤ k
  · rw [List.drop_eq_nil_of_le h, num]
    unfold lift
    rw [if_neg (by split <;> simp)]
    by_cases h10 : l.length < 10
    · rw [if_pos h10, if_pos (by omega)]
    · rw [if_neg h10, if_neg (by omega)]
  · have : k = 10 := by omega
    subst this
    have e : l.drop 10 = l.getD 10 0 :: l.drop (10 + 1) := by
      rw [List.drop_eq_getElem_cons (by omega)]; simp [List.getD, show 10 < l.length by omega]
    rw [e, num, if_pos (by omega), if_neg (by omega)]
    rfl
theorem pow128 (k : Nat) : 128 ^ k = 2 ^ (7 * k) := by rw [show (128 : Nat) = 2 ^ 7 from rfl, ← Nat.pow_mul]

theorem or_lift (A k x : Nat) (hA : A < 128 ^ k) (hx : x * 128 ^ k < 18446744073709551616) (hk : k ≤ 9) (m : Int) (hm : m = x) :
    bits .or .u64 (A : Int) (IntKind.u64.wrap (m * 2 ^ (7 * k))) = ((A + 128 ^ k * x : Nat) : Int) := by
  have e : m * 2 ^ (7 * k) = ((x * 128 ^ k : Nat) : Int) := by rw [hm, pow128]; push_cast; rfl
  have hA' : A < 18446744073709551616 := Nat.lt_of_lt_of_le hA (Nat.le_trans (Nat.pow_le_pow_right (by decide) hk) (by decide))
  rw [e, IntKind.wrap_u64, show ((x * 128 ^ k : Nat) : Int) % 18446744073709551616 = ((x * 128 ^ k : Nat) : Int) by omega, u64_or_nat _ _ hA' hx, Nat.or_comm, nat_join (7 * k) (x * 128 ^ k) A ?_ ?_, Nat.add_comm, Nat.mul_comm x]
  · rw [pow128]; exact Nat.mul_mod_left _ _
  · rw [← pow128]; exact hA
theorem c8_sub {c : UInt8} (h : 128 ≤ c8 c) : c8 c - 128 = ((c.toNat - 128 : Nat) : Int) := by unfold c8 at *; omega
theorem tup3 {a a' b b' c c' : Int} (h1 : a = a') (h2 : b = b') (h3 : c = c') : Ending.returned (.tuple #[.int .u64 a, .int .i64 b, .int .i64 c]) = .returned (.tuple #[.int .u64 a', .int .i64 b', .int .i64 c']) := by rw [h1, h2, h3]

end Go.Proofs.YthdofbjijpghfaaGreatDoor
end S3

section S4
namespace Go.Proofs.YthdofbjijpghfaaGreatDoor
open Go.RowKit

/-- A writers state: what is laid, the limit, the error. -/
structure WS where
  l : List UInt8
  lim : Nat
  e : Nat
def WS.lay (s : WS) (f : List UInt8) : WS := if s.e = 0 then (if s.l.length + f.length ≤ s.lim then { s with l := s.l ++ f } else { s with e := 23 }) else s
def WS.ok (s : WS) : Prop := s.l.length ≤ s.lim ∧ s.lim ≤ 1048576 ∧ s.e < 256
theorem WS.ok.lay {s : WS} (h : s.ok) (f : List UInt8) : (s.lay f).ok := by
  unfold WS.lay
  obtain ⟨h1, h2, h3⟩ := h
  split
  · split
    · refine ⟨?_, h2, h3⟩; simp; omega
    · exact ⟨h1, h2, by simp⟩
  · exact ⟨h1, h2, h3⟩
/-- The writer at block g, its bytes in the slice v. -/
def WAt (B : Nat) (w : World) (g : Nat) (v : Value) (s : WS) : Prop :=
  B ≤ g ∧ w.heap[g]? = some (.cells #[v, .int .i64 s.lim, .int .i64 s.e] 140 (0, 0)) ∧ Own B w v s.l ∧ s.ok
/-- The blocks of a writer. -/
def WF (g : Nat) (v : Value) (k : Nat) : Prop := k = g ∨ some k = v.ownBlock

theorem WAt.lt {B : Nat} {w : World} {g : Nat} {v : Value} {s : WS} (h : WAt B w g v s) : g < w.heap.size := by
  rcases Nat.lt_or_ge g w.heap.size with q | q
  · exact q
  · have := h.2.1; rw [Array.getElem?_eq_none q] at this; simp at this
theorem WAt.foot {B : Nat} {w : World} {g : Nat} {v : Value} {s : WS} (h : WAt B w g v s) (k : Nat) (hk : WF g v k) : B ≤ k ∧ k < w.heap.size := by
  rcases hk with rfl | hk
  · exact ⟨h.1, h.lt⟩
  · exact h.2.2.1.lt k hk.symm
theorem WAt.apart {B : Nat} {w : World} {g : Nat} {v : Value} {s : WS} (h : WAt B w g v s) : v.ownBlock ≠ some g := by
  obtain ⟨_, hg, ⟨_, ⟨hv, _⟩ | ⟨g', cap, cur, hv, hB, hg', _⟩⟩, _⟩ := h
  · subst hv; simp [Value.ownBlock]
  · subst hv
    intro e
    simp only [Value.ownBlock, Option.some.injEq] at e
    rw [e, hg] at hg'
    simp at hg'
theorem WAt.kept {B : Nat} {F : Nat → Prop} {w w' : World} {g : Nat} {v : Value} {s : WS} (h : WAt B w g v s) (hk : Kept F w w') (hF : ∀ k, WF g v k → ¬ F k) : WAt B w' g v s :=
  ⟨h.1, by rw [hk.block g h.lt (hF g (Or.inl rfl))]; exact h.2.1, h.2.2.1.kept hk (fun k hk' => hF k (Or.inr hk'.symm)), h.2.2.2⟩
theorem WAt.below {B : Nat} {w w' : World} {g : Nat} {v : Value} {s : WS} (h : WAt B w g v s) (hk : Below w.heap.size w w') : WAt B w' g v s :=
  h.kept (Below.kept hk (fun _ => False)) (fun _ _ => id)
theorem WAt.cells {B : Nat} {w : World} {g : Nat} {v : Value} {s : WS} (h : WAt B w g v s) :
    w.cell? ⟨g, 0, none⟩ = some v ∧ w.cell? ⟨g, 1, none⟩ = some (.int .i64 s.lim) ∧ w.cell? ⟨g, 2, none⟩ = some (.int .i64 s.e) ∧ w.frozen? ⟨g, 0, none⟩ = false ∧ w.frozen? ⟨g, 2, none⟩ = false := by
  refine ⟨?_, ?_, ?_, frozen_of_row w g 0 _ _ h.2.1, frozen_of_row w g 2 _ _ h.2.1⟩
  · rw [cell_of_row w g 0 _ _ _ h.2.1]; rfl
  · rw [cell_of_row w g 1 _ _ _ h.2.1]; rfl
  · rw [cell_of_row w g 2 _ _ _ h.2.1]; rfl
theorem WAt.setErr {B : Nat} {w : World} {g : Nat} {v : Value} {s : WS} (h : WAt B w g v s) (e : Nat) (he : e < 256) : WAt B (w.setCell ⟨g, 2, none⟩ (.int .i64 e)) g v { s with e := e } := by
  refine ⟨h.1, ?_, ?_, h.2.2.2.1, h.2.2.2.2.1, he⟩
  · rw [heap_setCell_same w g 2 _ _ _ h.2.1]; rfl
  · exact h.2.2.1.kept (kept_set (F := fun k => k = g) w ⟨g, 2, none⟩ _ rfl) (fun k hk e => h.apart (by rw [hk, e]))
theorem WAt.setLaid {B : Nat} {w w1 : World} {g : Nat} {v v1 : Value} {s : WS} {l1 : List UInt8} (h : WAt B w g v s) (hg : Kept (fun k => some k = v.ownBlock) w w1) (ho : Own B w1 v1 l1) (hl : l1.length ≤ s.lim) :
    WAt B (w1.setCell ⟨g, 0, none⟩ v1) g v1 { s with l := l1 } := by
  have e : w1.heap[g]? = _ := (hg.block g h.lt (fun q => h.apart q.symm)).trans h.2.1
  refine ⟨h.1, ?_, ?_, hl, h.2.2.2.2⟩
  · rw [heap_setCell_same w1 g 0 _ _ _ e]; rfl
  · refine ho.kept (kept_set (F := fun k => k = g) w1 ⟨g, 0, none⟩ _ rfl) (fun k hk q => ?_)
    subst q
    obtain ⟨_, ⟨hv, _⟩ | ⟨g', cap, cur, hv, hB, hg', _⟩⟩ := ho
    · subst hv; simp [Value.ownBlock] at hk
    · subst hv
      simp only [Value.ownBlock, Option.some.injEq] at hk
      rw [hk, e] at hg'
      simp at hg'

set_option maxHeartbeats 1000000 in
theorem newWriter_any (n : Int) (w : World) :
    Calls Tryz.prog 104 #[.int .i64 n] w fun e w' => e = .returned (.pointer (some ⟨w.heap.size, 0, none⟩)) ∧ WAt w.heap.size w' w.heap.size (.slice none 0 0) ⟨[], min n.toNat 1048576, 0⟩ ∧ w.heap.size < w'.heap.size ∧ Below w.heap.size w w' := by
  go_enter Tryz.func104, Tryz.ntmps104
  go_wp2_with fail
  all_goals
    go_ret
    refine ⟨rfl, ⟨Nat.le_refl _, ?_, World.ownsRow_nil _ _ _ _, by simp, by simp; omega, by simp⟩, by simp, (Below.refl _ _).alloc (Nat.le_refl _) _⟩
    rw [heap_alloc_new]
    congr 3
    simp only [List.cons.injEq, Value.int.injEq, and_true, true_and]
    omega

theorem drewN_kept (F : Nat → Prop) (w : World) (n : Nat) : Kept F w (w.drewN n) := ⟨rfl, rfl, rfl, Nat.le_refl _, fun _ _ _ => rfl⟩
/-- What a call that lays leaves. -/
def Laid (B g : Nat) (v : Value) (s' : WS) (w w' : World) : Prop :=
  ∃ v', WAt B w' g v' s' ∧ Kept (WF g v) w w' ∧ At v v' w
theorem Laid.same {B g : Nat} {v : Value} {s : WS} {w w' : World} (h : WAt B w g v s) (hk : Kept (fun _ => False) w w') : Laid B g v s w w' :=
  ⟨v, h.kept hk (fun _ _ => id), hk.mono (fun _ _ h => h.elim), fun _ hk => Or.inl hk⟩
set_option maxHeartbeats 2000000 in
theorem wlay_any (B g : Nat) (v : Value) (s : WS) (u : Value) (m : List UInt8) (t : ByteArray) (w : World) (H : WAt B w g v s) (hm : Bytes w u m) (hl : m.length ≤ 1000000000) (ht : t.size ≤ 140737488355328) :
    Calls Tryz.prog 120 #[.pointer (some ⟨g, 0, none⟩), u, .string t] w fun e w' => e = .returned (.tuple #[]) ∧ Laid B g v (s.lay (m ++ t.data.toList)) w w' := by
  have V : Aside (WAt B w g v s ∧ Bytes w u m) := ⟨H, hm⟩
  obtain ⟨c0, c1, c2, f0, f2⟩ := H.cells
  obtain ⟨hle, hlim, _⟩ := H.2.2.2
  obtain ⟨a, cap, rfl, hac, hcm⟩ := hm.len
  obtain ⟨a', cap', e', hac', hcm'⟩ := H.2.2.1.bytes.len
  rw [e'] at c0
  unfold maxLen at hcm hcm'
  have E' : Aside (v = .slice a' s.l.length cap') := e'
  clear H hm e'
  go_enter Tryz.func120, Tryz.ntmps120
  by_cases he : s.e = 0
  · rw [he] at c2
    go_wp2_with fail
    go_quiet (fail)
    by_cases hfit : s.l.length + (m ++ t.data.toList).length ≤ s.lim
    · have hfit' : ¬ ((m.length : Int) + (t.size : Int) > (s.lim : Int) - (s.l.length : Int)) := by
        rw [List.length_append, str_size] at hfit; omega
      have HF : Aside (s.l.length + (m ++ t.data.toList).length ≤ s.lim) := hfit
      clear hfit
      have O : Hid (Own B (w.drewN nq) (.slice a' s.l.length cap') s.l) := by
        have := V.out.1.2.2.1; rw [E'.out] at this; exact this
      have S : Hid (B ≤ (w.drewN nq).heap.size) := Nat.le_trans V.out.1.1 (Nat.le_of_lt V.out.1.lt)
      have M : Hid (Bytes (w.drewN nq) (.slice a m.length cap) m) := V.out.2.drewN nq
      go_wp2_with (at_builtin; refine app_bytes (v := .slice a' s.l.length cap') (u := .slice a m.length cap) rfl _ _ rfl rfl O.out S.out rfl M.out ?hl1 ?_)
      case hl1 => omega
      intro v1 w1 h1 h2 h3
      have O1 : Hid (Own B w1 v1 (s.l ++ m)) := h1
      have S1 : Hid (B ≤ w1.heap.size) := Nat.le_trans S.out h2.size
      have A1 : Aside (Kept (fun k => some k = v.ownBlock) w w1 ∧ At v v1 w) := by
        rw [E'.out]; exact ⟨(drewN_kept _ w nq).trans (grown_kept h2) (fun _ _ h => h), h3⟩
      clear h1 h2 h3 O S M
      go_wp2_with (at_builtin; refine app_str rfl _ _ rfl rfl O1.out S1.out rfl ?hl2 ?_)
      case hl2 =>
        have := HF.out
        rw [List.length_append, str_size] at this
        rw [List.length_append]; omega
      intro v2 w2 h1 h2 h3
      obtain ⟨a2, n2, cap2, rfl⟩ : ∃ a2 n2 cap2, v2 = .slice a2 n2 cap2 := by
        obtain ⟨a2, cap2, e, _, _⟩ := h1.bytes.len
        exact ⟨a2, _, cap2, e⟩
      have k1 : Kept (WF g v) w w1 := A1.out.1.mono (fun _ _ h => Or.inr h)
      have k2 : Kept (fun k => some k = v.ownBlock) w w2 := A1.out.1.trans (grown_kept h2) (fun k hk h => by
        rcases A1.out.2 k h with q | q
        · exact q
        · omega)
      have e2 : w2.heap[g]? = some (.cells #[.slice a' s.l.length cap', .int .i64 s.lim, .int .i64 0] 140 (0, 0)) := by
        rw [k2.block g V.out.1.lt (fun q => V.out.1.apart q.symm), V.out.1.2.1, E'.out, he]; rfl
      have g0 : w2.cell? ⟨g, 0, none⟩ = some (.slice a' s.l.length cap') := by rw [cell_of_row w2 g 0 _ _ _ e2]; rfl
      have g1 : w2.frozen? ⟨g, 0, none⟩ = false := frozen_of_row w2 g 0 _ _ e2
      have A2 : Aside (Kept (fun k => some k = v.ownBlock) w w2 ∧ At v (.slice a2 n2 cap2) w ∧ Own B w2 (.slice a2 n2 cap2) (s.l ++ (m ++ t.data.toList))) := ⟨k2, A1.out.2.trans h3 A1.out.1.size, h1⟩
      clear h1 h2 h3 k1 k2 e2 O1 S1 A1 c0 c1 c2 f0 f2 hfit'
      go_wp2_with fail
      first | go_end0 | refine bodyPost_ret (results_none rfl _ _ _) rfl ?_
      obtain ⟨k2, a2, o2⟩ := A2.out
      have ft := HF.out
      have e1 : s.lay (m ++ t.data.toList) = { s with l := s.l ++ (m ++ t.data.toList) } := by
        unfold WS.lay; rw [if_pos he, if_pos ft]
      rw [e1]
      refine ⟨rfl, _, V.out.1.setLaid k2 o2 ?_, (k2.mono (fun _ _ h => Or.inr h)).trans (kept_set (F := fun k => k = g) w2 ⟨g, 0, none⟩ _ rfl) (fun _ _ h => Or.inl h), a2⟩
      simp only [List.length_append] at ft ⊢; omega
    · have hfit' : ((m.length : Int) + (t.size : Int) > (s.lim : Int) - (s.l.length : Int)) := by
        rw [List.length_append, str_size] at hfit; omega
      have HF : Aside (¬ s.l.length + (m ++ t.data.toList).length ≤ s.lim) := hfit
      clear hfit
      go_wp2_with (fail)
      first | go_end0 | refine bodyPost_ret (results_none rfl _ _ _) rfl ?_
      have e1 : s.lay (m ++ t.data.toList) = { s with e := 23 } := by
        unfold WS.lay; rw [if_pos he, if_neg HF.out]
      rw [e1]
      have hk := drewN_kept (fun _ => False) w nq
      refine ⟨rfl, v, (V.out.1.kept hk (fun _ _ => id)).setErr 23 (by decide), (hk.mono (fun _ _ h => h.elim)).trans (kept_set (F := fun k => k = g) _ ⟨g, 2, none⟩ _ rfl) (fun _ _ h => Or.inl h), At.refl _ _⟩
  · have he' : ¬ (s.e : Int) = 0 := by omega
    go_wp2_with fail
    first | go_end0 | refine bodyPost_ret (results_none rfl _ _ _) rfl ?_
    have e1 : s.lay (m ++ t.data.toList) = s := by unfold WS.lay; rw [if_neg he]
    rw [e1]
    exact ⟨rfl, Laid.same V.out.1 (Kept.refl _ _)⟩

theorem Laid.below {B g : Nat} {v : Value} {s s' : WS} {w w' : World} (h : Laid B g v s' w w') (H : WAt B w g v s) : Below B w w' := by
  obtain ⟨_, _, k, _⟩ := h
  exact k.below (Nat.le_trans H.1 (Nat.le_of_lt H.lt)) (fun x hx => (H.foot x hx).1)
/-- A call that made new memory alone, then one that lays. -/
theorem Laid.after {B g : Nat} {v : Value} {s s' : WS} {a b c : World} (hb : Below a.heap.size a b) (h : Laid B g v s' b c) (_H : WAt B a g v s) : Laid B g v s' a c := by
  obtain ⟨v', h1, k, h2⟩ := h
  refine ⟨v', h1, (Below.kept hb _).trans k (fun _ _ q => q), fun x hx => ?_⟩
  rcases h2 x hx with q | q
  · exact Or.inl q
  · exact Or.inr (Nat.le_trans hb.size q)

theorem one_bytes (w : World) (c : UInt8) : Bytes (w.alloc (.cells #[.int .u8 (c8 c)] 5)) (.slice (some ⟨w.heap.size, 0, none⟩) 1 1) [c] := by
  refine ⟨_, 1, rfl, by simp, by decide, fun h => by simp at h, fun k hk => ⟨w.heap.size, 0, rfl, ?_⟩⟩
  have hk' : k < 1 := hk
  obtain rfl : k = 0 := by omega
  rw [World.cell?_alloc_new]; rfl

set_option maxHeartbeats 1000000 in
theorem wByte_any (B g : Nat) (v : Value) (s : WS) (c : UInt8) (w : World) (H : WAt B w g v s) :
    Calls Tryz.prog 105 #[.pointer (some ⟨g, 0, none⟩), .int .u8 (c8 c)] w fun e w' => e = .returned (.tuple #[]) ∧ Laid B g v (s.lay [c]) w w' := by
  have V : Aside (WAt B w g v s) := H
  clear H
  go_enter Tryz.func105, Tryz.ntmps105
  go_wp2_with fail
  have hb : Below w.heap.size w (w.alloc (.cells #[.int .u8 (c8 c)] 5)) := (Below.refl _ _).alloc (Nat.le_refl _) _
  refine (wlay_any B g v s _ [c] ⟨#[]⟩ _ (V.out.below hb) (one_bytes w c) (by simp) (by decide)).mono ?_
  rintro e w2 ⟨rfl, hl⟩
  have L0 : Laid B g v (s.lay [c]) w w2 := by
    have := Laid.after hb hl V.out; simpa using this
  have L : Aside (Laid B g v (s.lay [c]) w w2) := L0
  clear L0
  clear hl hb
  go_wp2_with fail
  first | go_end0 | refine bodyPost_ret (results_none rfl _ _ _) rfl ?_
  exact ⟨rfl, L.out⟩

theorem wByte_eq {n : Int} {c : UInt8} (hn : n = c8 c) (B g : Nat) (v : Value) (s : WS) (w : World) (H : WAt B w g v s) :
    Calls Tryz.prog 105 #[.pointer (some ⟨g, 0, none⟩), .int .u8 n] w fun e w' => e = .returned (.tuple #[]) ∧ Laid B g v (s.lay [c]) w w' := by
  rw [hn]; exact wByte_any B g v s c w H
set_option maxHeartbeats 1000000 in
theorem wText_any (B g : Nat) (v : Value) (s : WS) (t : ByteArray) (w : World) (ht : t.size ≤ 140737488355328) (H : WAt B w g v s) :
    Calls Tryz.prog 110 #[.pointer (some ⟨g, 0, none⟩), .string t] w fun e w' => e = .returned (.tuple #[]) ∧ Laid B g v (s.lay (form t.size ++ t.data.toList)) w w' := by
  have V : Aside (WAt B w g v s) := H
  have T : Aside ((form t.size).length ≤ 10) := form_ten _ (by omega)
  clear H
  go_enter Tryz.func110, Tryz.ntmps110
  go_wp2_with fail
  refine (numberForm_any t.size (by omega) w).mono ?_
  rintro e w1 ⟨u, rfl, ho, hb⟩
  have A : Aside (Own w.heap.size w1 u (form t.size) ∧ Below w.heap.size w w1) := ⟨ho, hb⟩
  clear ho hb
  go_wp2_with fail
  refine (wlay_any B g v s u (form t.size) t w1 (V.out.below A.out.2) A.out.1.bytes (by have := T.out; omega) ht).mono ?_
  rintro e w2 ⟨rfl, hl⟩
  have L : Aside (Laid B g v (s.lay (form t.size ++ t.data.toList)) w w2) := Laid.after A.out.2 hl V.out
  clear hl
  go_wp2_with fail
  first | go_end0 | refine bodyPost_ret (results_none rfl _ _ _) rfl ?_
  exact ⟨rfl, L.out⟩

def WS.count (s : WS) (n : Int) : WS := if 0 ≤ n ∧ n ≤ 4096 then s.lay (form n.toNat) else if s.e = 0 then { s with e := 1 } else s
set_option maxHeartbeats 1000000 in
theorem clone_any (v : Value) (l : List UInt8) (w : World) (hv : Bytes w v l) (hl : l.length ≤ 200000000000000) :
    Calls Tryz.prog 121 #[v] w fun e w' => ∃ v', e = .returned v' ∧ Own w.heap.size w' v' l ∧ Below w.heap.size w w' := by
  have V : Aside (Bytes w v l) := hv
  obtain ⟨a, cap, rfl, hlc, hcm, hn, hc⟩ := hv
  unfold maxLen at hcm
  have hcmp := Lib.run_eql_slice_nil (P := Tryz.prog) w 126 5 a l.length cap 0 0 Tryz.underlying126
  cases a with
  | none =>
    obtain rfl := hn rfl
    obtain rfl : l = [] := by simpa using hlc
    rw [List.length_nil] at hcmp
    go_enter Tryz.func121, Tryz.ntmps121
    go_wp2_with fail
    go_ret
    exact ⟨_, rfl, World.ownsRow_nil w _ _ _, Below.refl _ _⟩
  | some a =>
    clear hn hc
    have O : Hid (Own w.heap.size (w.alloc (.cells #[] 5)) (.slice (some ⟨w.heap.size, 0, none⟩) 0 0) []) := World.ownsRow_made w _ 0 (Nat.le_refl _) (by decide) (by simp)
    have B1 : Aside (Below w.heap.size w (w.alloc (.cells #[] 5))) := (Below.refl _ _).alloc (Nat.le_refl _) _
    have S : Hid (w.heap.size ≤ (w.alloc (.cells #[] 5)).heap.size) := B1.out.size
    have M : Hid (Bytes (w.alloc (.cells #[] 5)) (.slice (some a) l.length cap) l) := V.out.below B1.out
    go_enter Tryz.func121, Tryz.ntmps121
    go_wp2_with (at_builtin; refine app_wide (v := .slice (some ⟨w.heap.size, 0, none⟩) 0 0) (u := .slice (some a) l.length cap) rfl _ _ rfl rfl O.out S.out rfl M.out ?hl1 ?_)
    case hl1 => simpa using hl
    intro v' w' h1 h2
    have A : Aside (Own w.heap.size w' v' l ∧ Below w.heap.size w w') := ⟨by simpa using h1, B1.out.trans (grown_below h2 O.out S.out)⟩
    clear h1 h2 O S M
    go_wp2_with fail
    go_ret
    exact ⟨_, rfl, A.out.1, A.out.2⟩

/-- What Out tells. -/
def WS.out (s : WS) : List UInt8 := if s.e = 0 then s.l else []
set_option maxHeartbeats 1000000 in
theorem wOut_any (B g : Nat) (v : Value) (s : WS) (w : World) (H : WAt B w g v s) :
    Calls Tryz.prog 106 #[.pointer (some ⟨g, 0, none⟩)] w fun e w' => ∃ v', e = .returned (.tuple #[v', .int .i64 s.e]) ∧ Own w.heap.size w' v' s.out ∧ Below w.heap.size w w' := by
  have V : Aside (WAt B w g v s) := H
  obtain ⟨c0, _, c2, _, _⟩ := H.cells
  obtain ⟨a', cap', e', hac', hcm'⟩ := H.2.2.1.bytes.len
  have E' : Aside (v = .slice a' s.l.length cap') := e'
  rw [e'] at c0
  clear e' H
  go_enter Tryz.func106, Tryz.ntmps106
  by_cases he : s.e = 0
  · rw [he] at c2
    go_wp2_with fail
    refine (clone_any _ s.l w (by have := V.out.2.2.1.bytes; rw [E'.out] at this; exact this) (by have := V.out.2.2.2; have h1 := this.1; have h2 := this.2.1; omega)).mono ?_
    rintro e w1 ⟨u, rfl, ho, hb⟩
    have A : Aside (Own w.heap.size w1 u s.l ∧ Below w.heap.size w w1) := ⟨ho, hb⟩
    clear ho hb
    go_wp2_with fail
    go_ret2
    refine ⟨_, by rw [he]; rfl, ?_, A.out.2⟩
    unfold WS.out; rw [if_pos he]; exact A.out.1
  · have he' : ¬ (s.e : Int) = 0 := by omega
    go_wp2_with fail
    go_quiet (fail)
    go_wp2_with fail
    go_ret2
    refine ⟨_, rfl, ?_, below_drawn w nq⟩
    unfold WS.out; rw [if_neg he]; exact World.ownsRow_nil _ _ _ _
end Go.Proofs.YthdofbjijpghfaaGreatDoor
end S4
