/-
  BYTES OF THE CALLs OWN; dup, same.
-/
import Derived.Test.YtfmgegkeidhdfaaWalk4
import Derived.OwnWalk
import Derived.Laws.AppendOwnNone
import Derived.Laws.BytesArg
namespace Go.Proofs.Ytfmgegkeidhdfaa
open Go.RowKit

theorem info_byte : (Try.prog.info? 5).map (fun i => (i.zero, i.size, i.bytes)) = some (some (.int .u8 0), 1, 1) := by kernel_rfl
/-- The cells of bytes. -/
def cells8 (l : List (BitVec 8)) : List Value := l.map fun c => .int .u8 (c8 c)
theorem cells8_length (l : List (BitVec 8)) : (cells8 l).length = l.length := by simp [cells8]
theorem cells8_at {l : List (BitVec 8)} {k : Nat} (h : k < l.length) : (cells8 l)[k]? = some (.int .u8 (c8 (l.getD k 0#8))) := by
  simp [cells8, h]
theorem cells8_one (l : List (BitVec 8)) : ∀ v ∈ cells8 l, v.oneCell' = true := by
  intro v hv; simp only [cells8, List.mem_map] at hv; obtain ⟨c, _, rfl⟩ := hv; rfl
theorem cells8_app (l m : List (BitVec 8)) : cells8 (l ++ m) = cells8 l ++ cells8 m := by simp [cells8]
/-- The slice v is the own call own (its block is at B or above) and holds the bytes l. -/
def Own (B : Nat) (w : World) (v : Value) (l : List (BitVec 8)) : Prop := w.ownsRow B 5 1 v l.length (cells8 l)
theorem Own.bytes {B : Nat} {w : World} {v : Value} {l : List (BitVec 8)} (H : Own B w v l) : Bytes w v l := by
  obtain ⟨_, ⟨hv, hn⟩ | ⟨g, cap, cur, hv, hb, hg, hn, hm, hs, ht⟩⟩ := H
  · refine ⟨none, 0, by rw [hv, hn], by omega, by decide, fun _ => rfl, fun k hk => by omega⟩
  · refine ⟨_, cap, hv, hn, hm, fun h => by simp at h, fun k hk => ⟨g, 0, rfl, ?_⟩⟩
    rw [cell_of_row w g (0 + k) cur _ _ hg, Nat.zero_add, ← Array.getElem?_toList]
    have h1 : (cur.toList.take (l.length * 1))[k]? = cur.toList[k]? := by rw [List.getElem?_take_of_lt (by omega)]
    rw [← h1, ht, cells8_at hk]
theorem Own.below {B : Nat} {w w' : World} {v : Value} {l : List (BitVec 8)} (H : Own B w v l) (hb : Below w.heap.size w w') : Own B w' v l := by
  obtain ⟨h1, h | ⟨g, cap, cur, hv, hB, hg, hr⟩⟩ := H
  · exact ⟨h1, .inl h⟩
  · have hlt : g < w.heap.size := by
      rcases Nat.lt_or_ge g w.heap.size with h | h
      · exact h
      · rw [Array.getElem?_eq_none h] at hg; simp at hg
    exact ⟨h1, .inr ⟨g, cap, cur, hv, hB, by rw [hb.block g hlt]; exact hg, hr⟩⟩
theorem Own.mono {B B' : Nat} {w : World} {v : Value} {l : List (BitVec 8)} (H : Own B w v l) (h : B' ≤ B) : Own B' w v l := by
  obtain ⟨h1, h2 | ⟨g, cap, cur, hv, hB, hr⟩⟩ := H
  · exact ⟨h1, .inl h2⟩
  · exact ⟨h1, .inr ⟨g, cap, cur, hv, by omega, hr⟩⟩
theorem add_plain (b off j : Nat) : (⟨b, off, none⟩ : Addr).add j = ⟨b, off + j, none⟩ := by unfold Addr.add; split <;> simp_all
theorem Bytes.take {w : World} {a : Option Addr} {cap : Nat} {l : List (BitVec 8)} (H : Bytes w (.slice a l.length cap) l) (k : Nat) (hk : k ≤ l.length) : Bytes w (.slice a k cap) (l.take k) := by
  obtain ⟨a', cap', e, h1, h2, h0, hc⟩ := H
  simp only [Value.slice.injEq, true_and] at e
  obtain ⟨rfl, rfl⟩ := e
  refine ⟨a, cap, by rw [List.length_take, Nat.min_eq_left hk], by rw [List.length_take]; omega, h2, h0, fun j hj => ?_⟩
  rw [List.length_take] at hj
  obtain ⟨b, off, ea, h⟩ := hc j (by omega)
  refine ⟨b, off, ea, ?_⟩
  rw [h]
  simp only [List.getD, List.getElem?_take_of_lt (show j < k by omega)]
theorem Bytes.drop {w : World} {a : Option Addr} {cap : Nat} {l : List (BitVec 8)} (H : Bytes w (.slice a l.length cap) l) (m : Nat) (_hm : m ≤ l.length) : Bytes w (.slice (Option.map (fun x => x.add m) a) (l.length - m) (cap - m)) (l.drop m) := by
  obtain ⟨a', cap', e, h1, h2, h0, hc⟩ := H
  simp only [Value.slice.injEq, true_and] at e
  obtain ⟨rfl, rfl⟩ := e
  refine ⟨_, cap - m, by rw [List.length_drop], by rw [List.length_drop]; omega, by omega, fun h => ?_, fun j hj => ?_⟩
  · cases a with
    | none => have := h0 rfl; omega
    | some a => simp at h
  · rw [List.length_drop] at hj
    obtain ⟨b, off, rfl, h⟩ := hc (m + j) (by omega)
    refine ⟨b, off + m, by simp [add_plain], ?_⟩
    rw [Nat.add_assoc, h]
    simp [List.getD, List.getElem?_drop]
theorem Bytes.drop_all {w : World} {a : Option Addr} {m : Nat} {l : List (BitVec 8)} (H : Bytes w (.slice a l.length m) l) (_hm : m ≤ l.length) : Bytes w (.slice a (l.length - m) 0) (l.drop m) := by
  obtain ⟨a', cap', e, h1, h2, h0, hc⟩ := H
  simp only [Value.slice.injEq, true_and] at e
  obtain ⟨rfl, rfl⟩ := e
  have e : l.length - m = 0 := by omega
  have e2 : l.drop m = [] := List.drop_eq_nil_of_le (by omega)
  rw [e, e2]
  exact ⟨a, 0, rfl, by simp, by decide, fun _ => rfl, fun j hj => by simp at hj⟩
theorem Bytes.zero (w : World) (a : Option Addr) {l : List (BitVec 8)} (h : l = []) : Bytes w (.slice a 0 0) l := by
  rw [h]; exact ⟨a, 0, rfl, by simp, by decide, fun _ => rfl, fun j hj => by simp at hj⟩
theorem Bytes.nil (w : World) : Bytes w (.slice none 0 0) [] := ⟨none, 0, rfl, by simp, by decide, fun _ => rfl, fun k hk => by simp at hk⟩
theorem news8 {w : World} {a : Addr} {l : List (BitVec 8)}
    (h : ∀ k, k < l.length → ∃ b off, some a = some (⟨b, off, none⟩ : Addr) ∧ w.cell? ⟨b, off + k, none⟩ = some (.int .u8 (c8 (l.getD k 0#8)))) :
    ∀ j v, (cells8 l)[j]? = some v → w.cell? (a.add j) = some v := by
  intro j v hv
  have hj : j < l.length := by
    rcases Nat.lt_or_ge j l.length with q | q
    · exact q
    · rw [List.getElem?_eq_none (by rw [cells8_length]; exact q)] at hv; simp at hv
  obtain ⟨b, off, ha, hc⟩ := h j hj
  obtain rfl : a = ⟨b, off, none⟩ := by simpa using ha
  rw [cells8_at hj] at hv
  rw [add_plain, hc]; exact hv

set_option maxHeartbeats 400000 in
theorem dup_any (v : Value) (l : List (BitVec 8)) (w : World) (hv : Bytes w v l) (hl : l.length ≤ 140737488355328) :
    Calls Try.prog 11 #[v] w fun e w' => ∃ v', e = .returned v' ∧ Own w.heap.size w' v' l ∧ Below w.heap.size w w' := by
  obtain ⟨i0, hi, hz0, hz1, hz2⟩ := info_parts info_byte
  obtain ⟨a, cap, rfl, hlc, hcm, hn, hc⟩ := hv
  cases a with
  | none =>
    obtain rfl := hn rfl
    obtain rfl : l = [] := by simpa using hlc
    go_enter Try.func11, Try.ntmps11
    go_wp2_with (at_builtin; refine wpList_append_own_none rfl _ _ 28 rfl w.heap.size 5 i0 1 Try.underlying28 hi _ _ _ rfl (World.ownsRow_nil w _ _ _) rfl ?_)
    go_ret
    exact ⟨_, rfl, World.ownsRow_nil w _ _ _, Below.refl _ _⟩
  | some a =>
    have H : Hid (∀ j v, (cells8 l)[j]? = some v → w.cell? (a.add j) = some v) := news8 hc
    clear hc hn
    unfold maxLen at hcm
    go_enter Try.func11, Try.ntmps11
    go_wp2_with (at_builtin; refine wpList_append_own w rfl _ _ 28 rfl w.heap.size 5 i0 (.int .u8 0) 1 1 Try.underlying28 hi hz0 hz1 hz2 rfl (by decide) _ 0 [] rfl (World.ownsRow_nil w _ _ _) a l.length cap (cells8 l) rfl (by rw [cells8_length]; omega) H.out (cells8_one l) ?c3 ?c4 (Nat.le_refl _) ?_)
    case c3 => unfold maxLen; omega
    case c4 => omega
    intro v' w' ho hg hnil
    have A : Aside (w'.ownsRow w.heap.size 5 1 v' l.length (cells8 l) ∧ w.grownBy w' none) := ⟨by simpa using ho, hg⟩
    clear ho hg hnil
    go_wp2
    go_ret
    refine ⟨_, rfl, ?_, (Below.refl _ _).grown A.out.2 (Nat.le_refl _) (fun k hk => by simp at hk)⟩
    exact A.out.1

def str8 (l : List (BitVec 8)) : ByteArray := strOfNums (l.map c8)
theorem str8_inj {l m : List (BitVec 8)} : (str8 l).toList = (str8 m).toList ↔ l = m := by
  constructor
  · intro h
    rw [ByteArray.toList_eq, ByteArray.toList_eq] at h
    have h' : l.map (fun c => UInt8.ofNat (c8 c).toNat) = m.map (fun c => UInt8.ofNat (c8 c).toNat) := by
      simpa [str8, strOfNums_data, Function.comp_def] using h
    refine List.map_inj_right (f := fun c : BitVec 8 => UInt8.ofNat (c8 c).toNat) ?_ |>.1 h'
    intro a b hab
    have e := congrArg UInt8.toNat hab
    simp only [c8_nat, UInt8.toNat_ofNat'] at e
    exact BitVec.eq_of_toNat_eq (by have := a.isLt; have := b.isLt; omega)
  · intro h; rw [h]
theorem getD8 (l : List (BitVec 8)) (i : Nat) : (l.map c8).getD i 0 = c8 (l.getD i 0#8) := by
  simp only [List.getD, List.getElem?_map]; cases l[i]? <;> rfl
theorem conv8 {w : World} {v : Value} {l : List (BitVec 8)} (hv : Bytes w v l) : (convert 28 9 v).run Try.prog w = .ok (.string (str8 l)) w := by
  obtain ⟨a, cap, rfl, hlc, hcm, hn, hc⟩ := hv
  cases l with
  | nil =>
    rw [run_convert_bytes_string w 28 9 5 a _ cap Try.underlying28 Try.underlying5 Try.underlying9]
    cases a with
    | none => simp [Conv.bytesToString]; rfl
    | some a => exact (run_bytesToString w a 0 cap [] (by rfl))
  | cons c l =>
    obtain ⟨b, off, rfl, _⟩ := hc 0 (by simp)
    refine run_convert_bytes_arg w 28 5 Try.underlying28 Try.underlying5 b off _ cap ((c :: l).map c8) (by simp) (fun i hi => ?_) 9 Try.underlying9
    obtain ⟨b', off', e, h⟩ := hc i hi
    simp only [Option.some.injEq, Addr.mk.injEq] at e
    obtain ⟨rfl, rfl, _⟩ := e
    rw [h, getD8]

set_option maxHeartbeats 400000 in
theorem same_any (v v' : Value) (l m : List (BitVec 8)) (w : World) (hv : Bytes w v l) (hv' : Bytes w v' m) :
    Calls Try.prog 15 #[v, v'] w fun e w' => e = .returned (.bool (decide (l = m))) ∧ w' = w := by
  have h1 := conv8 hv
  have h2 := conv8 hv'
  go_enter Try.func15, Try.ntmps15
  go_wp2
  go_ret
  refine ⟨?_, rfl⟩
  have e : ((str8 l).toList == (str8 m).toList) = decide (l = m) := by rw [Bool.eq_iff_iff]; simp [str8_inj]
  exact congrArg (fun b => Ending.returned (.bool b)) e
theorem same_yes (v v' : Value) (l : List (BitVec 8)) (w : World) (hv : Bytes w v l) (hv' : Bytes w v' l) :
    Calls Try.prog 15 #[v, v'] w fun e w' => e = .returned (.bool true) ∧ w' = w := by
  have h := same_any v v' l l w hv hv'
  rw [decide_eq_true rfl] at h; exact h
theorem same_no (v v' : Value) (l m : List (BitVec 8)) (w : World) (hv : Bytes w v l) (hv' : Bytes w v' m) (hn : ¬ l = m) :
    Calls Try.prog 15 #[v, v'] w fun e w' => e = .returned (.bool false) ∧ w' = w := by
  have h := same_any v v' l m w hv hv'
  rw [decide_eq_false hn] at h; exact h
end Go.Proofs.Ytfmgegkeidhdfaa
