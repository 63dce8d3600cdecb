/-
  LNm, LStrs, LJoinsM, LPieces, LVals, LInv, LReadK, LSplitA, LPathM, LPathA, joined.
-/
import Derived.Test.YthdofbjijpghfaaGreatDoorRows
import Derived.Test.YthdofbjijpghfaaGreatDoorShelf
import Derived.WalkKit
import Derived.WalkSpells
import Derived.WalkLawsBesides
import Derived.Handy
import Derived.Lib.Walk
import Derived.Lib.Hide
import Derived.Lib.SliceRun
import Derived.BigQuiet
import Derived.Deep.QuietTactic
import Derived.Deep.LoopGhost
import Derived.Laws.RangeString
import Derived.Laws.RangeAny
import Derived.Laws.Runes
import Derived.LoopTactic
import Derived.OwnWalk
import Derived.Maps.AppendAt
import Derived.Laws.AppendOwnNone
import Derived.Lib.Join
import Derived.Lib.SplitLaws
import Derived.Lib.IndexBytes
import Derived.Maps.OwnSet
import Derived.Maps.OwnOps
import Derived.Maps.Own
import Derived.Maps.Views
import Derived.Lib.LastIndexByte
section S0
namespace Go.Proofs.YthdofbjijpghfaaGreatDoor.L
open Go.RowKit Go.Lib
/-- A letter a to z or a digit. -/
def plainN (n : Nat) : Bool := (decide (97 ≤ n) && decide (n ≤ 122)) || (decide (48 ≤ n) && decide (n ≤ 57))
/-- The byte at a place may stand there in a name. -/
def okAt (s : ByteArray) (i : Nat) : Bool := plainN (s.get! i).toNat || (decide (0 < i) && decide (i + 1 < s.size) && decide ((s.get! i).toNat = 45))
def nameB (s : ByteArray) : Bool := decide (0 < s.size) && decide (s.size ≤ 32) && (List.range s.size).all (okAt s)
theorem nameB_true {s : ByteArray} (h0 : 0 < s.size) (h1 : s.size ≤ 32) (h : ∀ i, i < s.size → okAt s i = true) : nameB s = true := by
  unfold nameB
  rw [decide_eq_true h0, decide_eq_true h1, Bool.true_and, Bool.true_and, List.all_eq_true]
  exact fun i hi => h i (List.mem_range.1 hi)
theorem nameB_false {s : ByteArray} {i : Nat} (hi : i < s.size) (h : okAt s i = false) : nameB s = false := by
  unfold nameB
  have : (List.range s.size).all (okAt s) = false := by
    rw [List.all_eq_false]
    exact ⟨i, List.mem_range.2 hi, by rw [h]; exact Bool.false_ne_true⟩
  rw [this, Bool.and_false]
set_option maxHeartbeats 1000000 in
theorem plain_any (x : Int) (b : Bool) (hb : b = ((decide (97 ≤ x) && decide (x ≤ 122)) || (decide (48 ≤ x) && decide (x ≤ 57)))) (w : World) : Calls Tryz.prog 122 #[.int .i32 x] w fun e w' => e = .returned (.bool b) ∧ w' = w := by
  subst hb
  go_enter Tryz.func122, Tryz.ntmps122
  by_cases h1 : 97 ≤ x
  · by_cases h2 : x ≤ 122
    · have g1 : decide (x ≥ 97) = true := decide_eq_true h1
      have g2 : decide (x ≤ 122) = true := decide_eq_true h2
      go_wp2
      go_ret
      simp [h1, h2]
    · have g1 : decide (x ≥ 97) = true := decide_eq_true h1
      have g2 : decide (x ≤ 122) = false := decide_eq_false h2
      have g3 : decide (x ≥ 48) = true := decide_eq_true (by omega)
      have g4 : decide (x ≤ 57) = false := decide_eq_false (by omega)
      go_wp2
      go_ret
      simp
  · have g1 : decide (x ≥ 97) = false := decide_eq_false h1
    by_cases h3 : 48 ≤ x
    · have g3 : decide (x ≥ 48) = true := decide_eq_true h3
      go_wp2
      go_ret
      simp
    · have g3 : decide (x ≥ 48) = false := decide_eq_false h3
      go_wp2
      go_ret
      simp
theorem list_of_bytes (s : ByteArray) : s.toList = s.data.toList := ByteArray.toList_eq s
theorem plainN_int (n : Nat) : plainN n = ((decide (97 ≤ (n : Int)) && decide ((n : Int) ≤ 122)) || (decide (48 ≤ (n : Int)) && decide ((n : Int) ≤ 57))) := by
  unfold plainN
  congr 1
  · congr 1
    · exact decide_eq_decide.2 (by omega)
    · exact decide_eq_decide.2 (by omega)
  · congr 1
    · exact decide_eq_decide.2 (by omega)
    · exact decide_eq_decide.2 (by omega)
theorem get_lit (s : ByteArray) (i : Nat) (h : i < s.size) : s.get! i = s[i]'h := by
  simp [ByteArray.get!, getElem!_pos, h]
  rfl
/-- The letter that a range tells at a place, and how far it goes. -/
theorem letter_at (s : ByteArray) (pos : Nat) (h : pos < s.size) : ((Utf8.decode s pos) = ((s.get! pos).toNat, 1) ∧ (s.get! pos).toNat < 128) ∨ (128 ≤ (Utf8.decode s pos).1 ∧ 128 ≤ (s.get! pos).toNat) := by
  rw [get_lit s pos h]
  by_cases ha : (s[pos]'h).toNat < 128
  · exact .inl ⟨decode_ascii s pos h ha, ha⟩
  · exact .inr ⟨(decode_high s pos h (by omega)).1, by omega⟩
theorem grow_ok {s : ByteArray} {pos : Nat} (h : ∀ i, i < pos → i < s.size → okAt s i = true) (ha : okAt s pos = true) : ∀ i, i < pos + 1 → i < s.size → okAt s i = true := fun i hi hs => by
  by_cases e : i = pos
  · rw [e]; exact ha
  · exact h i (by omega) hs
set_option maxHeartbeats 4000000 in
set_option maxRecDepth 1000000 in
theorem name_any (s : ByteArray) (w : World) : Calls Tryz.prog 108 #[.string s] w fun e w' => e = .returned (.bool (nameB s)) ∧ Below w.heap.size w w' := by
  go_enter Tryz.func108, Tryz.ntmps108
  by_cases h0 : s.size = 0
  · have e0 : s = ⟨#[]⟩ := by
      obtain ⟨⟨l⟩⟩ := s
      have : l = [] := List.length_eq_zero_iff.1 h0
      subst this
      rfl
    subst e0
    go_wp2
    go_ret
    exact ⟨rfl, Below.refl _ _⟩
  have hne : s.toList.isEmpty = false := by
    rw [list_of_bytes]
    obtain ⟨⟨l⟩⟩ := s
    cases l with
    | nil => exact absurd rfl h0
    | cons x r => rfl
  by_cases h1 : 32 < s.size
  · have g : decide ((s.size : Int) > 32) = true := decide_eq_true (by omega)
    have e : nameB s = false := by
      unfold nameB
      rw [decide_eq_false (show ¬ s.size ≤ 32 by omega), Bool.and_false, Bool.false_and]
    rw [e]
    go_wp2
    go_ret
    exact ⟨rfl, Below.refl _ _⟩
  have g : decide ((s.size : Int) > 32) = false := decide_eq_false (by omega)
  go_wp2
  go_loopw [3] (fun _ w' => ∃ pos, w' = w.iter s pos ∧ ∀ i, i < pos → i < s.size → okAt s i = true) (fun _ w' => s.size - w'.iterPos w.heap.size)
  case atStart => exact ⟨0, rfl, fun i h => by omega⟩
  case round =>
    obtain ⟨pos, rfl, hok⟩ := hrel
    by_cases hp : pos < s.size
    · have hnx : ∀ ty, (Instr.next (.pointer (some ⟨w.heap.size, 0, none⟩)) true ty).run Tryz.prog (w.iter s pos) = _ := fun ty => run_next_any w s pos ty hp
      have B : ∀ q, Below w.heap.size w (w.iter s q) := fun q => (Below.refl _ w).alloc (Nat.le_refl _) _
      have BH := Lib.hid B
      have OK := Lib.hid hok
      clear B hok
      have w1 : wrap64 ((s.size : Int) - 1) = (s.size : Int) - 1 := by unfold wrap64; omega
      rcases letter_at s pos hp with ⟨hd, hlt⟩ | ⟨hd, hlt⟩
      · rw [hd] at hnx
        obtain ⟨c, hc⟩ : ∃ c, c = (s.get! pos).toNat := ⟨_, rfl⟩
        rw [← hc] at hnx hlt
        clear hd
        cases hpl : plainN c with
        | true =>
          have HC : Hid (∀ W, Calls Tryz.prog 122 #[.int .i32 (c : Int)] W fun e w' => e = .returned (.bool true) ∧ w' = W) := fun W => plain_any _ true (by rw [← hpl, plainN_int]) W
          have hA : Hid (okAt s pos = true) := Lib.hid (by unfold okAt; rw [← hc, hpl, Bool.true_or])
          clear hc
          rcases (by omega : (0 < pos ∧ pos + 1 < s.size) ∨ (0 < pos ∧ ¬ pos + 1 < s.size) ∨ ¬ 0 < pos) with hin | hin | hin
          · have g1 : decide ((pos : Int) > 0) = true := decide_eq_true (by omega)
            have g2 : decide ((pos : Int) < (s.size : Int) - 1) = true := decide_eq_true (by omega)
            go_wp2_with (go_at_call 122; refine (HC.out _).mono ?_; rintro e w' ⟨rfl, rfl⟩)
            go_roundw
            case rel => exact ⟨pos + 1, rfl, grow_ok OK.out hA.out⟩
            case measure => simp; omega
          · have g1 : decide ((pos : Int) > 0) = true := decide_eq_true (by omega)
            have g2 : decide ((pos : Int) < (s.size : Int) - 1) = false := decide_eq_false (by omega)
            go_wp2_with (go_at_call 122; refine (HC.out _).mono ?_; rintro e w' ⟨rfl, rfl⟩)
            go_roundw
            case rel => exact ⟨pos + 1, rfl, grow_ok OK.out hA.out⟩
            case measure => simp; omega
          · have g1 : decide ((pos : Int) > 0) = false := decide_eq_false (by omega)
            go_wp2_with (go_at_call 122; refine (HC.out _).mono ?_; rintro e w' ⟨rfl, rfl⟩)
            go_roundw
            case rel => exact ⟨pos + 1, rfl, grow_ok OK.out hA.out⟩
            case measure => simp; omega
        | false =>
          have HC : Hid (∀ W, Calls Tryz.prog 122 #[.int .i32 (c : Int)] W fun e w' => e = .returned (.bool false) ∧ w' = W) := fun W => plain_any _ false (by rw [← hpl, plainN_int]) W
          rcases (by omega : (0 < pos ∧ pos + 1 < s.size) ∨ (0 < pos ∧ ¬ pos + 1 < s.size) ∨ ¬ 0 < pos) with hin | hin | hin
          · have g1 : decide ((pos : Int) > 0) = true := decide_eq_true (by omega)
            have g2 : decide ((pos : Int) < (s.size : Int) - 1) = true := decide_eq_true (by omega)
            by_cases hm : c = 45
            · have g3 : ((c : Int) == 45) = true := by rw [beq_iff_eq]; omega
              have hA : Hid (okAt s pos = true) := Lib.hid (by unfold okAt; rw [← hc, hpl, decide_eq_true hin.1, decide_eq_true hin.2, decide_eq_true hm]; rfl)
              clear hc hm
              go_wp2_with (go_at_call 122; refine (HC.out _).mono ?_; rintro e w' ⟨rfl, rfl⟩)
              go_roundw
              case rel => exact ⟨pos + 1, rfl, grow_ok OK.out hA.out⟩
              case measure => simp; omega
            · have g3 : ((c : Int) == 45) = false := by rw [beq_eq_false_iff_ne]; omega
              have hA : Hid (nameB s = false) := Lib.hid (nameB_false hp (by unfold okAt; rw [← hc, hpl, decide_eq_false hm, Bool.and_false]; rfl))
              clear hc hm
              go_wp2_with (go_at_call 122; refine (HC.out _).mono ?_; rintro e w' ⟨rfl, rfl⟩)
              go_ret
              exact ⟨by rw [hA.out]; rfl, BH.out _⟩
          · have g1 : decide ((pos : Int) > 0) = true := decide_eq_true (by omega)
            have g2 : decide ((pos : Int) < (s.size : Int) - 1) = false := decide_eq_false (by omega)
            have hA : Hid (nameB s = false) := Lib.hid (nameB_false hp (by unfold okAt; rw [← hc, hpl]; rw [decide_eq_false hin.2, Bool.and_false]; rfl))
            clear hc
            go_wp2_with (go_at_call 122; refine (HC.out _).mono ?_; rintro e w' ⟨rfl, rfl⟩)
            go_ret
            exact ⟨by rw [hA.out]; rfl, BH.out _⟩
          · have g1 : decide ((pos : Int) > 0) = false := decide_eq_false (by omega)
            have hA : Hid (nameB s = false) := Lib.hid (nameB_false hp (by unfold okAt; rw [← hc, hpl]; rw [decide_eq_false hin]; rfl))
            clear hc
            go_wp2_with (go_at_call 122; refine (HC.out _).mono ?_; rintro e w' ⟨rfl, rfl⟩)
            go_ret
            exact ⟨by rw [hA.out]; rfl, BH.out _⟩
      · obtain ⟨⟨l, q⟩, hlq⟩ : ∃ x, x = Utf8.decode s pos := ⟨_, rfl⟩
        rw [← hlq] at hnx hd
        have hl : 128 ≤ l := hd
        have HC : Hid (∀ W, Calls Tryz.prog 122 #[.int .i32 (l : Int)] W fun e w' => e = .returned (.bool false) ∧ w' = W) := fun W => plain_any _ false (by
          rw [decide_eq_false (show ¬ ((l : Int) ≤ 122) by omega), decide_eq_false (show ¬ ((l : Int) ≤ 57) by omega), Bool.and_false, Bool.and_false]; rfl) W
        have g3 : ((l : Int) == 45) = false := by rw [beq_eq_false_iff_ne]; omega
        have hA : Hid (nameB s = false) := Lib.hid (nameB_false hp (by
          unfold okAt plainN
          rw [decide_eq_false (show ¬ (s.get! pos).toNat ≤ 122 by omega), decide_eq_false (show ¬ (s.get! pos).toNat ≤ 57 by omega), decide_eq_false (show ¬ (s.get! pos).toNat = 45 by omega), Bool.and_false, Bool.and_false, Bool.and_false]; rfl))
        clear hlq hd hl hlt
        rcases (by omega : (0 < pos ∧ pos + 1 < s.size) ∨ (0 < pos ∧ ¬ pos + 1 < s.size) ∨ ¬ 0 < pos) with hin | hin | hin
        · have g1 : decide ((pos : Int) > 0) = true := decide_eq_true (by omega)
          have g2 : decide ((pos : Int) < (s.size : Int) - 1) = true := decide_eq_true (by omega)
          go_wp2_with (go_at_call 122; refine (HC.out _).mono ?_; rintro e w' ⟨rfl, rfl⟩)
          go_ret
          exact ⟨by rw [hA.out]; rfl, BH.out _⟩
        · have g1 : decide ((pos : Int) > 0) = true := decide_eq_true (by omega)
          have g2 : decide ((pos : Int) < (s.size : Int) - 1) = false := decide_eq_false (by omega)
          go_wp2_with (go_at_call 122; refine (HC.out _).mono ?_; rintro e w' ⟨rfl, rfl⟩)
          go_ret
          exact ⟨by rw [hA.out]; rfl, BH.out _⟩
        · have g1 : decide ((pos : Int) > 0) = false := decide_eq_false (by omega)
          go_wp2_with (go_at_call 122; refine (HC.out _).mono ?_; rintro e w' ⟨rfl, rfl⟩)
          go_ret
          exact ⟨by rw [hA.out]; rfl, BH.out _⟩
    · have hnx : ∀ ty, (Instr.next (.pointer (some ⟨w.heap.size, 0, none⟩)) true ty).run Tryz.prog (w.iter s pos) = _ := fun ty => run_next_end w s pos ty hp
      have e : nameB s = true := nameB_true (by omega) (by omega) fun i hi => hok i (by omega) hi
      have E := Lib.hid e
      clear e
      go_wp2
      go_ret
      exact ⟨by rw [E.out]; rfl, (Below.refl _ w).alloc (Nat.le_refl _) _⟩
end Go.Proofs.YthdofbjijpghfaaGreatDoor.L
end S0

section S1
namespace Go.Proofs.YthdofbjijpghfaaGreatDoor.L
open Go.RowKit
theorem add_plain (b off j : Nat) : (⟨b, off, none⟩ : Addr).add j = ⟨b, off + j, none⟩ := by unfold Addr.add; split <;> simp_all
theorem grown_alloc {w w' : World} {o : Obj} {row : Option Nat} (h : (w.alloc o).grownBy w' row) : w.grownBy w' row :=
  ⟨h.os, h.tape, h.output, Nat.le_trans (by simp) h.size, fun k hk hr => (h.block k (by simp; omega) hr).trans (Below.heap_alloc w o k hk)⟩
/-- The slice v holds the texts ts. -/
def Strs (w : World) (v : Value) (ts : List ByteArray) : Prop :=
  ∃ a cap, v = .slice a ts.length cap ∧ ts.length ≤ cap ∧ cap ≤ maxLen ∧ (a = none → cap = 0) ∧ (∀ k, k < ts.length → ∃ b off, a = some ⟨b, off, none⟩ ∧ w.cell? ⟨b, off + k, none⟩ = some (.string (ts.getD k ⟨#[]⟩)))
theorem Strs.below {w w' : World} {v : Value} {ts : List ByteArray} (H : Strs w v ts) (hb : Below w.heap.size w w') : Strs w' v ts := by
  obtain ⟨a, cap, e, h1, h2, h0, h3⟩ := H
  refine ⟨a, cap, e, h1, h2, h0, fun k hk => ?_⟩
  obtain ⟨b, off, ea, hc⟩ := h3 k hk
  exact ⟨b, off, ea, by rw [hb.cell (p := ⟨b, off + k, none⟩) (block_lt_of_cell hc)]; exact hc⟩
theorem Strs.len {w : World} {v : Value} {ts : List ByteArray} (H : Strs w v ts) : ∃ a cap, v = .slice a ts.length cap ∧ ts.length ≤ cap ∧ cap ≤ maxLen := by
  obtain ⟨a, cap, h, h1, h2, _⟩ := H; exact ⟨a, cap, h, h1, h2⟩
theorem Strs.at {w : World} {a : Option Addr} {n cap : Nat} {ts : List ByteArray} (H : Strs w (.slice a n cap) ts) (k : Nat) (hk : k < ts.length) : ∃ b off, a = some ⟨b, off, none⟩ ∧ w.cell? ⟨b, off + k, none⟩ = some (.string (ts.getD k ⟨#[]⟩)) := by
  obtain ⟨a', cap', e', _, _, _, hc⟩ := H
  simp only [Value.slice.injEq] at e'
  obtain ⟨rfl, rfl, rfl⟩ := e'
  exact hc k hk
theorem info_str : (Tryz.prog.info? 9).map (fun i => (i.zero, i.size, i.bytes)) = some (some (.string ⟨#[]⟩), 1, 16) := by kernel_rfl
def cellsS (ts : List ByteArray) : List Value := ts.map .string
theorem cellsS_at (ts : List ByteArray) (k : Nat) (h : k < ts.length) : (cellsS ts)[k]? = some (.string (ts.getD k ⟨#[]⟩)) := by simp [cellsS, h]
/-- The slice v belongs to the call alone and holds the texts ts. -/
def OwnS (B : Nat) (w : World) (v : Value) (ts : List ByteArray) : Prop := w.ownsRow B 9 1 v ts.length (cellsS ts)
theorem OwnS.strs {B : Nat} {w : World} {v : Value} {ts : List ByteArray} (H : OwnS B w v ts) : Strs w v ts := by
  obtain ⟨_, ⟨hv, hn⟩ | ⟨g, cap, cur, hv, hb, hg, hn, hm, hs, ht⟩⟩ := H
  · exact ⟨none, 0, by rw [hv, hn], by omega, by decide, fun _ => rfl, fun k hk => by omega⟩
  · refine ⟨_, cap, hv, hn, hm, (fun h => by cases h), fun k hk => ⟨g, 0, rfl, ?_⟩⟩
    rw [cell_of_row w g _ cur _ _ hg, Nat.zero_add, ← Array.getElem?_toList]
    have h1 : (cur.toList.take (ts.length * 1))[k]? = cur.toList[k]? := by rw [List.getElem?_take_of_lt (by omega)]
    rw [← h1, ht, cellsS_at ts k hk]
theorem OwnS.below {B : Nat} {w w' : World} {v : Value} {ts : List ByteArray} (H : OwnS B w v ts) (hb : Below w.heap.size w w') : OwnS B w' v ts := by
  obtain ⟨h1, h | ⟨g, cap, cur, hv, hB, hg, hr⟩⟩ := H
  · exact ⟨h1, .inl h⟩
  · have hlt : g < w.heap.size := by
      rcases Nat.lt_or_ge g w.heap.size with h | h
      · exact h
      · rw [Array.getElem?_eq_none h] at hg; simp at hg
    exact ⟨h1, .inr ⟨g, cap, cur, hv, hB, by rw [hb.block g hlt]; exact hg, hr⟩⟩
theorem OwnS.lt {B : Nat} {w : World} {v : Value} {l : List ByteArray} (h : OwnS B w v l) : ∀ k, v.ownBlock = some k → B ≤ k ∧ k < w.heap.size := World.ownsRow.lt h
theorem app_txt {ops : Array Oper} {rest : List Oper} {o : Oper} {a : Act} {Q : Exit → Act → World → Prop} (hgd : o.guard = none) (s y : Operand)
    (ho : o.op = .call { callee := .builtin .append, args := #[s, y], argTypes := #[49, 49] })
    {B : Nat} {w0 : World} {v : Value} {ts : List ByteArray} (hs : a.eval s = v) (hown : OwnS B w0 v ts) (hB : B ≤ w0.heap.size) (t : ByteArray)
    (hy : a.eval y = .slice (some ⟨w0.heap.size, 0, none⟩) 1 1) (hl : (ts.length + 1) * 16 ≤ 140737488355328)
    (h : ∀ v' w', OwnS B w' v' (ts ++ [t]) → w0.grownBy w' v.ownBlock → wpList Tryz.prog ops Q rest (a.put o.dst v') w') :
    wpList Tryz.prog ops Q (o :: rest) a (w0.alloc (.cells #[.string t] 9)) := by
  obtain ⟨i0, hi, hz0, hz1, hz2⟩ := info_parts info_str
  refine wpList_append_own_at _ hgd s y 49 ho B 9 i0 _ 1 16 Tryz.underlying49 hi hz0 hz1 hz2 rfl (by decide) v ts.length (cellsS ts) hs (World.ownsRow.alloc hown _) ⟨w0.heap.size, 0, none⟩ 1 1 [.string t] hy rfl ?_ ?_ (by unfold maxLen; omega) (by omega) (by simp; omega) ?_
  · intro j u hj
    rw [add_plain, Nat.zero_add, World.cell?_alloc_new, ← Array.getElem?_toList]; exact hj
  · intro v hv; simp only [List.mem_cons, List.not_mem_nil, or_false] at hv; rw [hv]; rfl
  · intro v' w' h1 h2 _ _
    refine h v' w' ?_ (grown_alloc h2)
    show w'.ownsRow _ _ _ _ _ _
    have e : cellsS (ts ++ [t]) = cellsS ts ++ [.string t] := by simp [cellsS]
    rw [e, List.length_append]; exact h1

theorem take_one {α : Type} (l : List α) (k : Nat) (d : α) (h : k < l.length) : l.take (k + 1) = l.take k ++ [l.getD k d] := by
  rw [List.take_add_one, List.getElem?_eq_getElem h]
  simp [h]
/-- A call's own copy: append to nil. -/
theorem app_copy {ops : Array Oper} {rest : List Oper} {o : Oper} {a : Act} {Q : Exit → Act → World → Prop} (hgd : o.guard = none) (s y : Operand)
    (ho : o.op = .call { callee := .builtin .append, args := #[s, y], argTypes := #[49, 49] })
    {w0 : World} {v : Value} {ts : List ByteArray} (hs : a.eval s = .slice none 0 0) (hv : Strs w0 v ts) (hy : a.eval y = v) (hl : ts.length * 16 ≤ 140737488355328)
    (h : ∀ v' w', OwnS w0.heap.size w' v' ts → Below w0.heap.size w0 w' → wpList Tryz.prog ops Q rest (a.put o.dst v') w') :
    wpList Tryz.prog ops Q (o :: rest) a w0 := by
  obtain ⟨i0, hi, hz0, hz1, hz2⟩ := info_parts info_str
  obtain ⟨ad, cap, rfl, hlc, hcm, hn, hc⟩ := hv
  cases ad with
  | none =>
    obtain rfl := hn rfl
    obtain rfl : ts = [] := by simpa using hlc
    refine wpList_append_own_none hgd s y 49 ho w0.heap.size 9 i0 1 Tryz.underlying49 hi (.slice none 0 0) 0 [] hs (World.ownsRow_nil _ _ _ _) hy ?_
    exact h _ w0 (World.ownsRow_nil _ _ _ _) (Below.refl _ _)
  | some ad =>
    refine wpList_append_own_at w0 hgd s y 49 ho w0.heap.size 9 i0 _ 1 16 Tryz.underlying49 hi hz0 hz1 hz2 rfl (by decide) (.slice none 0 0) 0 [] hs (World.ownsRow_nil _ _ _ _) ad ts.length cap (cellsS ts) hy (by simp [cellsS]) ?_ ?_ (by unfold maxLen; omega) (by omega) (Nat.le_refl _) ?_
    · intro j u hj
      have hj' : j < ts.length := by
        have := (List.getElem?_eq_some_iff.1 hj).1
        simpa [cellsS] using this
      rw [cellsS_at ts j hj'] at hj
      obtain ⟨b, off, e, hcell⟩ := hc j hj'
      cases e
      rw [add_plain]
      rw [← hj]
      exact hcell
    · intro u hu
      simp only [cellsS, List.mem_map] at hu
      obtain ⟨t, _, rfl⟩ := hu
      rfl
    · intro v' w' h1 h2 _ _
      refine h v' w' ?_ ((Below.refl _ w0).grown h2 (Nat.le_refl _) (by intro k hk; cases hk))
      show w'.ownsRow _ _ _ _ _ _
      simpa using h1
set_option maxHeartbeats 2000000 in
set_option maxRecDepth 100000 in
theorem allNames_any (v : Value) (ts : List ByteArray) (w : World) (hv : Strs w v ts) :
    Calls Tryz.prog 86 #[v] w fun e w' => e = .returned (.bool (ts.all nameB)) ∧ Below w.heap.size w w' := by
  have V : Aside (Strs w v ts) := hv
  obtain ⟨a, cap, rfl, hlc, hcm⟩ := hv.len
  unfold maxLen at hcm
  clear hv
  go_enter Tryz.func86, Tryz.ntmps86
  go_wp2_with fail
  go_loopg [7] ts.length (fun g si wr => ∃ (k : Nat), k ≤ ts.length ∧ g = ts.length - k ∧ si = .int .i64 k ∧ (ts.take k).all nameB = true ∧ Below w.heap.size w wr)
  case atStart => exact ⟨0, Nat.zero_le _, rfl, rfl, rfl, Below.refl _ _⟩
  case round =>
    obtain ⟨k, hk, hg, rfl, ha, hb⟩ := hrel
    have R : Aside (gk = ts.length - k ∧ (ts.take k).all nameB = true ∧ Below w.heap.size w wr) := ⟨hg, ha, hb⟩
    clear hg hb ha
    by_cases hlt : k < ts.length
    · obtain ⟨b, off, rfl, p0⟩ := (V.out.below R.out.2.2).at k hlt
      obtain ⟨t, ht⟩ : ∃ t, t = ts.getD k ⟨#[]⟩ := ⟨_, rfl⟩
      rw [← ht] at p0
      have C : Aside (t = ts.getD k ⟨#[]⟩) := ht
      clear ht
      have hlt' : (k : Int) < (ts.length : Int) := by omega
      have N := Lib.hid (name_any t)
      cases hn : nameB t with
      | true =>
        rw [hn] at N
        go_wp2_with fail
        refine (N.out _).mono ?_
        rintro e w1 ⟨rfl, hb⟩
        have B1 := Lib.hid (R.out.2.2.trans (hb.mono R.out.2.2.size))
        clear hb
        go_wp2_with fail
        go_roundg (ts.length - (k + 1))
        case measure => have := R.out.1; omega
        case rel => exact ⟨k + 1, by omega, rfl, by go_num, by rw [take_one ts k ⟨#[]⟩ hlt, ← C.out, List.all_append, R.out.2.1]; simp [hn], B1.out⟩
      | false =>
        rw [hn] at N
        go_wp2_with fail
        refine (N.out _).mono ?_
        rintro e w1 ⟨rfl, hb⟩
        have B1 := Lib.hid (R.out.2.2.trans (hb.mono R.out.2.2.size))
        clear hb
        go_wp2_with fail
        go_ret
        refine ⟨?_, B1.out⟩
        have : ts.all nameB = false := by
          rw [List.all_eq_false]
          refine ⟨t, ?_, by rw [hn]; exact Bool.false_ne_true⟩
          rw [C.out, List.getD_eq_getElem?_getD, List.getElem?_eq_getElem hlt]
          exact List.getElem_mem hlt
        rw [this]
        rfl
    · go_wp2_with fail
      go_ret
      refine ⟨?_, R.out.2.2⟩
      have := R.out.2.1
      rw [List.take_of_length_le (by omega)] at this
      rw [this]
      rfl
end Go.Proofs.YthdofbjijpghfaaGreatDoor.L
end S1

section S2
namespace Go.Proofs.YthdofbjijpghfaaGreatDoor.L
open Go.RowKit
/-- Each of them behind a slash. -/
def pathOf (ts : List ByteArray) : List UInt8 := ts.flatMap fun t => 47 :: t.data.toList
def pathL (ts : List ByteArray) : List UInt8 := if ts = [] then [47] else pathOf ts
/-- What Join answers. -/
def joinR (ts : List ByteArray) : ByteArray × Int :=
  if ts.all nameB then (if ts.length ≤ 8 then (if (pathL ts).length ≤ 64 then (⟨(pathL ts).toArray⟩, 0) else (⟨#[]⟩, 41)) else (⟨#[]⟩, 41)) else (⟨#[]⟩, 40)
theorem join_pathOf (ts : List ByteArray) (h : ts ≠ []) : 47 :: Lib.join (ts.map (·.data.toList)) [47] = pathOf ts := by
  induction ts with
  | nil => exact absurd rfl h
  | cons t r ih =>
    cases r with
    | nil => simp [Lib.join, pathOf]
    | cons u r =>
      have := ih (by simp)
      rw [pathOf, List.flatMap_cons, ← pathOf, ← this]
      simp [Lib.join]
theorem join_pathL (ts : List ByteArray) : 47 :: Lib.join (ts.map (·.data.toList)) [47] = pathL ts := by
  unfold pathL
  split
  · subst ts; rfl
  · exact join_pathOf ts ‹_›
theorem name_size {t : ByteArray} (h : nameB t = true) : t.size ≤ 32 := by
  unfold nameB at h
  simp only [Bool.and_eq_true, decide_eq_true_eq] at h
  exact h.1.2
theorem pathOf_length (ts : List ByteArray) (h : ts.all nameB = true) : (pathOf ts).length ≤ ts.length * 33 := by
  induction ts with
  | nil => exact Nat.le_refl _
  | cons t r ih =>
    rw [List.all_cons, Bool.and_eq_true] at h
    have h1 := ih h.2
    have h2 : t.data.toList.length ≤ 32 := by simpa using name_size h.1
    rw [pathOf, List.flatMap_cons, ← pathOf, List.length_append, List.length_cons, List.length_cons]
    omega
theorem pathL_length (ts : List ByteArray) (h : ts.all nameB = true) : (pathL ts).length ≤ ts.length * 33 + 1 := by
  unfold pathL
  split
  · simp
  · have := pathOf_length ts h; omega
end Go.Proofs.YthdofbjijpghfaaGreatDoor.L
end S2

section S3
namespace Go.Proofs.YthdofbjijpghfaaGreatDoor.L
open Go.RowKit
def pieces (c : UInt8) : List UInt8 → List (List UInt8)
  | [] => [[]]
  | b :: l => if b = c then [] :: pieces c l else (b :: (pieces c l).headD []) :: (pieces c l).tail
theorem pieces_ne (c : UInt8) (l : List UInt8) : pieces c l ≠ [] := by
  cases l with
  | nil => simp [pieces]
  | cons b l => unfold pieces; split <;> simp
theorem pieces_free (c : UInt8) (a : List UInt8) (h : c ∉ a) : pieces c a = [a] := by
  induction a with
  | nil => rfl
  | cons b a ih =>
    rw [List.mem_cons, not_or] at h
    unfold pieces
    rw [if_neg (fun e => h.1 e.symm), ih h.2]
    rfl
theorem pieces_app (c : UInt8) (a l : List UInt8) (h : c ∉ a) : pieces c (a ++ c :: l) = a :: pieces c l := by
  induction a with
  | nil => rw [List.nil_append, pieces, if_pos rfl]
  | cons b a ih =>
    rw [List.mem_cons, not_or] at h
    rw [List.cons_append, pieces, if_neg (fun e => h.1 e.symm), ih h.2]
    rfl
theorem index_free (c : UInt8) (a : List UInt8) (h : c ∉ a) : Lib.index a [c] = -1 := by
  rw [Lib.index_one]
  induction a with
  | nil => rfl
  | cons b a ih =>
    rw [List.mem_cons, not_or] at h
    unfold Lib.indexByte
    rw [if_neg (by rw [beq_iff_eq]; exact fun e => h.1 e.symm), ih h.2]
    rfl
theorem index_app (c : UInt8) (a l : List UInt8) (h : c ∉ a) : Lib.index (a ++ c :: l) [c] = a.length := by
  rw [Lib.index_one]
  induction a with
  | nil =>
    rw [List.nil_append, Lib.indexByte, if_pos (by simp)]
    rfl
  | cons b a ih =>
    rw [List.mem_cons, not_or] at h
    rw [List.cons_append, Lib.indexByte, if_neg (by rw [beq_iff_eq]; exact fun e => h.1 e.symm), ih h.2, if_neg (by rw [beq_iff_eq]; omega), List.length_cons]
    rfl
theorem cut_first (c : UInt8) (s : List UInt8) (h : c ∈ s) : ∃ a l, s = a ++ c :: l ∧ c ∉ a := by
  induction s with
  | nil => simp at h
  | cons b s ih =>
    by_cases e : b = c
    · exact ⟨[], s, by rw [e]; rfl, by simp⟩
    · rw [List.mem_cons] at h
      rcases h with h | h
      · exact absurd h.symm e
      · obtain ⟨a, l, rfl, ha⟩ := ih h
        exact ⟨b :: a, l, rfl, by rw [List.mem_cons, not_or]; exact ⟨fun h => e h.symm, ha⟩⟩
theorem splitK_pieces (c : UInt8) : ∀ (n : Nat) (s : List UInt8), s.length ≤ n → Lib.splitK [c] 0 (Lib.count s [c]) s = pieces c s
  | n, s, hn => by
    by_cases h : c ∈ s
    · obtain ⟨a, l, rfl, ha⟩ := cut_first c s h
      have hi := index_app c a l ha
      have hd : (a ++ c :: l).drop (a.length + [c].length) = l := by
        rw [List.length_singleton, ← List.drop_drop]
        simp
      rw [Lib.count_hit (by simp) hi, hd, Nat.add_comm, Lib.splitK, if_neg (by rw [hi, beq_iff_eq]; omega), hi]
      have e1 : (a ++ c :: l).take ((a.length : Int).toNat + 0) = a := by simp
      have e2 : (a ++ c :: l).drop ((a.length : Int).toNat + [c].length) = l := by rw [Int.toNat_natCast]; exact hd
      rw [e1, e2, pieces_app c a l ha]
      congr 1
      cases n with
      | zero => simp at hn
      | succ n => exact splitK_pieces c n l (by simp at hn; omega)
    · rw [Lib.count_miss (index_free c s h), pieces_free c s h]
      rfl
def bytesOf (l : List UInt8) : ByteArray := ⟨l.toArray⟩
theorem bytesOf_data (s : ByteArray) : bytesOf s.data.toList = s := by simp [bytesOf]
theorem splitB_pieces (c : UInt8) (s : ByteArray) : Lib.splitB ⟨#[c]⟩ 0 (Lib.countB s ⟨#[c]⟩) s = (pieces c s.data.toList).map bytesOf := by
  have h := Lib.splitB_data ⟨#[c]⟩ 0 (Lib.countB s ⟨#[c]⟩) s
  have e := splitK_pieces c _ s.data.toList (Nat.le_refl _)
  have h2 : (Lib.splitB ⟨#[c]⟩ 0 (Lib.countB s ⟨#[c]⟩) s).map (·.data.toList) = pieces c s.data.toList := h.trans e
  rw [← h2, List.map_map]
  conv => lhs; rw [← List.map_id (Lib.splitB ⟨#[c]⟩ 0 (Lib.countB s ⟨#[c]⟩) s)]
  congr 1
theorem name_free {t : ByteArray} (h : nameB t = true) : 47 ∉ t.data.toList := by
  intro hm
  obtain ⟨i, hi, e⟩ := List.getElem_of_mem hm
  have hi' : i < t.size := by simpa using hi
  unfold nameB at h
  simp only [Bool.and_eq_true, List.all_eq_true, List.mem_range] at h
  have hk := h.2 i hi'
  have hg : (t.get! i).toNat = 47 := by
    rw [get_lit t i hi']
    have : t[i]'hi' = 47 := by
      rw [← e]
      simp [ByteArray.getElem_eq_getElem_data]
    rw [this]
    rfl
  unfold okAt plainN at hk
  rw [hg] at hk
  simp at hk
theorem pieces_path (ts : List ByteArray) (h : ts.all nameB = true) (hne : ts ≠ []) : pieces 47 (pathOf ts).tail = ts.map (·.data.toList) := by
  induction ts with
  | nil => exact absurd rfl hne
  | cons t r ih =>
    rw [List.all_cons, Bool.and_eq_true] at h
    cases r with
    | nil => rw [show (pathOf [t]).tail = t.data.toList by simp [pathOf]]; exact pieces_free _ _ (name_free h.1)
    | cons u r =>
      have e : (pathOf (t :: u :: r)).tail = t.data.toList ++ 47 :: (pathOf (u :: r)).tail := by
        rw [pathOf, List.flatMap_cons, ← pathOf, show pathOf (u :: r) = 47 :: (pathOf (u :: r)).tail by simp [pathOf]]
        rfl
      rw [e, pieces_app _ _ _ (name_free h.1), ih h.2 (by simp)]
      rfl
end Go.Proofs.YthdofbjijpghfaaGreatDoor.L
end S3

section S4
namespace Go.Proofs.YthdofbjijpghfaaGreatDoor.L
open Go.RowKit Go.Maps
def valueB (t : ByteArray) : Bool := decide (t.size = 0) || nameB t
def valuesB (ts : List ByteArray) : Bool :=
  if ts.length = 1 then valueB (ts.getD 0 ⟨#[]⟩) else decide (0 < ts.length) && decide (ts.length ≤ 8) && ts.all nameB && decide (ts.map (·.data.toList)).Nodup
theorem law : Keyed Tryz.prog 9 := string_keyed Tryz.underlying9
theorem zeroE (w : World) : (zeroValue 3).run Tryz.prog w = .ok (.int .i64 0) w := by go_simp
theorem isKeyS (l : List UInt8) : WideAt.IsKeyLit (.string l) := by trivial
/-- The map of what was seen: just these. -/
def Seen (D : DataW Unit) (ls : List (List UInt8)) : Prop := IsMap D ∧ ∀ l : List UInt8, Maps.has D (.string l) = decide (l ∈ ls)
theorem seen_none : Seen (.map []) [] := ⟨⟨[], rfl⟩, fun t => by simp [Maps.has_eq]⟩
theorem Seen.put {D : DataW Unit} {ls : List (List UInt8)} (h : Seen D ls) (l : List UInt8) (d : DataW Unit) : Seen (D.put (.string l) d) (ls ++ [l]) := by
  refine ⟨h.1.put _ _, fun u => ?_⟩
  by_cases e : u = l
  · subst e
    rw [has_put_same h.1 (isKeyS _)]
    simp
  · rw [has_put_other (fun h => e (by injection h)), h.2]
    simp [e]
theorem nodup_snoc {ls : List (List UInt8)} {l : List UInt8} (h : ls.Nodup) (hn : l ∉ ls) : (ls ++ [l]).Nodup := by
  rw [List.nodup_append]
  refine ⟨h, by simp, ?_⟩
  intro a ha b hb e
  simp only [List.mem_singleton] at hb
  subst hb e
  exact hn ha
theorem not_nodup {ls ms : List (List UInt8)} {l : List UInt8} (hn : l ∈ ls) : ¬ (ls ++ l :: ms).Nodup := by
  intro h
  rw [List.nodup_append] at h
  exact h.2.2 l hn l (by simp) rfl
theorem split_at (ts : List ByteArray) (k : Nat) (h : k < ts.length) : ts = ts.take k ++ ts.getD k ⟨#[]⟩ :: ts.drop (k + 1) := by
  rw [List.getD_eq_getElem?_getD, List.getElem?_eq_getElem h]
  simp
end Go.Proofs.YthdofbjijpghfaaGreatDoor.L
end S4

section S5
namespace Go.Proofs.YthdofbjijpghfaaGreatDoor.L
open Go.RowKit
/-- A term: its key, how, its values as they lie, its values. -/
structure Trm where
  key : ByteArray
  how : Int
  vals : Value
  ts : List ByteArray
def Trm.cells (x : Trm) : List Value := [.string x.key, .int .i64 x.how, x.vals]
/-- It lies so in a world. -/
def Trm.At (w : World) (x : Trm) : Prop := Strs w x.vals x.ts ∧ ∀ t ∈ x.ts, t.size ≤ maxLen
theorem Trm.At.below {w w' : World} {x : Trm} (h : x.At w) (hb : Below w.heap.size w w') : x.At w' := ⟨h.1.below hb, h.2⟩
def invalidB (x : Trm) : Bool :=
  !(nameB x.key && (if x.how = 0 ∨ x.how = 1 then valuesB x.ts else if x.how = 2 ∨ x.how = 3 then decide (x.ts.length = 0) else false))
/-- A list of terms, as it lies. -/
def Trms (w : World) (v : Value) (xs : List Trm) : Prop :=
  (∀ x ∈ xs, x.At w) ∧ ∃ a cap, v = .slice a xs.length cap ∧ xs.length ≤ cap ∧ cap ≤ maxLen ∧ (a = none → cap = 0) ∧ (xs ≠ [] → ∃ b off, a = some ⟨b, off, none⟩ ∧ ∀ j, j < xs.length → ∀ i u, (xs.getD j ⟨⟨#[]⟩, 0, .slice none 0 0, []⟩).cells[i]? = some u → w.cell? ⟨b, off + j * 3 + i, none⟩ = some u)
def termsB (xs : List Trm) : Bool := decide (xs.length ≤ 8) && !xs.any invalidB
end Go.Proofs.YthdofbjijpghfaaGreatDoor.L
end S5

section S6
namespace Go.Proofs.YthdofbjijpghfaaGreatDoor.L
open Go.RowKit
/-- A variable of the library's holds some number. -/
def HasM (w : World) : Prop := ∃ m, w.cell? ⟨0, 0, none⟩ = some (.int .i64 m)
theorem HasM.below {w w' : World} (h : HasM w) (hb : Below w.heap.size w w') : HasM w' := by
  obtain ⟨m, hm⟩ := h
  exact ⟨m, (hb.cell (block_lt_of_cell hm)).trans hm⟩
theorem below_drawn (w : World) (n : Nat) : Below w.heap.size w (w.drewN n) := ⟨rfl, rfl, rfl, Nat.le_refl _, fun _ _ => rfl⟩
theorem spl_xy : Lib.splitB ⟨#[32]⟩ 0 3 ⟨#[120, 32, 121]⟩ = [⟨#[120]⟩, ⟨#[121]⟩] := by kernel_rfl
theorem cut_in : Lib.cut (⟨#[97, 32, 105, 110, 32, 40, 120, 32, 121, 41]⟩ : ByteArray).data.toList (⟨#[32, 105, 110, 32, 40]⟩ : ByteArray).data.toList = ([97], [120, 32, 121, 41], true) := by kernel_rfl
theorem cells_xy : Lib.cellsOf [⟨#[120]⟩, ⟨#[121]⟩] 4 = #[.string ⟨#[120]⟩, .string ⟨#[121]⟩, .string ⟨#[]⟩, .string ⟨#[]⟩] := by kernel_rfl
end Go.Proofs.YthdofbjijpghfaaGreatDoor.L
end S6

section S7
namespace Go.Proofs.YthdofbjijpghfaaGreatDoor.L
open Go.RowKit
/-- The names of a path; nothing, if it is none. -/
def splitO (p : ByteArray) : Option (List ByteArray) :=
  if p.data.toList = [47] then some [] else
  if Lib.hasPrefix p.data.toList [47] = true ∧ p.size ≤ 64 ∧ ((pieces 47 p.data.toList.tail).map bytesOf).length ≤ 8 ∧ ((pieces 47 p.data.toList.tail).map bytesOf).all nameB = true then some ((pieces 47 p.data.toList.tail).map bytesOf) else none
def splitE (p : ByteArray) : Int := if (splitO p).isSome then 0 else 41
def splitT (p : ByteArray) : List ByteArray := (splitO p).getD []
theorem tail_of_prefix {l : List UInt8} (h : Lib.hasPrefix l [47] = true) : Lib.trimPrefix l [47] = l.tail := by
  unfold Lib.trimPrefix
  rw [if_pos h]
  cases l <;> rfl
theorem splitB_len (s : ByteArray) : Lib.countB s ⟨#[47]⟩ + 1 = ((pieces 47 s.data.toList).map bytesOf).length := by
  rw [← splitB_pieces, Lib.splitB_all ⟨#[47]⟩ (by decide) 0 _ s rfl]
set_option maxHeartbeats 4000000 in
set_option maxRecDepth 100000 in
theorem split_any (p : ByteArray) (w : World) (hm : HasM w) :
    Calls Tryz.prog 54 #[.string p] w fun e w' => ∃ v, e = .returned (.tuple #[v, .int .i64 (splitE p)]) ∧ OwnS w.heap.size w' v (splitT p) ∧ Below w.heap.size w w' := by
  have H := Lib.hid hm
  clear hm
  go_enter Tryz.func54, Tryz.ntmps54
  by_cases hr : p.data.toList = [47]
  · have hA : Hid (splitE p = 0 ∧ splitT p = []) := Lib.hid (by unfold splitE splitT splitO; rw [if_pos hr]; exact ⟨rfl, rfl⟩)
    have hp : (p.toList == [47]) = true := by rw [list_of_bytes, hr]; rfl
    go_wp2_with fail
    go_ret2
    exact ⟨.slice none 0 0, by rw [hA.out.1]; rfl, by rw [hA.out.2]; exact World.ownsRow_nil _ _ _ _, Below.refl _ _⟩
  have hp : (p.toList == [47]) = false := by rw [list_of_bytes, beq_eq_false_iff_ne]; exact hr
  have hnone : ∀ Q : Prop, ¬ (Lib.hasPrefix p.data.toList [47] = true ∧ p.size ≤ 64 ∧ ((pieces 47 p.data.toList.tail).map bytesOf).length ≤ 8 ∧ ((pieces 47 p.data.toList.tail).map bytesOf).all nameB = true) → splitE p = 41 ∧ splitT p = [] := by
    intro _ h
    unfold splitE splitT splitO
    rw [if_neg hr, if_neg h]
    exact ⟨rfl, rfl⟩
  have HN := Lib.hid (hnone True)
  clear hnone
  have CP : Hid (∀ W, Calls Tryz.prog 84 #[.string p, .string ⟨#[47]⟩] W fun e w' => e = .returned (.tuple #[.string ⟨(Lib.trimPrefix p.data.toList [47]).toArray⟩, .bool (Lib.hasPrefix p.data.toList [47])]) ∧ w' = W) := Lib.hid fun W => Tryz.strings_CutPrefix p ⟨#[47]⟩ W
  cases hpre : Lib.hasPrefix p.data.toList [47] with
  | false =>
    rw [hpre] at CP
    have hA := Lib.hid (HN.out (by rw [hpre]; simp))
    go_wp2_with fail
    refine (CP.out w).mono ?_
    rintro e w1 ⟨rfl, rfl⟩
    go_wp2_with fail
    go_ret2
    exact ⟨.slice none 0 0, by rw [hA.out.1]; rfl, by rw [hA.out.2]; exact World.ownsRow_nil _ _ _ _, Below.refl _ _⟩
  | true =>
    rw [hpre, tail_of_prefix hpre] at CP
    by_cases h64 : p.size ≤ 64
    · have g64 : decide ((p.size : Int) > 64) = false := decide_eq_false (by omega)
      obtain ⟨r, hrr⟩ : ∃ r : ByteArray, r = ⟨p.data.toList.tail.toArray⟩ := ⟨_, rfl⟩
      rw [← hrr] at CP
      have rl : r.data.toList = p.data.toList.tail := by rw [hrr]
      have rs : r.size ≤ 64 := by
        have h1 : r.data.toList.length ≤ p.data.toList.length := by rw [rl]; simp
        have h2 : r.data.toList.length = r.size := by simp
        have h3 : p.data.toList.length = p.size := by simp
        omega
      obtain ⟨ts, hts⟩ : ∃ ts, ts = (pieces 47 p.data.toList.tail).map bytesOf := ⟨_, rfl⟩
      have cn : Lib.countB r ⟨#[47]⟩ + 1 = ts.length := by rw [splitB_len, rl, hts]
      have sp : Lib.splitB ⟨#[47]⟩ 0 (Lib.countB r ⟨#[47]⟩) r = ts := by rw [splitB_pieces, rl, hts]
      have hsome : Hid (ts.length ≤ 8 → ts.all nameB = true → splitE p = 0 ∧ splitT p = ts) := Lib.hid (by
        intro h8 hall
        have e : splitO p = some ts := by
          unfold splitO
          rw [if_neg hr, if_pos ⟨hpre, h64, by rw [← hts]; exact h8, by rw [← hts]; exact hall⟩, ← hts]
        unfold splitE splitT
        rw [e]
        exact ⟨rfl, rfl⟩)
      have hno : Hid (¬ (ts.length ≤ 8 ∧ ts.all nameB = true) → splitE p = 41 ∧ splitT p = []) := Lib.hid (by
        intro h
        refine HN.out fun h2 => h ?_
        rw [hts]
        exact h2.2.2)
      have tl : ts.length ≤ 65 := by
        have := Lib.countB_le ⟨#[47]⟩ (by decide) _ r (Nat.le_refl _)
        omega
      have SP : Hid (∀ W m, W.cell? ⟨0, 0, none⟩ = some (.int .i64 m) → Calls Tryz.prog 85 #[.string r, .string ⟨#[47]⟩] W fun e w' => e = .returned (.slice (some ⟨W.heap.size, 0, none⟩) ts.length ts.length) ∧ OwnS W.heap.size w' (.slice (some ⟨W.heap.size, 0, none⟩) ts.length ts.length) ts ∧ Below W.heap.size W w') := Lib.hid fun W m hm => by
        have h := Tryz.strings_Split r ⟨#[47]⟩ m W (by omega) hm (by decide)
        rw [cn, sp] at h
        refine h.mono ?_
        rintro e w' ⟨rfl, rfl⟩
        refine ⟨rfl, ⟨by simp [cellsS], .inr ⟨W.heap.size, ts.length, (ts.map Value.string).toArray, rfl, Nat.le_refl _, Array.getElem?_push_size, Nat.le_refl _, by unfold maxLen; omega, by simp, by show List.take (ts.length * 1) (ts.map Value.string) = _; rw [Nat.mul_one, List.take_of_length_le (by simp)]; rfl⟩⟩, (Below.refl _ W).alloc (Nat.le_refl _) _⟩
      clear HN hrr rl rs hts cn sp
      go_wp2_with fail
      refine (CP.out w).mono ?_
      rintro e w1 ⟨rfl, rfl⟩
      go_wp2_with fail
      obtain ⟨m, hm⟩ := H.out
      refine (SP.out w1 m hm).mono ?_
      rintro e w2 ⟨rfl, own, hb⟩
      have O2 := Lib.hid own
      have B2 := Lib.hid hb
      clear own hb hm SP CP
      by_cases h8 : ts.length ≤ 8
      · have g8 : decide ((ts.length : Int) > 8) = false := decide_eq_false (by omega)
        have AN := Lib.hid (allNames_any _ ts w2 O2.out.strs)
        cases hall : ts.all nameB with
        | true =>
          rw [hall] at AN
          have hA := Lib.hid (hsome.out h8 hall)
          go_wp2_with fail
          refine AN.out.mono ?_
          rintro e w3 ⟨rfl, hb⟩
          have O3 := Lib.hid (O2.out.below hb)
          have B3 := Lib.hid (B2.out.trans (hb.mono B2.out.size))
          clear hb
          go_wp2_with fail
          go_ret2
          exact ⟨_, by rw [hA.out.1]; rfl, by rw [hA.out.2]; exact O3.out, B3.out⟩
        | false =>
          rw [hall] at AN
          have hA := Lib.hid (hno.out (by rw [hall]; simp))
          go_wp2_with fail
          refine AN.out.mono ?_
          rintro e w3 ⟨rfl, hb⟩
          have B3 := Lib.hid (B2.out.trans (hb.mono B2.out.size))
          clear hb
          go_wp2_with fail
          go_ret2
          exact ⟨.slice none 0 0, by rw [hA.out.1]; rfl, by rw [hA.out.2]; exact World.ownsRow_nil _ _ _ _, B3.out⟩
      · have g8 : decide ((ts.length : Int) > 8) = true := decide_eq_true (by omega)
        have hA := Lib.hid (hno.out (fun h => h8 h.1))
        go_wp2_with fail
        go_ret2
        exact ⟨.slice none 0 0, by rw [hA.out.1]; rfl, by rw [hA.out.2]; exact World.ownsRow_nil _ _ _ _, B2.out⟩
    · have g64 : decide ((p.size : Int) > 64) = true := decide_eq_true (by omega)
      have hA := Lib.hid (HN.out (fun h => h64 h.2.1))
      go_wp2_with fail
      refine (CP.out w).mono ?_
      rintro e w1 ⟨rfl, rfl⟩
      go_wp2_with fail
      go_ret2
      exact ⟨.slice none 0 0, by rw [hA.out.1]; rfl, by rw [hA.out.2]; exact World.ownsRow_nil _ _ _ _, Below.refl _ _⟩
/-- The names of a path that Join made. -/
theorem split_path (ts : List ByteArray) (h : ts.all nameB = true) (h8 : ts.length ≤ 8) (h64 : (pathL ts).length ≤ 64) : splitE (bytesOf (pathL ts)) = 0 ∧ splitT (bytesOf (pathL ts)) = ts := by
  cases ts with
  | nil => exact ⟨rfl, rfl⟩
  | cons t r =>
    have e : pathL (t :: r) = pathOf (t :: r) := rfl
    have ed : (bytesOf (pathL (t :: r))).data.toList = pathOf (t :: r) := by simp [bytesOf, e]
    have hp := pieces_path (t :: r) h (by simp)
    have hm : (pieces 47 (pathOf (t :: r)).tail).map bytesOf = t :: r := by
      rw [hp, List.map_map]
      conv => rhs; rw [← List.map_id (t :: r)]
      congr 1
    have hne : pathOf (t :: r) ≠ [47] := by
      intro h2
      rw [h2] at hm
      have ht := h
      rw [← hm] at ht
      exact absurd ht (by decide)
    have hs : (bytesOf (pathL (t :: r))).size ≤ 64 := by
      have : (bytesOf (pathL (t :: r))).size = (pathL (t :: r)).length := by simp [bytesOf, ByteArray.size]
      omega
    have hpf : Lib.hasPrefix (pathOf (t :: r)) [47] = true := by simp [pathOf, Lib.hasPrefix]
    have e : splitO (bytesOf (pathL (t :: r))) = some (t :: r) := by
      unfold splitO
      rw [ed, if_neg hne, hm, if_pos ⟨hpf, hs, h8, h⟩]
    unfold splitE splitT
    rw [e]
    exact ⟨rfl, rfl⟩
end Go.Proofs.YthdofbjijpghfaaGreatDoor.L
end S7

section S8
namespace Go.Proofs.YthdofbjijpghfaaGreatDoor.L
open Go.RowKit
/-- The path with these names. -/
def pth (ts : List ByteArray) : ByteArray := bytesOf (pathL ts)
def Good (ts : List ByteArray) : Prop := ts.all nameB = true ∧ ts.length ≤ 8 ∧ (pathL ts).length ≤ 64
theorem pth_data (ts : List ByteArray) : (pth ts).data.toList = pathL ts := by simp [pth, bytesOf]
theorem pth_size (ts : List ByteArray) : (pth ts).size = (pathL ts).length := by simp [pth, bytesOf, ByteArray.size]
theorem data_inj {s t : ByteArray} (h : s.data.toList = t.data.toList) : s = t := by rw [← bytesOf_data s, h, bytesOf_data]
theorem pathOf_cons (t : ByteArray) (r : List ByteArray) : pathOf (t :: r) = 47 :: (t.data.toList ++ pathOf r) := by simp [pathOf]
theorem pathOf_app (a b : List ByteArray) : pathOf (a ++ b) = pathOf a ++ pathOf b := by simp [pathOf]
theorem pathL_ne {ts : List ByteArray} (h : ts ≠ []) : pathL ts = pathOf ts := by unfold pathL; rw [if_neg h]
theorem pieces_back (l : List UInt8) : pathOf ((pieces 47 l).map bytesOf) = 47 :: l := by
  induction l with
  | nil => rfl
  | cons b l ih =>
    unfold pieces
    by_cases h : b = 47
    · rw [if_pos h, List.map_cons, pathOf_cons, ih, h]
      rfl
    · rw [if_neg h]
      cases hp : pieces 47 l with
      | nil => exact absurd hp (pieces_ne _ _)
      | cons p r =>
        rw [hp, List.map_cons, pathOf_cons] at ih
        rw [List.map_cons, pathOf_cons]
        simp only [List.headD_cons, List.tail_cons]
        have e : (bytesOf p).data.toList ++ pathOf (r.map bytesOf) = l := by simpa using ih
        rw [show (bytesOf (b :: p)).data.toList = b :: (bytesOf p).data.toList by simp [bytesOf], List.cons_append, e]
theorem splitO_some {p : ByteArray} {ts : List ByteArray} (h : splitO p = some ts) : p = pth ts ∧ Good ts := by
  unfold splitO at h
  split at h
  · cases h
    exact ⟨data_inj (by rw [pth_data]; assumption), rfl, by decide, by decide⟩
  · rename_i hr
    split at h
    · rename_i hc
      cases h
      obtain ⟨h1, h2, h3, h4⟩ := hc
      have hd : p.data.toList = 47 :: p.data.toList.tail := by
        cases hl : p.data.toList with
        | nil => rw [hl] at h1; cases h1
        | cons b l =>
          rw [hl] at h1
          have : b = 47 := by
            simp [Lib.hasPrefix] at h1
            exact h1.symm
          rw [this]
          rfl
      have hne : (pieces 47 p.data.toList.tail).map bytesOf ≠ [] := by
        intro e
        exact pieces_ne _ _ (List.map_eq_nil_iff.1 e)
      have e : pathL ((pieces 47 p.data.toList.tail).map bytesOf) = p.data.toList := by rw [pathL_ne hne, pieces_back]; exact hd.symm
      refine ⟨data_inj (by rw [pth_data, e]), h4, h3, ?_⟩
      rw [e]
      have : p.data.toList.length = p.size := by simp
      omega
    · cases h
theorem splitO_good {ts : List ByteArray} (h : Good ts) : splitO (pth ts) = some ts := by
  have := split_path ts h.1 h.2.1 h.2.2
  unfold splitE splitT at this
  change (if (splitO (pth ts)).isSome then (0 : Int) else 41) = 0 ∧ (splitO (pth ts)).getD [] = ts at this
  cases hs : splitO (pth ts) with
  | none => rw [hs] at this; exact absurd this.1 (by decide)
  | some us => rw [hs] at this; rw [← this.2]; rfl
theorem good_root : Good [] := ⟨rfl, by decide, by decide⟩
theorem name_pos {t : ByteArray} (h : nameB t = true) : 0 < t.data.toList.length := by
  unfold nameB at h
  simp only [Bool.and_eq_true, decide_eq_true_eq] at h
  simpa using h.1.1
theorem all_take {ts : List ByteArray} (h : ts.all nameB = true) (k : Nat) : (ts.take k).all nameB = true := by
  rw [List.all_eq_true] at h ⊢
  exact fun x hx => h x (List.mem_of_mem_take hx)
theorem pathOf_take_app (ts : List ByteArray) (k : Nat) : pathOf ts = pathOf (ts.take k) ++ pathOf (ts.drop k) := by rw [← pathOf_app, List.take_append_drop]
theorem pathOf_two {t : ByteArray} {r : List ByteArray} (h : nameB t = true) : 2 ≤ (pathOf (t :: r)).length := by
  rw [pathOf_cons, List.length_cons, List.length_append]
  have := name_pos h
  omega
theorem pathL_take {ts : List ByteArray} (h : ts.all nameB = true) (k : Nat) (hk : k < ts.length) : (pathL (ts.take k)).length < (pathL ts).length := by
  cases ts with
  | nil => simp at hk
  | cons t r =>
    have ht : nameB t = true := by rw [List.all_cons, Bool.and_eq_true] at h; exact h.1
    rw [pathL_ne (ts := t :: r) (by simp)]
    by_cases h0 : (t :: r).take k = []
    · rw [h0]
      have := pathOf_two (r := r) ht
      show 1 < _
      omega
    · rw [pathL_ne h0, pathOf_take_app (t :: r) k, List.length_append]
      have hd : (t :: r).drop k ≠ [] := by
        intro e
        have := congrArg List.length e
        rw [List.length_drop, List.length_nil] at this
        omega
      cases hdd : (t :: r).drop k with
      | nil => exact absurd hdd hd
      | cons u s => rw [pathOf_cons, List.length_cons]; omega
theorem Good.take {ts : List ByteArray} (h : Good ts) (k : Nat) : Good (ts.take k) := by
  refine ⟨all_take h.1 k, by rw [List.length_take]; have := h.2.1; omega, ?_⟩
  by_cases hk : k < ts.length
  · have := pathL_take h.1 k hk
    have := h.2.2
    omega
  · rw [List.take_of_length_le (by omega)]
    exact h.2.2
theorem pieces_cons (c b : UInt8) (l : List UInt8) : pieces c (b :: l) = if b = c then [] :: pieces c l else (b :: (pieces c l).headD []) :: (pieces c l).tail := rfl
theorem pieces_more (c : UInt8) (x l : List UInt8) : pieces c (x ++ c :: l) = pieces c x ++ pieces c l := by
  induction x with
  | nil =>
    rw [List.nil_append, pieces_cons, if_pos rfl]
    rfl
  | cons b x ih =>
    rw [List.cons_append, pieces_cons, pieces_cons]
    by_cases h : b = c
    · rw [if_pos h, if_pos h, ih]
      rfl
    · rw [if_neg h, if_neg h, ih]
      cases hp : pieces c x with
      | nil => exact absurd hp (pieces_ne _ _)
      | cons p r => rfl
theorem map_data_inj {a b : List ByteArray} (h : a.map (·.data.toList) = b.map (·.data.toList)) : a = b := by
  have := congrArg (List.map bytesOf) h
  rw [List.map_map, List.map_map] at this
  have e : (bytesOf ∘ fun x : ByteArray => x.data.toList) = id := by funext x; exact bytesOf_data x
  rwa [e, List.map_id, List.map_id] at this
/-- What Under asks of two texts. -/
def underB (a b : ByteArray) : Bool :=
  (splitO a).isSome && (splitO b).isSome && (decide (a.data.toList = b.data.toList) || decide (b.data.toList = [47]) || Lib.hasPrefix a.data.toList (b.data.toList ++ [47]))
theorem under_line {ts : List ByteArray} (hg : Good ts) (b : ByteArray) : underB (pth ts) b = true ↔ ∃ k, k ≤ ts.length ∧ b = pth (ts.take k) := by
  constructor
  · intro h
    unfold underB at h
    rw [splitO_good hg] at h
    simp only [Option.isSome_some, Bool.true_and, Bool.and_eq_true, Bool.or_eq_true, decide_eq_true_eq] at h
    obtain ⟨hb, h⟩ := h
    cases hs : splitO b with
    | none => rw [hs] at hb; cases hb
    | some us =>
      obtain ⟨rfl, hu⟩ := splitO_some hs
      rcases h with (h | h) | h
      · exact ⟨ts.length, Nat.le_refl _, by rw [List.take_length]; exact data_inj h.symm⟩
      · exact ⟨0, Nat.zero_le _, data_inj (by rw [h, pth_data]; rfl)⟩
      · rw [pth_data, pth_data] at h
        by_cases h0 : us = []
        · subst h0
          exact ⟨0, Nat.zero_le _, rfl⟩
        · rw [pathL_ne h0] at h
          have hts : ts ≠ [] := by
            intro e
            subst e
            cases us with
            | nil => exact h0 rfl
            | cons u r =>
              rw [pathOf_cons] at h
              unfold Lib.hasPrefix at h
              rw [List.isPrefixOf_iff_prefix] at h
              have := h.length_le
              rw [List.cons_append, List.length_cons, List.length_append, List.length_append] at this
              have := name_pos (show nameB u = true by have := hu.1; rw [List.all_cons, Bool.and_eq_true] at this; exact this.1)
              have e1 : (pathL []).length = 1 := rfl
              omega
          rw [pathL_ne hts] at h
          unfold Lib.hasPrefix at h
          rw [List.isPrefixOf_iff_prefix] at h
          obtain ⟨r, hr⟩ := h
          have e1 : (pathOf ts).tail = (pathOf us).tail ++ 47 :: r := by
            rw [← hr]
            cases us with
            | nil => exact absurd rfl h0
            | cons u us => rw [pathOf_cons]; simp
          have e2 := pieces_path ts hg.1 hts
          rw [e1, pieces_more, pieces_path us hu.1 h0] at e2
          have e3 : us.map (·.data.toList) = (ts.take us.length).map (·.data.toList) := by
            rw [List.map_take, ← e2]
            rw [List.take_left' (by simp)]
          refine ⟨us.length, ?_, by rw [← map_data_inj e3]⟩
          have := congrArg List.length e2
          rw [List.length_append, List.length_map, List.length_map] at this
          omega
  · rintro ⟨k, hk, rfl⟩
    unfold underB
    rw [splitO_good hg, splitO_good (hg.take k), pth_data, pth_data]
    simp only [Option.isSome_some, Bool.true_and, Bool.or_eq_true, decide_eq_true_eq]
    by_cases hlt : k < ts.length
    · by_cases h0 : ts.take k = []
      · exact Or.inl (Or.inr (by rw [h0]; rfl))
      · refine Or.inr ?_
        have hts : ts ≠ [] := by intro e; subst e; simp at h0
        rw [pathL_ne h0, pathL_ne hts, pathOf_take_app ts k]
        unfold Lib.hasPrefix
        rw [List.isPrefixOf_iff_prefix]
        cases hdd : ts.drop k with
        | nil =>
          have := congrArg List.length hdd
          rw [List.length_drop, List.length_nil] at this
          omega
        | cons u s => exact ⟨u.data.toList ++ pathOf s, by rw [pathOf_cons]; simp⟩
    · rw [List.take_of_length_le (by omega)]
      exact Or.inl (Or.inl rfl)
theorem under_up {ts : List ByteArray} (hg : Good ts) {k : Nat} (hk : k < ts.length) : underB (pth (ts.take k)) (pth ts) = false := by
  have hl := pathL_take hg.1 k hk
  have h2 : 2 ≤ (pathL ts).length := by
    have : 1 ≤ (pathL (ts.take k)).length := by
      unfold pathL
      split
      · decide
      · cases h : ts.take k with
        | nil => exact absurd h ‹_›
        | cons u s => rw [pathOf_cons]; simp
    omega
  unfold underB
  rw [pth_data, pth_data]
  have n1 : ¬ pathL (ts.take k) = pathL ts := fun e => by rw [e] at hl; omega
  have n2 : ¬ pathL ts = [47] := fun e => by rw [e] at h2; exact absurd h2 (by decide)
  have n3 : Lib.hasPrefix (pathL (ts.take k)) (pathL ts ++ [47]) = false := by
    unfold Lib.hasPrefix
    rw [Bool.eq_false_iff]
    intro h
    rw [List.isPrefixOf_iff_prefix] at h
    have := h.length_le
    rw [List.length_append] at this
    omega
  rw [decide_eq_false n1, decide_eq_false n2, n3]
  simp
theorem under_none {a b : ByteArray} (h : splitO a = none) : underB a b = false ∧ underB b a = false := by
  unfold underB
  rw [h]
  simp
/-- Where the last slash of a path stands. -/
theorem last_slash {ts : List ByteArray} (hg : ts.all nameB = true) (h : ts ≠ []) : Lib.lastIndexByte (pth ts) 47 = (pathOf ts.dropLast).length := by
  obtain ⟨t, ht⟩ : ∃ t, t = ts.getLast h := ⟨_, rfl⟩
  have hd : pathL ts = pathOf ts.dropLast ++ 47 :: t.data.toList := by
    rw [pathL_ne h]
    conv => lhs; rw [← List.dropLast_concat_getLast h]
    rw [pathOf_app, ← ht, pathOf_cons]
    simp [pathOf]
  have hnm : nameB t = true := by rw [List.all_eq_true] at hg; exact hg t (by rw [ht]; exact List.getLast_mem h)
  have hfree := name_free hnm
  have hs : (pth ts).size = (pathOf ts.dropLast).length + 1 + t.data.toList.length := by rw [pth_size, hd, List.length_append, List.length_cons]; omega
  have hat : ∀ j : Nat, ((pth ts).data[j]!) = (pathL ts)[j]! := by
    intro j
    have : (pth ts).data = (pathL ts).toArray := rfl
    rw [this]
    simp
  have hn : ((pth ts).data[(pathOf ts.dropLast).length]!) = 47 := by
    rw [hat, hd]
    simp
  have hbeh : ∀ j : Nat, (pathOf ts.dropLast).length < j → j < (pth ts).size → ((pth ts).data[j]!) ≠ 47 := by
    intro j h1 h2 h3
    rw [hat, hd] at h3
    apply hfree
    have hj : j - ((pathOf ts.dropLast).length + 1) < t.data.toList.length := by omega
    have e : (pathOf ts.dropLast ++ 47 :: t.data.toList)[j]! = t.data.toList[j - ((pathOf ts.dropLast).length + 1)]'hj := by
      have hlen : j < (pathOf ts.dropLast ++ 47 :: t.data.toList).length := by rw [List.length_append, List.length_cons]; omega
      rw [getElem!_pos _ j hlen, List.getElem_append_right (by omega)]
      obtain ⟨m, hm⟩ : ∃ m, j - (pathOf ts.dropLast).length = m + 1 := ⟨j - (pathOf ts.dropLast).length - 1, by omega⟩
      simp only [hm, List.getElem_cons_succ]
      congr 1
      omega
    rw [e] at h3
    rw [← h3]
    exact List.getElem_mem hj
  rcases Lib.lastIndexByte_spec (pth ts) 47 with ⟨_, hno⟩ | ⟨i, hi, e, hc, hno⟩
  · exact absurd (by rw [hn]; rfl) (hno (pathOf ts.dropLast).length (by omega))
  · rw [e]
    rcases Nat.lt_trichotomy i (pathOf ts.dropLast).length with h1 | h1 | h1
    · exact absurd (by rw [hn]; rfl) (hno _ h1 (by omega))
    · rw [h1]
    · have := hbeh i h1 hi
      have h9 : ((pth ts).data[i]!).toNat = 47 := by omega
      exact absurd (UInt8.toNat_inj.1 (h9.trans rfl)) this
theorem above_bytes {ts : List ByteArray} (h : ts ≠ []) : (pth ts).extract 0 (max (pathOf ts.dropLast).length 1) = pth ts.dropLast := by
  apply data_inj
  rw [Lib.extract_from_zero, pth_data, pth_data]
  have hd : pathL ts = pathOf ts.dropLast ++ 47 :: (ts.getLast h).data.toList := by
    rw [pathL_ne h]
    conv => lhs; rw [← List.dropLast_concat_getLast h]
    rw [pathOf_app, pathOf_cons]
    simp [pathOf]
  rw [hd]
  by_cases h0 : ts.dropLast = []
  · rw [h0]
    rfl
  · rw [pathL_ne h0]
    have : 1 ≤ (pathOf ts.dropLast).length := by
      cases hh : ts.dropLast with
      | nil => exact absurd hh h0
      | cons u s => rw [pathOf_cons]; simp
    rw [show max (pathOf ts.dropLast).length 1 = (pathOf ts.dropLast).length by omega, List.take_left]
end Go.Proofs.YthdofbjijpghfaaGreatDoor.L
end S8

section S9
namespace Go.Proofs.YthdofbjijpghfaaGreatDoor.L
open Go.RowKit
set_option maxHeartbeats 2000000 in
theorem path_any (p : ByteArray) (w : World) (hm : HasM w) : Calls Tryz.prog 33 #[.string p] w fun e w' => e = .returned (.int .i64 (splitE p)) ∧ Below w.heap.size w w' := by
  have H := Lib.hid hm
  clear hm
  go_enter Tryz.func33, Tryz.ntmps33
  go_wp2_with fail
  refine (split_any p w H.out).mono ?_
  rintro e w1 ⟨v, rfl, _, hb⟩
  have B1 := Lib.hid hb
  clear hb
  go_wp2_with fail
  go_ret
  exact ⟨rfl, B1.out⟩
set_option maxHeartbeats 2000000 in
theorem above_any (ts : List ByteArray) (hg : Good ts) (h : ts ≠ []) (w : World) : Calls Tryz.prog 55 #[.string (pth ts)] w fun e w' => e = .returned (.string (pth ts.dropLast)) ∧ w' = w := by
  have hl := last_slash hg.1 h
  have he := above_bytes h
  have hs := pth_size ts
  have h64 := hg.2.2
  have hle : (pathOf ts.dropLast).length ≤ (pth ts).size := by
    rw [hs, pathL_ne h]
    conv => rhs; rw [← List.dropLast_concat_getLast h]
    rw [pathOf_app, List.length_append]
    omega
  have hs1 : 1 ≤ (pth ts).size := by
    rw [hs, pathL_ne h]
    cases ts with
    | nil => exact absurd rfl h
    | cons t r => rw [pathOf_cons]; simp
  obtain ⟨q, hq⟩ : ∃ q, q = pth ts := ⟨_, rfl⟩
  obtain ⟨n, hn⟩ : ∃ n, n = (pathOf ts.dropLast).length := ⟨_, rfl⟩
  obtain ⟨r, hr⟩ : ∃ r, r = pth ts.dropLast := ⟨_, rfl⟩
  rw [← hq] at hl he hs hle hs1 ⊢
  rw [← hn] at hl he hle
  rw [← hr] at he ⊢
  have hq64 : q.size ≤ 64 := by omega
  clear hq hn hr hs h64
  have LI : Hid (∀ W, Calls Tryz.prog 87 #[.string q, .string ⟨#[47]⟩] W fun e w' => e = .returned (.int .i64 (n : Int)) ∧ w' = W) := Lib.hid fun W => by
    have := Tryz.strings_LastIndex_one q ⟨#[47]⟩ (by decide) (by omega) W
    rw [show Lib.lastIndexByte q (((⟨#[47]⟩ : ByteArray)[0]'(by decide)).toNat : Int) = n from hl] at this
    exact this
  have HE := Lib.hid he
  clear hl he
  go_enter Tryz.func55, Tryz.ntmps55
  go_wp2_with fail
  refine (LI.out w).mono ?_
  rintro e w1 ⟨rfl, rfl⟩
  go_wp2_with fail
  go_ret
  refine ⟨?_, rfl⟩
  show Ending.returned (.string (q.extract 0 (max (n : Int) 1).toNat)) = _
  rw [show (max (n : Int) 1).toNat = max n 1 by omega, HE.out]
/-- The line of a path: it, and all above it. -/
def lineTo (ts : List ByteArray) (m : Nat) : List ByteArray := (List.range m).map fun j => pth (ts.take (ts.length - j))
def lineOf (ts : List ByteArray) : List ByteArray := lineTo ts (ts.length + 1)
theorem lineTo_succ (ts : List ByteArray) (m : Nat) : lineTo ts (m + 1) = lineTo ts m ++ [pth (ts.take (ts.length - m))] := by
  unfold lineTo
  rw [List.range_succ, List.map_append]
  rfl
theorem lineTo_length (ts : List ByteArray) (m : Nat) : (lineTo ts m).length = m := by simp [lineTo]
theorem pth_root {ts : List ByteArray} (hg : Good ts) (h : ts ≠ []) : ((pth ts).toList == [47]) = false := by
  rw [list_of_bytes, pth_data, pathL_ne h, beq_eq_false_iff_ne]
  cases ts with
  | nil => exact absurd rfl h
  | cons t r =>
    intro e
    have h2 := pathOf_two (r := r) (show nameB t = true by have := hg.1; rw [List.all_cons, Bool.and_eq_true] at this; exact this.1)
    rw [e] at h2
    exact absurd h2 (by decide)
theorem dropLast_take (ts : List ByteArray) (k : Nat) (hk : k + 1 ≤ ts.length) : (ts.take (k + 1)).dropLast = ts.take k := by
  rw [List.dropLast_eq_take, List.length_take, List.take_take]
  congr 1
  omega
set_option maxHeartbeats 4000000 in
set_option maxRecDepth 100000 in
theorem line_any (ts : List ByteArray) (hg : Good ts) (w : World) (hm : HasM w) :
    Calls Tryz.prog 36 #[.string (pth ts)] w fun e w' => ∃ v, e = .returned (.tuple #[v, .int .i64 0]) ∧ OwnS w.heap.size w' v (lineOf ts) ∧ Below w.heap.size w w' := by
  have PA := Lib.hid (path_any (pth ts) w hm)
  rw [show splitE (pth ts) = 0 by unfold splitE; rw [splitO_good hg]; rfl] at PA
  have GG := Lib.hid hg
  have h8 := hg.2.1
  obtain ⟨q, hq⟩ : ∃ q, q = pth ts := ⟨_, rfl⟩
  have Q : Aside (q = pth ts) := hq
  rw [← hq] at PA ⊢
  clear hm hg hq
  go_enter Tryz.func36, Tryz.ntmps36
  go_wp2_with fail
  refine PA.out.mono ?_
  rintro e w1 ⟨rfl, hb⟩
  have B1 := Lib.hid hb
  clear hb PA
  go_wp2_with fail
  go_loopg [0, 5] ts.length (fun g sp sl wr => ∃ (k : Nat) (vl : Value), k ≤ ts.length ∧ g = k ∧ sp = .string (pth (ts.take k)) ∧ sl = vl ∧ OwnS w.heap.size wr vl (lineTo ts (ts.length - k)) ∧ Below w.heap.size w wr)
  case atStart => exact ⟨ts.length, _, Nat.le_refl _, rfl, by rw [List.take_length, Q.out], rfl, by rw [Nat.sub_self]; exact World.ownsRow_nil _ _ _ _, B1.out⟩
  case round =>
    obtain ⟨k, vl, hk, hgk, rfl, rfl, own, hb⟩ := hrel
    have O := Lib.hid own
    have B := Lib.hid hb
    have GK := Lib.hid hgk
    clear own hb hgk
    cases k with
    | zero =>
      have e0 : pth (ts.take 0) = ⟨#[47]⟩ := rfl
      rw [e0]
      have L : Hid (((lineTo ts (ts.length - 0)).length + 1) * 16 ≤ 140737488355328) := Lib.hid (by rw [lineTo_length]; omega)
      go_wp2_with (at_builtin; refine app_txt rfl _ _ rfl rfl O.out B.out.size ⟨#[47]⟩ rfl L.out ?_)
      intro v' w' h1 h2
      have B2 := Lib.hid (B.out.trans ((Below.refl _ _).grown h2 B.out.size (fun k hk => (O.out.lt k hk).1)))
      have O2 : Hid (OwnS w.heap.size w' v' (lineOf ts)) := Lib.hid (by
        unfold lineOf
        rw [lineTo_succ, Nat.sub_self]
        exact h1)
      clear h1 h2 O B L
      go_wp2_with fail
      go_ret2
      exact ⟨v', rfl, O2.out, B2.out⟩
    | succ k =>
      have hgk := GG.out.take (k + 1)
      have hne : ts.take (k + 1) ≠ [] := by
        intro e
        have := congrArg List.length e
        rw [List.length_take, List.length_nil] at this
        omega
      have hr := pth_root hgk hne
      have AB : Hid (∀ W, Calls Tryz.prog 55 #[.string (pth (ts.take (k + 1)))] W fun e w' => e = .returned (.string (pth (ts.take k))) ∧ w' = W) := Lib.hid fun W => by
        have := above_any (ts.take (k + 1)) hgk hne W
        rw [dropLast_take ts k hk] at this
        exact this
      have L : Hid (((lineTo ts (ts.length - (k + 1))).length + 1) * 16 ≤ 140737488355328) := Lib.hid (by rw [lineTo_length]; omega)
      obtain ⟨x, hx⟩ : ∃ x, x = pth (ts.take (k + 1)) := ⟨_, rfl⟩
      have X : Aside (x = pth (ts.take (k + 1))) := hx
      rw [← hx] at hr AB ⊢
      clear hx hgk hne
      go_wp2_with (at_builtin; refine app_txt rfl _ _ rfl rfl O.out B.out.size x rfl L.out ?_)
      intro v' w' h1 h2
      have B2 := Lib.hid (B.out.trans ((Below.refl _ _).grown h2 B.out.size (fun k hk => (O.out.lt k hk).1)))
      have O2 : Hid (OwnS w.heap.size w' v' (lineTo ts (ts.length - k))) := Lib.hid (by
        rw [show ts.length - k = ts.length - (k + 1) + 1 by omega, lineTo_succ, show ts.length - (ts.length - (k + 1)) = k + 1 by omega, ← X.out]
        exact h1)
      clear h1 h2 O B L
      go_wp2_with fail
      refine (AB.out w').mono ?_
      rintro e w2 ⟨rfl, rfl⟩
      go_wp2_with fail
      go_roundg k
      case measure => have := GK.out; omega
      case rel => exact ⟨k, _, by omega, rfl, rfl, rfl, O2.out, B2.out⟩
end Go.Proofs.YthdofbjijpghfaaGreatDoor.L
end S9
