/-
  THE WALKS of the laws hands: same, own, lay, take.
-/
import Derived.Test.YtmabmmmiljkeeaaRd
namespace Go.Proofs.Ytmabmmmiljkeeaa
open Go.RowKit

theorem txt_inj {l m : List UInt8} (h : txt l = txt m) : l = m := by rw [← txt_list l, h, txt_list]
theorem txt_beq (l m : List UInt8) : ((txt l).toList == (txt m).toList) = decide (l = m) := by
  rw [ByteArray.toList_eq, ByteArray.toList_eq, txt_list, txt_list, Bool.eq_iff_iff]; simp

set_option maxHeartbeats 400000 in
theorem same_any (v v' : Value) (l m : List UInt8) (w : World) (hv : Bytes w v l) (hv' : Bytes w v' m) :
    Calls Try.prog 15 #[v, v'] w fun e w' => e = .returned (.bool (decide (l = m))) ∧ w' = w := by
  have h1 := convT hv
  have h2 := convT hv'
  go_enter Try.func15, Try.ntmps15
  go_wp2
  go_ret
  exact ⟨congrArg (fun b => Ending.returned (.bool b)) (txt_beq l m), rfl⟩

set_option maxHeartbeats 1000000 in
theorem own_any (v : Value) (l : List UInt8) (w : World) (hv : Bytes w v l) (hl : l.length ≤ 140737488355328) :
    Calls Try.prog 13 #[v] w fun e w' => ∃ v', e = .returned v' ∧ Own w.heap.size w' v' l ∧ Below w.heap.size w w' := by
  have V : Aside (Bytes w v l) := hv
  obtain ⟨a, cap, rfl, hlc, hcm, _, hc⟩ := hv
  unfold maxLen at hcm
  have Hc : Aside (∀ k, k < l.length → ∃ b off, a = some ⟨b, off, none⟩ ∧ w.cell? ⟨b, off + k, none⟩ = some (.int .u8 (c8 (l.getD k 0)))) := hc
  clear hc
  go_enter Try.func13, Try.ntmps13
  go_wp2_with fail
  go_loopg [3, 4] l.length (fun g so si wr => ∃ (k : Nat) (vo : Value), k ≤ l.length ∧ g = l.length - k ∧ si = .int .i64 k ∧ vo = so ∧ Own w.heap.size wr vo (l.take k) ∧ Below w.heap.size w wr)
  case atStart => exact ⟨0, _, Nat.zero_le _, rfl, rfl, rfl, World.ownsRow_nil _ _ _ _, Below.refl _ _⟩
  case round =>
    obtain ⟨k, vo, hk, hg, rfl, rfl, ho, hb⟩ := hrel
    have R : Aside (gk = l.length - k ∧ Below w.heap.size w wr) := ⟨hg, hb⟩
    have O : Hid (Own w.heap.size wr vo (l.take k)) := ho
    have S : Hid (w.heap.size ≤ wr.heap.size) := hb.size
    clear hg ho
    by_cases hlt : k < l.length
    · obtain ⟨b, off, rfl, hcell⟩ := Hc.out k hlt
      rw [← hb.cell (p := ⟨b, off + k, none⟩) (block_lt_of_cell hcell)] at hcell
      clear hb
      obtain ⟨c, hcc⟩ : ∃ c, c = l.getD k 0 := ⟨_, rfl⟩
      rw [← hcc] at hcell
      have C : Aside (c = l.getD k 0) := hcc
      clear hcc
      go_wp2_with (at_builtin; refine app_byte rfl _ _ rfl rfl O.out S.out _ c ?hn rfl ?hl ?_)
      case hn => rfl
      case hl => rw [List.length_take]; omega
      intro v' w' h1 h2 _
      have A : Aside (Own w.heap.size w' v' (l.take k ++ [c]) ∧ Below w.heap.size w w') := ⟨h1, R.out.2.trans (grown_below h2 O.out S.out)⟩
      clear h1 h2 O S
      go_wp2_with fail
      go_roundg (l.length - (k + 1))
      case measure => have := R.out.1; omega
      case rel => exact ⟨k + 1, v', by omega, rfl, by go_num, rfl, by rw [take_one l k 0 hlt, ← C.out]; exact A.out.1, A.out.2⟩
    · clear hb
      go_wp2_with fail
      go_ret
      refine ⟨_, rfl, ?_, R.out.2⟩
      have := O.out; rw [List.take_of_length_le (by omega)] at this; exact this

/-- A value. -/
structure V where
  k : Int
  u : Nat
  i : Int
  s : ByteArray
def V.agg (x : V) : Value := .agg #[.int .i64 x.k, .int .u64 x.u, .int .i64 x.i, .string x.s]
def V.cells (x : V) : List Value := [.int .i64 x.k, .int .u64 x.u, .int .i64 x.i, .string x.s]
/-- What fits its kind and no text is too long for a slice. -/
def V.fits (x : V) : Prop := (-9223372036854775808 ≤ x.k ∧ x.k < 9223372036854775808) ∧ x.u < 18446744073709551616 ∧ (-9223372036854775808 ≤ x.i ∧ x.i < 9223372036854775808) ∧ x.s.size ≤ 140737488355328
def WS.put (s : WS) (x : V) : WS :=
  if x.k = 0 then s.lay (form x.u) else if x.k = 1 then s.lay (form (zig x.i)) else if x.k = 2 then s.lay [if x.i ≠ 0 then 1 else 0]
  else if x.k = 3 then s.lay [UInt8.ofNat x.u] else if x.k = 4 then s.lay (form x.s.size ++ x.s.data.toList) else if x.k = 5 then s.count x.i else s

set_option maxHeartbeats 2000000 in
theorem lay_any (B g : Nat) (v : Value) (s : WS) (x : V) (w : World) (hx : x.fits) (H : WAt B w g v s) :
    Calls Try.prog 24 #[.pointer (some ⟨g, 0, none⟩), x.agg] w fun e w' => e = .returned (.tuple #[]) ∧ Laid B g v (s.put x) w w' := by
  obtain ⟨k, u, i, t⟩ := x
  obtain ⟨⟨k0, k1⟩, hu, ⟨i0, i1⟩, ht⟩ := hx
  simp only at k0 k1 hu i0 i1 ht
  unfold V.agg
  simp only
  have V : Aside (WAt B w g v s) := H
  clear H
  have hb : Below w.heap.size w (w.alloc (.cells #[.int .i64 k, .int .u64 u, .int .i64 i, .string t] 43)) := (Below.refl _ _).alloc (Nat.le_refl _) _
  have V1 : Aside (WAt B (w.alloc (.cells #[.int .i64 k, .int .u64 u, .int .i64 i, .string t] 43)) g v s) := V.out.below hb
  have HB : Aside (Below w.heap.size w (w.alloc (.cells #[.int .i64 k, .int .u64 u, .int .i64 i, .string t] 43))) := hb
  clear hb
  go_enter Try.func24, Try.ntmps24
  by_cases e0 : k = 0
  · have U : Aside (s.put ⟨k, u, i, t⟩ = s.lay (form u)) := by unfold WS.put; rw [if_pos e0]; rfl
    subst e0
    go_wp2_with fail
    refine (wUint_any B g v s u _ hu V1.out).mono ?_
    rintro e w2 ⟨rfl, hl⟩
    have L : Aside (Laid B g v (s.lay (form u)) w w2) := Laid.after HB.out hl V.out
    clear hl
    go_wp2_with fail
    first | go_end0 | refine bodyPost_ret (results_none rfl _ _ _) rfl ?_
    exact ⟨rfl, by rw [U.out]; exact L.out⟩
  by_cases e1 : k = 1
  · have U : Aside (s.put ⟨k, u, i, t⟩ = s.lay (form (zig i))) := by unfold WS.put; rw [if_neg e0, if_pos e1]; rfl
    subst e1
    clear e0
    go_wp2_with fail
    refine (wInt_any B g v s i _ i0 i1 V1.out).mono ?_
    rintro e w2 ⟨rfl, hl⟩
    have L : Aside (Laid B g v (s.lay (form (zig i))) w w2) := Laid.after HB.out hl V.out
    clear hl
    go_wp2_with fail
    first | go_end0 | refine bodyPost_ret (results_none rfl _ _ _) rfl ?_
    exact ⟨rfl, by rw [U.out]; exact L.out⟩
  by_cases e2 : k = 2
  · have U : Aside (s.put ⟨k, u, i, t⟩ = s.lay [if i ≠ 0 then 1 else 0]) := by unfold WS.put; rw [if_neg e0, if_neg e1, if_pos e2]; rfl
    subst e2
    clear e0 e1
    go_wp2_with fail
    refine (wBool_any B g v s (i != 0) _ V1.out).mono ?_
    rintro e w2 ⟨rfl, hl⟩
    have L : Aside (Laid B g v (s.lay [if (i != 0) = true then 1 else 0]) w w2) := Laid.after HB.out hl V.out
    clear hl
    go_wp2_with fail
    first | go_end0 | refine bodyPost_ret (results_none rfl _ _ _) rfl ?_
    refine ⟨rfl, ?_⟩
    rw [U.out]
    have := L.out
    simpa using this
  by_cases e3 : k = 3
  · have U : Aside (s.put ⟨k, u, i, t⟩ = s.lay [UInt8.ofNat u]) := by unfold WS.put; rw [if_neg e0, if_neg e1, if_neg e2, if_pos e3]; rfl
    subst e3
    clear e0 e1 e2
    obtain ⟨c, hc⟩ : ∃ c, c = UInt8.ofNat u := ⟨_, rfl⟩
    have C : Aside (c8 c = (u : Int) % 256) := by unfold c8; rw [hc, UInt8.toNat_ofNat']; show _ = _; omega
    rw [← hc] at U
    clear hc
    go_wp2_with fail
    refine (wByte_eq (n := _) (c := c) ?hn B g v s _ V1.out).mono ?_
    case hn => rw [C.out]
    rintro e w2 ⟨rfl, hl⟩
    have L : Aside (Laid B g v (s.lay [c]) w w2) := Laid.after HB.out hl V.out
    clear hl
    go_wp2_with fail
    first | go_end0 | refine bodyPost_ret (results_none rfl _ _ _) rfl ?_
    exact ⟨rfl, by rw [U.out]; exact L.out⟩
  by_cases e4 : k = 4
  · have U : Aside (s.put ⟨k, u, i, t⟩ = s.lay (form t.size ++ t.data.toList)) := by unfold WS.put; rw [if_neg e0, if_neg e1, if_neg e2, if_neg e3, if_pos e4]; rfl
    subst e4
    clear e0 e1 e2 e3
    go_wp2_with fail
    refine (wText_any B g v s t _ ht V1.out).mono ?_
    rintro e w2 ⟨rfl, hl⟩
    have L : Aside (Laid B g v (s.lay (form t.size ++ t.data.toList)) w w2) := Laid.after HB.out hl V.out
    clear hl
    go_wp2_with fail
    first | go_end0 | refine bodyPost_ret (results_none rfl _ _ _) rfl ?_
    exact ⟨rfl, by rw [U.out]; exact L.out⟩
  by_cases e5 : k = 5
  · have U : Aside (s.put ⟨k, u, i, t⟩ = s.count i) := by unfold WS.put; rw [if_neg e0, if_neg e1, if_neg e2, if_neg e3, if_neg e4, if_pos e5]; rfl
    subst e5
    clear e0 e1 e2 e3 e4
    go_wp2_with fail
    refine (wCount_any B g v s i _ V1.out).mono ?_
    rintro e w2 ⟨rfl, hl⟩
    have L : Aside (Laid B g v (s.count i) w w2) := Laid.after HB.out hl V.out
    clear hl
    go_wp2_with fail
    first | go_end0 | refine bodyPost_ret (results_none rfl _ _ _) rfl ?_
    exact ⟨rfl, by rw [U.out]; exact L.out⟩
  · have U : Aside (s.put ⟨k, u, i, t⟩ = s) := by unfold WS.put; rw [if_neg e0, if_neg e1, if_neg e2, if_neg e3, if_neg e4, if_neg e5]; rfl
    go_wp2_with fail
    first | go_end0 | refine bodyPost_ret (results_none rfl _ _ _) rfl ?_
    exact ⟨rfl, by rw [U.out]; exact Laid.same V.out (Below.kept HB.out _)⟩
end Go.Proofs.Ytmabmmmiljkeeaa
