/-
  THE WALKS: NewWriter, lay, Uint, Int, Bool, Byte, Text, Count, Len, Err, Out.
-/
import Derived.Test.YtlbnmafopfljcaaDoorNum
import Derived.Lib.SliceRun
namespace Go.Proofs.YtlbnmafopfljcaaDoor
open Go.RowKit

/-- A writers state: what is laid, the limit, the error. -/
structure WS where
  l : List UInt8
  lim : Nat
  e : Nat
def WS.lay (s : WS) (f : List UInt8) : WS := if s.e = 0 then (if s.l.length + f.length ≤ s.lim then { s with l := s.l ++ f } else { s with e := 23 }) else s
def WS.ok (s : WS) : Prop := s.l.length ≤ s.lim ∧ s.lim ≤ 1048576 ∧ s.e < 256
theorem WS.ok.lay {s : WS} (h : s.ok) (f : List UInt8) : (s.lay f).ok := by
  unfold WS.lay
  obtain ⟨h1, h2, h3⟩ := h
  split
  · split
    · refine ⟨?_, h2, h3⟩; simp; omega
    · exact ⟨h1, h2, by simp⟩
  · exact ⟨h1, h2, h3⟩
/-- The writer at block g, its bytes in the slice v. -/
def WAt (B : Nat) (w : World) (g : Nat) (v : Value) (s : WS) : Prop :=
  B ≤ g ∧ w.heap[g]? = some (.cells #[v, .int .i64 s.lim, .int .i64 s.e] 105 (0, 0)) ∧ Own B w v s.l ∧ s.ok
/-- The blocks of a writer. -/
def WF (g : Nat) (v : Value) (k : Nat) : Prop := k = g ∨ some k = v.ownBlock

theorem WAt.lt {B : Nat} {w : World} {g : Nat} {v : Value} {s : WS} (h : WAt B w g v s) : g < w.heap.size := by
  rcases Nat.lt_or_ge g w.heap.size with q | q
  · exact q
  · have := h.2.1; rw [Array.getElem?_eq_none q] at this; simp at this
theorem WAt.foot {B : Nat} {w : World} {g : Nat} {v : Value} {s : WS} (h : WAt B w g v s) (k : Nat) (hk : WF g v k) : B ≤ k ∧ k < w.heap.size := by
  rcases hk with rfl | hk
  · exact ⟨h.1, h.lt⟩
  · exact h.2.2.1.lt k hk.symm
theorem WAt.apart {B : Nat} {w : World} {g : Nat} {v : Value} {s : WS} (h : WAt B w g v s) : v.ownBlock ≠ some g := by
  obtain ⟨_, hg, ⟨_, ⟨hv, _⟩ | ⟨g', cap, cur, hv, hB, hg', _⟩⟩, _⟩ := h
  · subst hv; simp [Value.ownBlock]
  · subst hv
    intro e
    simp only [Value.ownBlock, Option.some.injEq] at e
    rw [e, hg] at hg'
    simp at hg'
theorem WAt.kept {B : Nat} {F : Nat → Prop} {w w' : World} {g : Nat} {v : Value} {s : WS} (h : WAt B w g v s) (hk : Kept F w w') (hF : ∀ k, WF g v k → ¬ F k) : WAt B w' g v s :=
  ⟨h.1, by rw [hk.block g h.lt (hF g (Or.inl rfl))]; exact h.2.1, h.2.2.1.kept hk (fun k hk' => hF k (Or.inr hk'.symm)), h.2.2.2⟩
theorem WAt.below {B : Nat} {w w' : World} {g : Nat} {v : Value} {s : WS} (h : WAt B w g v s) (hk : Below w.heap.size w w') : WAt B w' g v s :=
  h.kept (Below.kept hk (fun _ => False)) (fun _ _ => id)
theorem WAt.cells {B : Nat} {w : World} {g : Nat} {v : Value} {s : WS} (h : WAt B w g v s) :
    w.cell? ⟨g, 0, none⟩ = some v ∧ w.cell? ⟨g, 1, none⟩ = some (.int .i64 s.lim) ∧ w.cell? ⟨g, 2, none⟩ = some (.int .i64 s.e) ∧ w.frozen? ⟨g, 0, none⟩ = false ∧ w.frozen? ⟨g, 2, none⟩ = false := by
  refine ⟨?_, ?_, ?_, frozen_of_row w g 0 _ _ h.2.1, frozen_of_row w g 2 _ _ h.2.1⟩
  · rw [cell_of_row w g 0 _ _ _ h.2.1]; rfl
  · rw [cell_of_row w g 1 _ _ _ h.2.1]; rfl
  · rw [cell_of_row w g 2 _ _ _ h.2.1]; rfl
theorem WAt.setErr {B : Nat} {w : World} {g : Nat} {v : Value} {s : WS} (h : WAt B w g v s) (e : Nat) (he : e < 256) : WAt B (w.setCell ⟨g, 2, none⟩ (.int .i64 e)) g v { s with e := e } := by
  refine ⟨h.1, ?_, ?_, h.2.2.2.1, h.2.2.2.2.1, he⟩
  · rw [heap_setCell_same w g 2 _ _ _ h.2.1]; rfl
  · exact h.2.2.1.kept (kept_set (F := fun k => k = g) w ⟨g, 2, none⟩ _ rfl) (fun k hk e => h.apart (by rw [hk, e]))
theorem WAt.setLaid {B : Nat} {w w1 : World} {g : Nat} {v v1 : Value} {s : WS} {l1 : List UInt8} (h : WAt B w g v s) (hg : Kept (fun k => some k = v.ownBlock) w w1) (ho : Own B w1 v1 l1) (hl : l1.length ≤ s.lim) :
    WAt B (w1.setCell ⟨g, 0, none⟩ v1) g v1 { s with l := l1 } := by
  have e : w1.heap[g]? = _ := (hg.block g h.lt (fun q => h.apart q.symm)).trans h.2.1
  refine ⟨h.1, ?_, ?_, hl, h.2.2.2.2⟩
  · rw [heap_setCell_same w1 g 0 _ _ _ e]; rfl
  · refine ho.kept (kept_set (F := fun k => k = g) w1 ⟨g, 0, none⟩ _ rfl) (fun k hk q => ?_)
    subst q
    obtain ⟨_, ⟨hv, _⟩ | ⟨g', cap, cur, hv, hB, hg', _⟩⟩ := ho
    · subst hv; simp [Value.ownBlock] at hk
    · subst hv
      simp only [Value.ownBlock, Option.some.injEq] at hk
      rw [hk, e] at hg'
      simp at hg'

set_option maxHeartbeats 1000000 in
theorem newWriter_any (n : Int) (w : World) :
    Calls Tryd.prog 50 #[.int .i64 n] w fun e w' => e = .returned (.pointer (some ⟨w.heap.size, 0, none⟩)) ∧ WAt w.heap.size w' w.heap.size (.slice none 0 0) ⟨[], min n.toNat 1048576, 0⟩ ∧ w.heap.size < w'.heap.size ∧ Below w.heap.size w w' := by
  go_enter Tryd.func50, Tryd.ntmps50
  go_wp2_with fail
  all_goals
    go_ret
    refine ⟨rfl, ⟨Nat.le_refl _, ?_, World.ownsRow_nil _ _ _ _, by simp, by simp; omega, by simp⟩, by simp, (Below.refl _ _).alloc (Nat.le_refl _) _⟩
    rw [heap_alloc_new]
    congr 3
    simp only [List.cons.injEq, Value.int.injEq, and_true, true_and]
    omega

theorem drewN_kept (F : Nat → Prop) (w : World) (n : Nat) : Kept F w (w.drewN n) := ⟨rfl, rfl, rfl, Nat.le_refl _, fun _ _ _ => rfl⟩
/-- What a call that lays leaves. -/
def Laid (B g : Nat) (v : Value) (s' : WS) (w w' : World) : Prop :=
  ∃ v', WAt B w' g v' s' ∧ Kept (WF g v) w w' ∧ At v v' w
theorem Laid.same {B g : Nat} {v : Value} {s : WS} {w w' : World} (h : WAt B w g v s) (hk : Kept (fun _ => False) w w') : Laid B g v s w w' :=
  ⟨v, h.kept hk (fun _ _ => id), hk.mono (fun _ _ h => h.elim), fun _ hk => Or.inl hk⟩
set_option maxHeartbeats 2000000 in
theorem wlay_any (B g : Nat) (v : Value) (s : WS) (u : Value) (m : List UInt8) (t : ByteArray) (w : World) (H : WAt B w g v s) (hm : Bytes w u m) (hl : m.length ≤ 1000000000) (ht : t.size ≤ 140737488355328) :
    Calls Tryd.prog 67 #[.pointer (some ⟨g, 0, none⟩), u, .string t] w fun e w' => e = .returned (.tuple #[]) ∧ Laid B g v (s.lay (m ++ t.data.toList)) w w' := by
  have V : Aside (WAt B w g v s ∧ Bytes w u m) := ⟨H, hm⟩
  obtain ⟨c0, c1, c2, f0, f2⟩ := H.cells
  obtain ⟨hle, hlim, _⟩ := H.2.2.2
  obtain ⟨a, cap, rfl, hac, hcm⟩ := hm.len
  obtain ⟨a', cap', e', hac', hcm'⟩ := H.2.2.1.bytes.len
  rw [e'] at c0
  unfold maxLen at hcm hcm'
  have E' : Aside (v = .slice a' s.l.length cap') := e'
  clear H hm e'
  go_enter Tryd.func67, Tryd.ntmps67
  by_cases he : s.e = 0
  · rw [he] at c2
    go_wp2_with fail
    go_quiet (fail)
    by_cases hfit : s.l.length + (m ++ t.data.toList).length ≤ s.lim
    · have hfit' : ¬ ((m.length : Int) + (t.size : Int) > (s.lim : Int) - (s.l.length : Int)) := by
        rw [List.length_append, str_size] at hfit; omega
      have HF : Aside (s.l.length + (m ++ t.data.toList).length ≤ s.lim) := hfit
      clear hfit
      have O : Hid (Own B (w.drewN nq) (.slice a' s.l.length cap') s.l) := by
        have := V.out.1.2.2.1; rw [E'.out] at this; exact this
      have S : Hid (B ≤ (w.drewN nq).heap.size) := Nat.le_trans V.out.1.1 (Nat.le_of_lt V.out.1.lt)
      have M : Hid (Bytes (w.drewN nq) (.slice a m.length cap) m) := V.out.2.drewN nq
      go_wp2_with (at_builtin; refine app_bytes (v := .slice a' s.l.length cap') (u := .slice a m.length cap) rfl _ _ rfl rfl O.out S.out rfl M.out ?hl1 ?_)
      case hl1 => omega
      intro v1 w1 h1 h2 h3
      have O1 : Hid (Own B w1 v1 (s.l ++ m)) := h1
      have S1 : Hid (B ≤ w1.heap.size) := Nat.le_trans S.out h2.size
      have A1 : Aside (Kept (fun k => some k = v.ownBlock) w w1 ∧ At v v1 w) := by
        rw [E'.out]; exact ⟨(drewN_kept _ w nq).trans (grown_kept h2) (fun _ _ h => h), h3⟩
      clear h1 h2 h3 O S M
      go_wp2_with (at_builtin; refine app_str rfl _ _ rfl rfl O1.out S1.out rfl ?hl2 ?_)
      case hl2 =>
        have := HF.out
        rw [List.length_append, str_size] at this
        rw [List.length_append]; omega
      intro v2 w2 h1 h2 h3
      obtain ⟨a2, n2, cap2, rfl⟩ : ∃ a2 n2 cap2, v2 = .slice a2 n2 cap2 := by
        obtain ⟨a2, cap2, e, _, _⟩ := h1.bytes.len
        exact ⟨a2, _, cap2, e⟩
      have k1 : Kept (WF g v) w w1 := A1.out.1.mono (fun _ _ h => Or.inr h)
      have k2 : Kept (fun k => some k = v.ownBlock) w w2 := A1.out.1.trans (grown_kept h2) (fun k hk h => by
        rcases A1.out.2 k h with q | q
        · exact q
        · omega)
      have e2 : w2.heap[g]? = some (.cells #[.slice a' s.l.length cap', .int .i64 s.lim, .int .i64 0] 105 (0, 0)) := by
        rw [k2.block g V.out.1.lt (fun q => V.out.1.apart q.symm), V.out.1.2.1, E'.out, he]; rfl
      have g0 : w2.cell? ⟨g, 0, none⟩ = some (.slice a' s.l.length cap') := by rw [cell_of_row w2 g 0 _ _ _ e2]; rfl
      have g1 : w2.frozen? ⟨g, 0, none⟩ = false := frozen_of_row w2 g 0 _ _ e2
      have A2 : Aside (Kept (fun k => some k = v.ownBlock) w w2 ∧ At v (.slice a2 n2 cap2) w ∧ Own B w2 (.slice a2 n2 cap2) (s.l ++ (m ++ t.data.toList))) := ⟨k2, A1.out.2.trans h3 A1.out.1.size, h1⟩
      clear h1 h2 h3 k1 k2 e2 O1 S1 A1 c0 c1 c2 f0 f2 hfit'
      go_wp2_with fail
      first | go_end0 | refine bodyPost_ret (results_none rfl _ _ _) rfl ?_
      obtain ⟨k2, a2, o2⟩ := A2.out
      have ft := HF.out
      have e1 : s.lay (m ++ t.data.toList) = { s with l := s.l ++ (m ++ t.data.toList) } := by
        unfold WS.lay; rw [if_pos he, if_pos ft]
      rw [e1]
      refine ⟨rfl, _, V.out.1.setLaid k2 o2 ?_, (k2.mono (fun _ _ h => Or.inr h)).trans (kept_set (F := fun k => k = g) w2 ⟨g, 0, none⟩ _ rfl) (fun _ _ h => Or.inl h), a2⟩
      simp only [List.length_append] at ft ⊢; omega
    · have hfit' : ((m.length : Int) + (t.size : Int) > (s.lim : Int) - (s.l.length : Int)) := by
        rw [List.length_append, str_size] at hfit; omega
      have HF : Aside (¬ s.l.length + (m ++ t.data.toList).length ≤ s.lim) := hfit
      clear hfit
      go_wp2_with (fail)
      first | go_end0 | refine bodyPost_ret (results_none rfl _ _ _) rfl ?_
      have e1 : s.lay (m ++ t.data.toList) = { s with e := 23 } := by
        unfold WS.lay; rw [if_pos he, if_neg HF.out]
      rw [e1]
      have hk := drewN_kept (fun _ => False) w nq
      refine ⟨rfl, v, (V.out.1.kept hk (fun _ _ => id)).setErr 23 (by decide), (hk.mono (fun _ _ h => h.elim)).trans (kept_set (F := fun k => k = g) _ ⟨g, 2, none⟩ _ rfl) (fun _ _ h => Or.inl h), At.refl _ _⟩
  · have he' : ¬ (s.e : Int) = 0 := by omega
    go_wp2_with fail
    first | go_end0 | refine bodyPost_ret (results_none rfl _ _ _) rfl ?_
    have e1 : s.lay (m ++ t.data.toList) = s := by unfold WS.lay; rw [if_neg he]
    rw [e1]
    exact ⟨rfl, Laid.same V.out.1 (Kept.refl _ _)⟩

theorem Laid.below {B g : Nat} {v : Value} {s s' : WS} {w w' : World} (h : Laid B g v s' w w') (H : WAt B w g v s) : Below B w w' := by
  obtain ⟨_, _, k, _⟩ := h
  exact k.below (Nat.le_trans H.1 (Nat.le_of_lt H.lt)) (fun x hx => (H.foot x hx).1)
/-- A call that made new memory alone, then one that lays. -/
theorem Laid.after {B g : Nat} {v : Value} {s s' : WS} {a b c : World} (hb : Below a.heap.size a b) (h : Laid B g v s' b c) (_H : WAt B a g v s) : Laid B g v s' a c := by
  obtain ⟨v', h1, k, h2⟩ := h
  refine ⟨v', h1, (Below.kept hb _).trans k (fun _ _ q => q), fun x hx => ?_⟩
  rcases h2 x hx with q | q
  · exact Or.inl q
  · exact Or.inr (Nat.le_trans hb.size q)

theorem one_bytes (w : World) (c : UInt8) : Bytes (w.alloc (.cells #[.int .u8 (c8 c)] 5)) (.slice (some ⟨w.heap.size, 0, none⟩) 1 1) [c] := by
  refine ⟨_, 1, rfl, by simp, by decide, fun h => by simp at h, fun k hk => ⟨w.heap.size, 0, rfl, ?_⟩⟩
  have hk' : k < 1 := hk
  obtain rfl : k = 0 := by omega
  rw [World.cell?_alloc_new]; rfl

set_option maxHeartbeats 1000000 in
theorem wByte_any (B g : Nat) (v : Value) (s : WS) (c : UInt8) (w : World) (H : WAt B w g v s) :
    Calls Tryd.prog 51 #[.pointer (some ⟨g, 0, none⟩), .int .u8 (c8 c)] w fun e w' => e = .returned (.tuple #[]) ∧ Laid B g v (s.lay [c]) w w' := by
  have V : Aside (WAt B w g v s) := H
  clear H
  go_enter Tryd.func51, Tryd.ntmps51
  go_wp2_with fail
  have hb : Below w.heap.size w (w.alloc (.cells #[.int .u8 (c8 c)] 5)) := (Below.refl _ _).alloc (Nat.le_refl _) _
  refine (wlay_any B g v s _ [c] ⟨#[]⟩ _ (V.out.below hb) (one_bytes w c) (by simp) (by decide)).mono ?_
  rintro e w2 ⟨rfl, hl⟩
  have L0 : Laid B g v (s.lay [c]) w w2 := by
    have := Laid.after hb hl V.out; simpa using this
  have L : Aside (Laid B g v (s.lay [c]) w w2) := L0
  clear L0
  clear hl hb
  go_wp2_with fail
  first | go_end0 | refine bodyPost_ret (results_none rfl _ _ _) rfl ?_
  exact ⟨rfl, L.out⟩

theorem wByte_eq {n : Int} {c : UInt8} (hn : n = c8 c) (B g : Nat) (v : Value) (s : WS) (w : World) (H : WAt B w g v s) :
    Calls Tryd.prog 51 #[.pointer (some ⟨g, 0, none⟩), .int .u8 n] w fun e w' => e = .returned (.tuple #[]) ∧ Laid B g v (s.lay [c]) w w' := by
  rw [hn]; exact wByte_any B g v s c w H
set_option maxHeartbeats 1000000 in
theorem wText_any (B g : Nat) (v : Value) (s : WS) (t : ByteArray) (w : World) (ht : t.size ≤ 140737488355328) (H : WAt B w g v s) :
    Calls Tryd.prog 56 #[.pointer (some ⟨g, 0, none⟩), .string t] w fun e w' => e = .returned (.tuple #[]) ∧ Laid B g v (s.lay (form t.size ++ t.data.toList)) w w' := by
  have V : Aside (WAt B w g v s) := H
  have T : Aside ((form t.size).length ≤ 10) := form_ten _ (by omega)
  clear H
  go_enter Tryd.func56, Tryd.ntmps56
  go_wp2_with fail
  refine (numberForm_any t.size (by omega) w).mono ?_
  rintro e w1 ⟨u, rfl, ho, hb⟩
  have A : Aside (Own w.heap.size w1 u (form t.size) ∧ Below w.heap.size w w1) := ⟨ho, hb⟩
  clear ho hb
  go_wp2_with fail
  refine (wlay_any B g v s u (form t.size) t w1 (V.out.below A.out.2) A.out.1.bytes (by have := T.out; omega) ht).mono ?_
  rintro e w2 ⟨rfl, hl⟩
  have L : Aside (Laid B g v (s.lay (form t.size ++ t.data.toList)) w w2) := Laid.after A.out.2 hl V.out
  clear hl
  go_wp2_with fail
  first | go_end0 | refine bodyPost_ret (results_none rfl _ _ _) rfl ?_
  exact ⟨rfl, L.out⟩

def WS.count (s : WS) (n : Int) : WS := if 0 ≤ n ∧ n ≤ 4096 then s.lay (form n.toNat) else if s.e = 0 then { s with e := 1 } else s
set_option maxHeartbeats 1000000 in
theorem clone_any (v : Value) (l : List UInt8) (w : World) (hv : Bytes w v l) (hl : l.length ≤ 200000000000000) :
    Calls Tryd.prog 68 #[v] w fun e w' => ∃ v', e = .returned v' ∧ Own w.heap.size w' v' l ∧ Below w.heap.size w w' := by
  have V : Aside (Bytes w v l) := hv
  obtain ⟨a, cap, rfl, hlc, hcm, hn, hc⟩ := hv
  unfold maxLen at hcm
  have hcmp := Lib.run_eql_slice_nil (P := Tryd.prog) w 86 5 a l.length cap 0 0 Tryd.underlying86
  cases a with
  | none =>
    obtain rfl := hn rfl
    obtain rfl : l = [] := by simpa using hlc
    rw [List.length_nil] at hcmp
    go_enter Tryd.func68, Tryd.ntmps68
    go_wp2_with fail
    go_ret
    exact ⟨_, rfl, World.ownsRow_nil w _ _ _, Below.refl _ _⟩
  | some a =>
    clear hn hc
    have O : Hid (Own w.heap.size (w.alloc (.cells #[] 5)) (.slice (some ⟨w.heap.size, 0, none⟩) 0 0) []) := World.ownsRow_made w _ 0 (Nat.le_refl _) (by decide) (by simp)
    have B1 : Aside (Below w.heap.size w (w.alloc (.cells #[] 5))) := (Below.refl _ _).alloc (Nat.le_refl _) _
    have S : Hid (w.heap.size ≤ (w.alloc (.cells #[] 5)).heap.size) := B1.out.size
    have M : Hid (Bytes (w.alloc (.cells #[] 5)) (.slice (some a) l.length cap) l) := V.out.below B1.out
    go_enter Tryd.func68, Tryd.ntmps68
    go_wp2_with (at_builtin; refine app_wide (v := .slice (some ⟨w.heap.size, 0, none⟩) 0 0) (u := .slice (some a) l.length cap) rfl _ _ rfl rfl O.out S.out rfl M.out ?hl1 ?_)
    case hl1 => simpa using hl
    intro v' w' h1 h2
    have A : Aside (Own w.heap.size w' v' l ∧ Below w.heap.size w w') := ⟨by simpa using h1, B1.out.trans (grown_below h2 O.out S.out)⟩
    clear h1 h2 O S M
    go_wp2_with fail
    go_ret
    exact ⟨_, rfl, A.out.1, A.out.2⟩

/-- What Out tells. -/
def WS.out (s : WS) : List UInt8 := if s.e = 0 then s.l else []
set_option maxHeartbeats 1000000 in
theorem wOut_any (B g : Nat) (v : Value) (s : WS) (w : World) (H : WAt B w g v s) :
    Calls Tryd.prog 52 #[.pointer (some ⟨g, 0, none⟩)] w fun e w' => ∃ v', e = .returned (.tuple #[v', .int .i64 s.e]) ∧ Own w.heap.size w' v' s.out ∧ Below w.heap.size w w' := by
  have V : Aside (WAt B w g v s) := H
  obtain ⟨c0, _, c2, _, _⟩ := H.cells
  obtain ⟨a', cap', e', hac', hcm'⟩ := H.2.2.1.bytes.len
  have E' : Aside (v = .slice a' s.l.length cap') := e'
  rw [e'] at c0
  clear e' H
  go_enter Tryd.func52, Tryd.ntmps52
  by_cases he : s.e = 0
  · rw [he] at c2
    go_wp2_with fail
    refine (clone_any _ s.l w (by have := V.out.2.2.1.bytes; rw [E'.out] at this; exact this) (by have := V.out.2.2.2; have h1 := this.1; have h2 := this.2.1; omega)).mono ?_
    rintro e w1 ⟨u, rfl, ho, hb⟩
    have A : Aside (Own w.heap.size w1 u s.l ∧ Below w.heap.size w w1) := ⟨ho, hb⟩
    clear ho hb
    go_wp2_with fail
    go_ret2
    refine ⟨_, by rw [he]; rfl, ?_, A.out.2⟩
    unfold WS.out; rw [if_pos he]; exact A.out.1
  · have he' : ¬ (s.e : Int) = 0 := by omega
    go_wp2_with fail
    go_quiet (fail)
    go_wp2_with fail
    go_ret2
    refine ⟨_, rfl, ?_, below_drawn w nq⟩
    unfold WS.out; rw [if_neg he]; exact World.ownsRow_nil _ _ _ _
end Go.Proofs.YtlbnmafopfljcaaDoor
