/-
  THE DOCUMENTS WRITER: Uint, Int, Byte, Bool, Text, Count, Len, Err; layRef.
-/
import Derived.Test.YtmdjicakjljmlaaRefW2
namespace Go.Proofs.Ytmdjicakjljmlaa
open Go.RowKit

theorem fresh_apart {B g : Nat} {v u : Value} {s : WS} {w w1 : World} {m : List UInt8} (H : XAt B w g v s) (h : Own w.heap.size w1 u m) : ∀ k, u.ownBlock = some k → ¬ WF g v k := fun k hk hf => by
  have h1 := (H.foot k hf).2
  have h2 := (h.lt k hk).1
  omega
theorem xForm_eq {q : Int} {n : Nat} (hq : q = n) (hn : n < 18446744073709551616) (w : World) :
    Calls Try.prog 45 #[.int .u64 q] w fun e w' => ∃ v', e = .returned v' ∧ Own w.heap.size w' v' (form n) ∧ Below w.heap.size w w' := by
  rw [hq]; exact xForm_any n hn w
set_option maxHeartbeats 1000000 in
theorem xUint_any (B g : Nat) (v : Value) (s : WS) (n : Nat) (w : World) (hn : n < 18446744073709551616) (H : XAt B w g v s) :
    Calls Try.prog 16 #[.pointer (some ⟨g, 0, none⟩), .int .u64 n] w fun e w' => e = .returned (.tuple #[]) ∧ LaidX B g v (s.lay (form n)) w w' := by
  have V : Aside (XAt B w g v s) := H
  have T : Aside ((form n).length ≤ 10) := form_ten n hn
  clear H
  go_enter Try.func16, Try.ntmps16
  go_wp2_with fail
  refine (xForm_any n hn w).mono ?_
  rintro e w1 ⟨u, rfl, ho, hb⟩
  have A : Aside (Own w.heap.size w1 u (form n) ∧ Below w.heap.size w w1) := ⟨ho, hb⟩
  clear ho hb
  go_wp2_with fail
  refine (xlay_any B g v s u (form n) w1 (V.out.below A.out.2) w.heap.size A.out.1 (fresh_apart V.out A.out.1) (by have := T.out; omega)).mono ?_
  rintro e w2 ⟨rfl, hl⟩
  have L : Aside (LaidX B g v (s.lay (form n)) w w2) := LaidX.after A.out.2 hl V.out
  clear hl
  go_wp2_with fail
  first | go_end0 | refine bodyPost_ret (results_none rfl _ _ _) rfl ?_
  exact ⟨rfl, L.out⟩
theorem one_own (w : World) (c : UInt8) : Own w.heap.size (w.alloc (.cells #[.int .u8 (c8 c)] 5)) (.slice (some ⟨w.heap.size, 0, none⟩) 1 1) [c] := by
  show World.ownsRow _ _ _ _ _ _ _
  exact ⟨rfl, .inr ⟨w.heap.size, 1, _, rfl, Nat.le_refl _, heap_alloc_new w _, Nat.le_refl _, by decide, rfl, rfl⟩⟩
theorem xlay_one {n : Int} {c : UInt8} (hn : n = c8 c) (B g : Nat) (v : Value) (s : WS) (w : World) (H : XAt B w g v s) :
    Calls Try.prog 44 #[.pointer (some ⟨g, 0, none⟩), .slice (some ⟨w.heap.size, 0, none⟩) 1 1] (w.alloc (.cells #[.int .u8 n] 5)) fun e w' => e = .returned (.tuple #[]) ∧ LaidX B g v (s.lay [c]) w w' := by
  subst hn
  have hb : Below w.heap.size w (w.alloc (.cells #[.int .u8 (c8 c)] 5)) := (Below.refl _ _).alloc (Nat.le_refl _) _
  refine (xlay_any B g v s _ [c] _ (H.below hb) w.heap.size (one_own w c) (fresh_apart H (one_own w c)) (by simp)).mono ?_
  rintro e w2 ⟨rfl, hl⟩
  exact ⟨rfl, LaidX.after hb hl H⟩
set_option maxHeartbeats 1000000 in
theorem xByte_eq {n : Int} {c : UInt8} (hn : n = c8 c) (B g : Nat) (v : Value) (s : WS) (w : World) (H : XAt B w g v s) :
    Calls Try.prog 15 #[.pointer (some ⟨g, 0, none⟩), .int .u8 n] w fun e w' => e = .returned (.tuple #[]) ∧ LaidX B g v (s.lay [c]) w w' := by
  have V : Aside (XAt B w g v s ∧ n = c8 c) := ⟨H, hn⟩
  clear H hn
  go_enter Try.func15, Try.ntmps15
  go_wp2_with fail
  refine (xlay_one V.out.2 B g v s w V.out.1).mono ?_
  rintro e w2 ⟨rfl, hl⟩
  have L : Aside (LaidX B g v (s.lay [c]) w w2) := hl
  clear hl
  go_wp2_with fail
  first | go_end0 | refine bodyPost_ret (results_none rfl _ _ _) rfl ?_
  exact ⟨rfl, L.out⟩
set_option maxHeartbeats 1000000 in
theorem xBool_any (B g : Nat) (v : Value) (s : WS) (b : Bool) (w : World) (H : XAt B w g v s) :
    Calls Try.prog 18 #[.pointer (some ⟨g, 0, none⟩), .bool b] w fun e w' => e = .returned (.tuple #[]) ∧ LaidX B g v (s.lay [if b then 1 else 0]) w w' := by
  have V : Aside (XAt B w g v s) := H
  clear H
  go_enter Try.func18, Try.ntmps18
  cases b with
  | true =>
    go_wp2_with fail
    refine (xlay_one (c := 1) rfl B g v s w V.out).mono ?_
    rintro e w2 ⟨rfl, hl⟩
    have L : Aside (LaidX B g v (s.lay [1]) w w2) := hl
    clear hl
    go_wp2_with fail
    first | go_end0 | refine bodyPost_ret (results_none rfl _ _ _) rfl ?_
    exact ⟨rfl, L.out⟩
  | false =>
    go_wp2_with fail
    refine (xlay_one (c := 0) rfl B g v s w V.out).mono ?_
    rintro e w2 ⟨rfl, hl⟩
    have L : Aside (LaidX B g v (s.lay [0]) w w2) := hl
    clear hl
    go_wp2_with fail
    first | go_end0 | refine bodyPost_ret (results_none rfl _ _ _) rfl ?_
    exact ⟨rfl, L.out⟩
theorem str_at (t : ByteArray) (k : Nat) (h : k < t.size) : c8 (t.data.toList.getD k 0) = (((t[k]'h).toNat : Nat) : Int) := by
  have e : t.data.toList.getD k 0 = t[k]'h := by
    have h' : k < t.data.size := h
    simp [List.getD, Array.getElem?_eq_getElem h']; rfl
  rw [e]; rfl
set_option maxHeartbeats 2000000 in
set_option maxRecDepth 100000 in
theorem xText_any (B g : Nat) (v : Value) (s : WS) (t : ByteArray) (w : World) (ht : t.size ≤ 140737488355000) (H : XAt B w g v s) :
    Calls Try.prog 19 #[.pointer (some ⟨g, 0, none⟩), .string t] w fun e w' => e = .returned (.tuple #[]) ∧ LaidX B g v (s.lay (form t.size ++ t.data.toList)) w w' := by
  have V : Aside (XAt B w g v s) := H
  have T : Aside ((form t.size).length ≤ 10) := form_ten _ (by omega)
  clear H
  go_enter Try.func19, Try.ntmps19
  go_wp2_with fail
  refine (xForm_any t.size (by omega) w).mono ?_
  rintro e w1 ⟨u, rfl, ho, hb⟩
  have A : Aside (Own w.heap.size w1 u (form t.size) ∧ Below w.heap.size w w1) := ⟨ho, hb⟩
  clear ho hb
  go_wp2_with fail
  go_loopg [4, 5] t.size (fun g0 so si wr => ∃ (k : Nat) (vo : Value), k ≤ t.size ∧ g0 = t.size - k ∧ si = .int .i64 k ∧ vo = so ∧ Own w.heap.size wr vo (form t.size ++ t.data.toList.take k) ∧ Below w.heap.size w wr)
  case atStart => exact ⟨0, u, Nat.zero_le _, rfl, rfl, rfl, by simpa using A.out.1, A.out.2⟩
  case round =>
    obtain ⟨k, vo, hk, hg, rfl, rfl, ho, hb⟩ := hrel
    have R : Aside (gk = t.size - k ∧ Below w.heap.size w wr) := ⟨hg, hb⟩
    have O : Hid (Own w.heap.size wr vo (form t.size ++ t.data.toList.take k)) := ho
    have S : Hid (w.heap.size ≤ wr.heap.size) := hb.size
    have L : Hid ((form t.size ++ t.data.toList.take k).length < 140737488355328) := by
      have := T.out
      show _ < _; rw [List.length_append, List.length_take, str_size]; omega
    clear hg ho hb
    by_cases hlt : k < t.size
    · have hlt' : (k : Int) < (t.size : Int) := by omega
      obtain ⟨c, hc⟩ : ∃ c, c = t.data.toList.getD k 0 := ⟨_, rfl⟩
      have C : Aside (c8 c = (((t[k]'hlt).toNat : Nat) : Int) ∧ c = t.data.toList.getD k 0) := ⟨by rw [hc]; exact str_at t k hlt, hc⟩
      clear hc
      go_wp2_with (at_builtin; refine app_byte rfl _ _ rfl rfl O.out S.out _ c ?hn rfl L.out ?_)
      case hn => exact C.out.1.symm
      intro v' w' h1 h2 _
      have A2 : Aside (Own w.heap.size w' v' (form t.size ++ t.data.toList.take k ++ [c]) ∧ Below w.heap.size w w') := ⟨by simpa using h1, R.out.2.trans (grown_below h2 O.out S.out)⟩
      clear h1 h2 O S L
      go_wp2_with fail
      go_roundg (t.size - (k + 1))
      case measure => have := R.out.1; omega
      case rel => exact ⟨k + 1, v', by omega, rfl, by go_num, rfl, by rw [take_one t.data.toList k 0 (by rw [str_size]; exact hlt), ← C.out.2, ← List.append_assoc]; exact A2.out.1, A2.out.2⟩
    · have E : Aside (Own w.heap.size wr vo (form t.size ++ t.data.toList) ∧ Below w.heap.size w wr) := by
        have := O.out
        rw [List.take_of_length_le (by rw [str_size]; omega)] at this
        exact ⟨this, R.out.2⟩
      clear O S L
      go_wp2_with fail
      refine (xlay_any B g v s vo (form t.size ++ t.data.toList) wr (V.out.below E.out.2) w.heap.size E.out.1 (fresh_apart V.out E.out.1) (by have := T.out; rw [List.length_append, str_size]; omega)).mono ?_
      rintro e w2 ⟨rfl, hl⟩
      have L : Aside (LaidX B g v (s.lay (form t.size ++ t.data.toList)) w w2) := LaidX.after E.out.2 hl V.out
      clear hl
      go_wp2_with fail
      first | go_end0 | refine bodyPost_ret (results_none rfl _ _ _) rfl ?_
      exact ⟨rfl, L.out⟩
theorem wrap_lt (n : Int) (_h1 : -9223372036854775808 ≤ n) (_h2 : n < 9223372036854775808) : ∃ k : Nat, IntKind.u64.wrap n = k ∧ k < 18446744073709551616 := by
  rw [IntKind.wrap_u64]
  exact ⟨(n % 18446744073709551616).toNat, by omega, by omega⟩
theorem lay_dead' (s : WS) (f : List UInt8) (he : ¬ s.e = 0) : s.lay f = s := by unfold WS.lay; rw [if_neg he]
set_option maxHeartbeats 2000000 in
theorem xCount_any (B g : Nat) (v : Value) (s : WS) (n : Int) (w : World) (h1 : -9223372036854775808 ≤ n) (h2 : n < 9223372036854775808) (H : XAt B w g v s) :
    Calls Try.prog 17 #[.pointer (some ⟨g, 0, none⟩), .int .i64 n] w fun e w' => e = .returned (.tuple #[]) ∧ LaidX B g v (s.count n) w w' := by
  have V : Aside (XAt B w g v s) := H
  obtain ⟨_, _, c2, _, f2⟩ := H.cells
  clear H
  go_enter Try.func17, Try.ntmps17
  by_cases hn : 0 ≤ n ∧ n ≤ 4096
  · obtain ⟨n0, n1⟩ := hn
    have U : Aside (s.count n = s.lay (form n.toNat)) := by unfold WS.count; rw [if_pos ⟨n0, n1⟩]; rfl
    obtain ⟨k, rfl⟩ : ∃ k : Nat, n = k := ⟨n.toNat, by omega⟩
    rw [Int.toNat_natCast] at U
    have T : Aside ((form k).length ≤ 10) := form_ten k (by omega)
    have q1 : ¬ ((k : Int) < 0) := by omega
    have q2 : ¬ ((k : Int) > 4096) := by omega
    by_cases he : s.e = 0
    all_goals
      try rw [he] at c2
      try have he' : ¬ (s.e : Int) = 0 := by omega
      go_wp2_with fail
      refine (xForm_any k (by omega) w).mono ?_
      rintro e w1 ⟨u, rfl, ho, hb⟩
      have A : Aside (Own w.heap.size w1 u (form k) ∧ Below w.heap.size w w1) := ⟨ho, hb⟩
      clear ho hb
      go_wp2_with fail
      refine (xlay_any B g v s u (form k) w1 (V.out.below A.out.2) w.heap.size A.out.1 (fresh_apart V.out A.out.1) (by have := T.out; omega)).mono ?_
      rintro e w2 ⟨rfl, hl⟩
      have L : Aside (LaidX B g v (s.lay (form k)) w w2) := LaidX.after A.out.2 hl V.out
      clear hl
      go_wp2_with fail
      first | go_end0 | refine bodyPost_ret (results_none rfl _ _ _) rfl ?_
      rw [U.out]
      exact ⟨rfl, L.out⟩
  · have E : Aside (s.count n = if s.e = 0 then { s with e := 1 } else s) := by unfold WS.count; rw [if_neg hn]; rfl
    by_cases he : s.e = 0
    · rw [he] at c2
      by_cases h0 : n < 0
      · clear hn
        go_wp2_with fail
        first | go_end0 | refine bodyPost_ret (results_none rfl _ _ _) rfl ?_
        rw [E.out, if_pos he]
        exact ⟨rfl, v, V.out.setErr 1 (by decide), kept_set _ ⟨g, 2, none⟩ _ (Or.inl rfl), At.refl _ _⟩
      · have h3 : n > 4096 := by omega
        clear hn
        go_wp2_with fail
        first | go_end0 | refine bodyPost_ret (results_none rfl _ _ _) rfl ?_
        rw [E.out, if_pos he]
        exact ⟨rfl, v, V.out.setErr 1 (by decide), kept_set _ ⟨g, 2, none⟩ _ (Or.inl rfl), At.refl _ _⟩
    · have he' : ¬ (s.e : Int) = 0 := by omega
      obtain ⟨k, hk, hkl⟩ := wrap_lt n h1 h2
      have T : Aside ((form k).length ≤ 10) := form_ten k hkl
      have DE : Aside (s.lay (form k) = s ∧ s.count n = s) := ⟨lay_dead' s _ he, by rw [E.out, if_neg he]⟩
      clear hn he
      go_wp2_with fail
      all_goals
        refine (xForm_eq (n := k) ?hq hkl w).mono ?_
        case hq => first | rfl | exact hk
        rintro e w1 ⟨u, rfl, ho, hb⟩
        have A : Aside (Own w.heap.size w1 u (form k) ∧ Below w.heap.size w w1) := ⟨ho, hb⟩
        clear ho hb
        go_wp2_with fail
        refine (xlay_any B g v s u (form k) w1 (V.out.below A.out.2) w.heap.size A.out.1 (fresh_apart V.out A.out.1) (by have := T.out; omega)).mono ?_
        rintro e w2 ⟨rfl, hl⟩
        rw [DE.out.1] at hl
        have L : Aside (LaidX B g v s w w2) := LaidX.after A.out.2 hl V.out
        clear hl
        go_wp2_with fail
        first | go_end0 | refine bodyPost_ret (results_none rfl _ _ _) rfl ?_
        rw [DE.out.2]
        exact ⟨rfl, L.out⟩
set_option maxHeartbeats 2000000 in
set_option maxRecDepth 100000 in
theorem xOut_any (B g : Nat) (v : Value) (s : WS) (w : World) (H : XAt B w g v s) :
    Calls Try.prog 20 #[.pointer (some ⟨g, 0, none⟩)] w fun e w' => ∃ v', e = .returned (.tuple #[v', .int .i64 s.e]) ∧ Own w.heap.size w' v' s.out ∧ Below w.heap.size w w' := by
  have V : Aside (XAt B w g v s) := H
  obtain ⟨c0, _, c2, _, _⟩ := H.cells
  obtain ⟨a', cap', e', hac', hcm'⟩ := H.2.2.1.bytes.len
  have lb : s.l.length ≤ 1048576 := by have h1 := H.2.2.2.1; have h2 := H.2.2.2.2.1; omega
  have E' : Aside (v = .slice a' s.l.length cap') := e'
  rw [e'] at c0
  clear e' H
  go_enter Try.func20, Try.ntmps20
  by_cases he : s.e = 0
  · rw [he] at c2
    go_wp2_with fail
    clear c0 c2
    go_loopg [4, 5] s.l.length (fun g0 so si wr => ∃ (k : Nat) (vo : Value), k ≤ s.l.length ∧ g0 = s.l.length - k ∧ si = .int .i64 k ∧ vo = so ∧ Own w.heap.size wr vo (s.l.take k) ∧ Below w.heap.size w wr)
    case atStart => exact ⟨0, _, Nat.zero_le _, rfl, rfl, rfl, World.ownsRow_nil _ _ _ _, Below.refl _ _⟩
    case round =>
      obtain ⟨k, vo, hk, hg, rfl, rfl, ho, hb⟩ := hrel
      have R : Aside (gk = s.l.length - k ∧ Below w.heap.size w wr) := ⟨hg, hb⟩
      have O : Hid (Own w.heap.size wr vo (s.l.take k)) := ho
      have S : Hid (w.heap.size ≤ wr.heap.size) := hb.size
      clear hg ho hb
      have X := V.out.below R.out.2
      obtain ⟨d0, _, _, _, _⟩ := X.cells
      rw [E'.out] at d0
      by_cases hlt : k < s.l.length
      · have xb := X.2.2.1.bytes
        rw [E'.out] at xb
        obtain ⟨aa, cc, e2, _, _, _, hcl⟩ := xb
        simp only [Value.slice.injEq, true_and] at e2
        obtain ⟨rfl, rfl⟩ := e2
        obtain ⟨b1, off1, rfl, hc1⟩ := hcl k hlt
        obtain ⟨c, hc⟩ : ∃ c, c = s.l.getD k 0 := ⟨_, rfl⟩
        rw [← hc] at hc1
        have C : Aside (c = s.l.getD k 0) := hc
        have L : Hid ((s.l.take k).length < 140737488355328) := by show _ < _; rw [List.length_take]; omega
        clear hcl hc X
        go_wp2_with (at_builtin; refine app_byte rfl _ _ rfl rfl O.out S.out _ c ?hn rfl L.out ?_)
        case hn => rfl
        intro v' w' h1 h2 _
        have A : Aside (Own w.heap.size w' v' (s.l.take k ++ [c]) ∧ Below w.heap.size w w') := ⟨h1, R.out.2.trans (grown_below h2 O.out S.out)⟩
        clear h1 h2 O S L d0 hc1
        go_wp2_with fail
        go_roundg (s.l.length - (k + 1))
        case measure => have := R.out.1; omega
        case rel => exact ⟨k + 1, v', by omega, rfl, by go_num, rfl, by rw [take_one s.l k 0 hlt, ← C.out]; exact A.out.1, A.out.2⟩
      · clear X
        go_wp2_with fail
        go_ret2
        refine ⟨vo, by rw [he]; rfl, ?_, R.out.2⟩
        have := O.out
        rw [List.take_of_length_le (by omega)] at this
        unfold WS.out; rw [if_pos he]; exact this
  · have he' : ¬ (s.e : Int) = 0 := by omega
    go_wp2_with fail
    go_quiet (fail)
    go_wp2_with fail
    go_ret2
    refine ⟨_, rfl, ?_, below_drawn w nq⟩
    unfold WS.out; rw [if_neg he]; exact World.ownsRow_nil _ _ _ _
end Go.Proofs.Ytmdjicakjljmlaa
