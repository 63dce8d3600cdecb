/-
  (As pack's Rd, the reader's bytes lying in a block of bytes: T8.)
  THE WALKS: NewReader, number, pass, numberUpTo, Uint, Int, Byte, Bool, Text, Count, Left, Err, End.
-/
import Derived.Test.YtanpneahembhbaaGreatDoorWr
namespace Go.Proofs.YtanpneahembhbaaGreatDoor
open Go.RowKit

/-- A readers state: what is left, the error. -/
structure RS where
  l : List UInt8
  e : Nat
/-- The reader at block g. -/
def T8 (w : World) (v : Value) : Prop := ∀ (a : Addr) n c, v = .slice (some a) n c → ∃ cs m, w.heap[a.block]? = some (.cells cs 5 m)
theorem T8.re {w : World} {a : Option Addr} {n c n' c' : Nat} (h : T8 w (.slice a n c)) : T8 w (.slice a n' c') := by
  intro b n2 c2 e
  simp only [Value.slice.injEq] at e
  obtain ⟨rfl, _⟩ := e
  exact h b n c rfl
theorem add_block (a : Addr) (k : Nat) : (a.add k).block = a.block := by unfold Addr.add; split <;> rfl
theorem T8.add {w : World} {a : Option Addr} {n c n' c' k : Nat} (h : T8 w (.slice a n c)) : T8 w (.slice (Option.map (fun x : Addr => x.add k) a) n' c') := by
  intro b n2 c2 e
  simp only [Value.slice.injEq] at e
  obtain ⟨e, _⟩ := e
  cases a with
  | none => simp at e
  | some a =>
    simp only [Option.map_some, Option.some.injEq] at e
    rw [← e, add_block]
    exact h a n c rfl
theorem T8.none {w : World} {n c : Nat} : T8 w (.slice none n c) := by intro b n2 c2 e; simp at e
theorem T8.kept {F : Nat → Prop} {w w' : World} {v : Value} (h : T8 w v) (hk : Kept F w w') (hF : ∀ b cs m, w.heap[b]? = some (.cells cs 5 m) → ¬ F b) : T8 w' v := by
  intro b n c e
  obtain ⟨cs, m, hb⟩ := h b n c e
  have hlt : b.block < w.heap.size := by
    rcases Nat.lt_or_ge b.block w.heap.size with q | q
    · exact q
    · rw [Array.getElem?_eq_none q] at hb; simp at hb
  exact ⟨cs, m, by rw [hk.block b.block hlt (hF b.block cs m hb)]; exact hb⟩
theorem Own.t8 {B : Nat} {w : World} {v : Value} {l : List UInt8} (h : Own B w v l) : T8 w v := by
  obtain ⟨_, ⟨hv, _⟩ | ⟨g, cap, cur, hv, _, hg, _⟩⟩ := h
  · subst hv; exact T8.none
  · subst hv
    intro b n c e
    simp only [Value.slice.injEq, Option.some.injEq] at e
    obtain ⟨rfl, _⟩ := e
    exact ⟨cur, _, hg⟩
def RAt (w : World) (g : Nat) (s : RS) : Prop :=
  ∃ v, w.heap[g]? = some (.cells #[v, .int .i64 s.e] 140 (0, 0)) ∧ Bytes w v s.l ∧ s.e < 256 ∧ T8 w v

theorem Bytes.kept {F : Nat → Prop} {w w' : World} {v : Value} {l : List UInt8} (H : Bytes w v l) (hk : Kept F w w') (hF : ∀ b o c, w.cell? ⟨b, o, none⟩ = some (.int .u8 c) → ¬ F b) : Bytes w' v l := by
  obtain ⟨a, cap, e, h1, h2, h0, h3⟩ := H
  refine ⟨a, cap, e, h1, h2, h0, fun k hk' => ?_⟩
  obtain ⟨b, off, ea, hc⟩ := h3 k hk'
  refine ⟨b, off, ea, ?_⟩
  rw [World.cell?_of_block (w := w) (w' := w') (a := ⟨b, off + k, none⟩) (hk.block b (block_lt_of_cell hc) (hF _ _ _ hc))]; exact hc
theorem Bytes.none_left {w : World} {a : Option Addr} {n : Nat} {l : List UInt8} (hn : n = 0) (hl : l = []) : Bytes w (.slice a n 0) l := by
  subst hn; exact Bytes.zero w a hl
theorem RAt.no8 {w : World} {g : Nat} {s : RS} (h : RAt w g s) : ∀ b o c, w.cell? ⟨b, o, none⟩ = some (.int .u8 c) → ¬ b = g := by
  rintro b o c hc rfl
  obtain ⟨v, hg, hb, _⟩ := h
  obtain ⟨a, cap, rfl, _⟩ := hb.len
  rw [cell_of_row w b o _ _ _ hg] at hc
  match o with
  | 0 => simp at hc
  | 1 => simp at hc
  | (o + 2) => simp at hc
theorem RAt.lt {w : World} {g : Nat} {s : RS} (h : RAt w g s) : g < w.heap.size := by
  obtain ⟨v, hg, _⟩ := h
  rcases Nat.lt_or_ge g w.heap.size with q | q
  · exact q
  · rw [Array.getElem?_eq_none q] at hg; simp at hg
theorem RAt.not8 {w : World} {g : Nat} {s : RS} (h : RAt w g s) : ∀ b cs m, w.heap[b]? = some (.cells cs 5 m) → ¬ b = g := by
  rintro b cs m hb rfl
  obtain ⟨v, hg, _⟩ := h
  rw [hg] at hb
  simp at hb
theorem RAt.setErr {w : World} {g : Nat} {s : RS} (h : RAt w g s) (e : Nat) (he : e < 256) : RAt (w.setCell ⟨g, 1, none⟩ (.int .i64 e)) g { s with e := e } := by
  have hn := h.no8
  have ht := h.not8
  obtain ⟨v, hg, hb, _, h8⟩ := h
  refine ⟨v, ?_, hb.kept (kept_set (F := fun k => k = g) w ⟨g, 1, none⟩ _ rfl) hn, he, h8.kept (kept_set (F := fun k => k = g) w ⟨g, 1, none⟩ _ rfl) ht⟩
  rw [heap_setCell_same w g 1 _ _ _ hg]; rfl
theorem RAt.setLeft {w : World} {g : Nat} {s : RS} {v' : Value} {l' : List UInt8} (h : RAt w g s) (hv : Bytes w v' l') (h8 : T8 w v') : RAt (w.setCell ⟨g, 0, none⟩ v') g { s with l := l' } := by
  have hn := h.no8
  have ht := h.not8
  obtain ⟨v, hg, hb, he, _⟩ := h
  refine ⟨v', ?_, hv.kept (kept_set (F := fun k => k = g) w ⟨g, 0, none⟩ _ rfl) hn, he, h8.kept (kept_set (F := fun k => k = g) w ⟨g, 0, none⟩ _ rfl) ht⟩
  rw [heap_setCell_same w g 0 _ _ _ hg]; rfl
theorem RAt.kept {F : Nat → Prop} {w w' : World} {g : Nat} {s : RS} (h : RAt w g s) (hk : Kept F w w') (hg : ¬ F g) (hF : ∀ b cs m, w.heap[b]? = some (.cells cs 5 m) → ¬ F b) : RAt w' g s := by
  have hlt := h.lt
  obtain ⟨v, h1, h2, h3, h8⟩ := h
  refine ⟨v, by rw [hk.block g hlt hg]; exact h1, ?_, h3, h8.kept hk hF⟩
  obtain ⟨a, cap, e, q1, q2, q0, q3⟩ := h2
  refine ⟨a, cap, e, q1, q2, q0, fun k hk' => ?_⟩
  obtain ⟨b, off, ea, hc⟩ := q3 k hk'
  subst ea
  obtain ⟨cs, m, hb⟩ := h8 ⟨b, off, none⟩ _ _ e
  refine ⟨b, off, rfl, ?_⟩
  rw [World.cell?_of_block (w := w) (w' := w') (a := ⟨b, off + k, none⟩) (hk.block b (block_lt_of_cell hc) (hF _ _ _ hb))]; exact hc
theorem RAt.below {w w' : World} {g : Nat} {s : RS} (h : RAt w g s) (hk : Below w.heap.size w w') : RAt w' g s :=
  h.kept (Below.kept hk (fun _ => False)) id (fun _ _ _ _ => id)
theorem RAt.cells {w : World} {g : Nat} {s : RS} (h : RAt w g s) :
    ∃ a cap, s.l.length ≤ cap ∧ cap ≤ maxLen ∧ Bytes w (.slice a s.l.length cap) s.l ∧ w.cell? ⟨g, 0, none⟩ = some (.slice a s.l.length cap) ∧ w.cell? ⟨g, 1, none⟩ = some (.int .i64 s.e) ∧ w.frozen? ⟨g, 0, none⟩ = false ∧ w.frozen? ⟨g, 1, none⟩ = false := by
  obtain ⟨v, hg, hb, _⟩ := h
  obtain ⟨a, cap, rfl, h1, h2⟩ := hb.len
  refine ⟨a, cap, h1, h2, hb, ?_, ?_, frozen_of_row w g 0 _ _ hg, frozen_of_row w g 1 _ _ hg⟩
  · rw [cell_of_row w g 0 _ _ _ hg]; rfl
  · rw [cell_of_row w g 1 _ _ _ hg]; rfl
theorem RAt.t8 {w : World} {g : Nat} {s : RS} (h : RAt w g s) {v : Value} (hc : w.cell? ⟨g, 0, none⟩ = some v) : T8 w v := by
  obtain ⟨u, hg, _, _, h8⟩ := h
  rw [cell_of_row w g 0 _ _ _ hg] at hc
  simp at hc
  subst hc
  exact h8
/-- What a call that reads leaves. -/
def Read (g : Nat) (s' : RS) (w w' : World) : Prop := RAt w' g s' ∧ Kept (fun k => k = g) w w'
theorem Read.trans {g : Nat} {s s' : RS} {a b c : World} (h : Read g s a b) (k : Read g s' b c) : Read g s' a c := ⟨k.1, h.2.trans k.2 (fun _ _ h => h)⟩
theorem num_lt (b : List UInt8) : (num b 0).1 < 18446744073709551616 ∧ (num b 0).2.1 ≤ b.length ∧ (num b 0).2.1 ≤ 10 ∧ (num b 0).2.2 < 256 := by
  by_cases h : (num b 0).2.2 = 0
  · obtain ⟨_, h1, h2, h3, _⟩ := form_num b 0 h
    have h4 := congrArg List.length h1
    rw [List.length_append] at h4
    have h5 := form_ten (num b 0).1 (by simpa using h3)
    refine ⟨by simpa using h3, by omega, by omega, by omega⟩
  · have e := num_err b 0 h
    have h3 : (num b 0).2.2 < 256 := by
      have key : ∀ (b : List UInt8) (i : Nat), (num b i).2.2 < 256 := by
        intro b
        induction b with
        | nil => intro i; simp only [num]; split <;> decide
        | cons c t ih =>
          intro i
          rw [num]
          split
          · simp
          · split
            · split
              · simp
              · exact ih (i + 1)
            · split <;> simp
      exact key b 0
    rw [e]
    exact ⟨by show 0 < _; decide, Nat.zero_le _, by show 0 ≤ 10; decide, h3⟩

set_option maxHeartbeats 1000000 in
theorem newReader_any (v : Value) (l : List UInt8) (w : World) (hv : Bytes w v l) (hl : l.length ≤ 200000000000000) :
    Calls Tryz.prog 75 #[v] w fun e w' => ∃ g, e = .returned (.pointer (some ⟨g, 0, none⟩)) ∧ RAt w' g ⟨l, 0⟩ ∧ w.heap.size ≤ g ∧ Below w.heap.size w w' := by
  have V : Aside (Bytes w v l) := hv
  obtain ⟨a, cap, rfl, hlc, hcm⟩ := hv.len
  clear hv
  unfold maxLen at hcm
  go_enter Tryz.func75, Tryz.ntmps75
  go_wp2_with fail
  refine (clone_any _ l w V.out hl).mono ?_
  rintro e w1 ⟨u, rfl, ho, hb⟩
  obtain ⟨a1, n1, cap1, rfl⟩ : ∃ a1 n1 cap1, u = .slice a1 n1 cap1 := by
    obtain ⟨a1, cap1, e, _, _⟩ := ho.bytes.len
    exact ⟨a1, _, cap1, e⟩
  have A : Aside (Own w.heap.size w1 (.slice a1 n1 cap1) l ∧ Below w.heap.size w w1) := ⟨ho, hb⟩
  clear ho hb
  go_wp2_with fail
  go_ret
  refine ⟨w1.heap.size, rfl, ⟨.slice a1 n1 cap1, ?_, A.out.1.bytes.below ((Below.refl _ _).alloc (Nat.le_refl _) _), by simp, A.out.1.t8.kept (Below.kept ((Below.refl _ _).alloc (Nat.le_refl _) _) (fun _ => False)) (fun _ _ _ _ => id)⟩, A.out.2.size, A.out.2.alloc A.out.2.size _⟩
  rw [heap_alloc_new]; rfl

set_option maxHeartbeats 1000000 in
theorem pass_any (g k : Nat) (s : RS) (w : World) (H : RAt w g s) (hk : k ≤ s.l.length) :
    Calls Tryz.prog 102 #[.pointer (some ⟨g, 0, none⟩), .int .i64 k] w fun e w' => e = .returned (.tuple #[]) ∧ Read g ⟨s.l.drop k, s.e⟩ w w' := by
  have V : Aside (RAt w g s) := H
  obtain ⟨a, cap, h1, h2, hb, c0, c1, f0, f1⟩ := H.cells
  have A : Aside (Bytes w (.slice a s.l.length cap) s.l) := hb
  have A8 : Aside (T8 w (.slice a s.l.length cap)) := H.t8 c0
  unfold maxLen at h2
  clear H hb
  go_enter Tryz.func102, Tryz.ntmps102
  go_wp2_with fail
  all_goals
    first | go_end0 | refine bodyPost_ret (results_none rfl _ _ _) rfl ?_
    refine ⟨rfl, V.out.setLeft ?_ (by first | exact A8.out.re | exact A8.out.add), kept_set _ ⟨g, 0, none⟩ _ rfl⟩
    first | exact A.out.drop k hk | exact A.out.drop_all hk | exact Bytes.none_left (by omega) (List.drop_eq_nil_of_le (by omega))

theorem pass_eq {n : Int} {k : Nat} (hn : n = k) (g : Nat) (s : RS) (w : World) (H : RAt w g s) (hk : k ≤ s.l.length) :
    Calls Tryz.prog 102 #[.pointer (some ⟨g, 0, none⟩), .int .i64 n] w fun e w' => e = .returned (.tuple #[]) ∧ Read g ⟨s.l.drop k, s.e⟩ w w' := by
  rw [hn]; exact pass_any g k s w H hk
set_option maxHeartbeats 1000000 in
theorem number_any (g : Nat) (s : RS) (w : World) (H : RAt w g s) :
    Calls Tryz.prog 105 #[.pointer (some ⟨g, 0, none⟩)] w fun e w' =>
      e = .returned (.tuple #[.int .u64 (if s.e = 0 then (num s.l 0).1 else 0 : Nat), .int .i64 (if s.e = 0 then (num s.l 0).2.1 else 0 : Nat)]) ∧ Read g ⟨s.l, if s.e = 0 then (num s.l 0).2.2 else s.e⟩ w w' := by
  have V : Aside (RAt w g s) := H
  obtain ⟨a, cap, h1, h2, hb, c0, c1, f0, f1⟩ := H.cells
  have A : Aside (Bytes w (.slice a s.l.length cap) s.l) := hb
  clear H hb
  go_enter Tryz.func105, Tryz.ntmps105
  by_cases he : s.e = 0
  · have E : Aside (s.e = 0) := he
    simp only [if_pos he]
    rw [he] at c1
    clear he
    go_wp2_with fail
    refine (firstNumber_any _ s.l w A.out).mono ?_
    rintro e w ⟨rfl, rfl⟩
    obtain ⟨r, hr⟩ : ∃ r, r = num s.l 0 := ⟨_, rfl⟩
    rw [← hr]
    have R : Aside (r = num s.l 0) := hr
    clear hr
    go_wp2_with fail
    go_ret2
    rw [← R.out]
    refine ⟨rfl, V.out.setErr r.2.2 ?_, kept_set _ ⟨g, 1, none⟩ _ rfl⟩
    rw [R.out]; exact (num_lt s.l).2.2.2
  · have he' : ¬ (s.e : Int) = 0 := by omega
    simp only [if_neg he]
    clear he
    go_wp2_with fail
    go_ret2
    exact ⟨rfl, V.out, Kept.refl _ _⟩

/-- What numberUpTo tells: the number, the size, the error. -/
def RS.upTo (s : RS) (most : Int) : Nat × Nat × Nat :=
  if s.e = 0 then (if (num s.l 0).2.2 = 0 then (if most < 0 ∨ most < (num s.l 0).1 then (0, 0, 23) else num s.l 0) else (0, 0, (num s.l 0).2.2)) else (0, 0, s.e)
theorem upTo_size (s : RS) (most : Int) : (s.upTo most).2.1 ≤ s.l.length ∧ (s.upTo most).2.1 ≤ 10 := by
  have h := num_lt s.l
  unfold RS.upTo
  repeat' split
  all_goals first | exact ⟨Nat.zero_le _, Nat.zero_le _⟩ | exact ⟨h.2.1, h.2.2.1⟩

set_option maxHeartbeats 1000000 in
theorem numberUpTo_any (g : Nat) (most : Int) (s : RS) (w : World) (h1 : -9223372036854775808 ≤ most) (h2 : most < 9223372036854775808) (H : RAt w g s) :
    Calls Tryz.prog 104 #[.pointer (some ⟨g, 0, none⟩), .int .i64 most] w fun e w' =>
      e = .returned (.tuple #[.int .i64 (s.upTo most).1, .int .i64 (s.upTo most).2.1]) ∧ Read g ⟨s.l, (s.upTo most).2.2⟩ w w' := by
  have V : Aside (RAt w g s) := H
  clear H
  go_enter Tryz.func104, Tryz.ntmps104
  go_wp2_with fail
  refine (number_any g s w V.out).mono ?_
  rintro e w1 ⟨rfl, hr⟩
  obtain ⟨_, _, _, _, _, _, c1, _, f1⟩ := hr.1.cells
  have R : Aside (Read g ⟨s.l, if s.e = 0 then (num s.l 0).2.2 else s.e⟩ w w1) := hr
  clear hr
  by_cases he : s.e = 0
  · simp only [if_pos he] at c1 ⊢
    have E : Aside (s.e = 0) := he
    clear he
    obtain ⟨r, hr⟩ : ∃ r, r = num s.l 0 := ⟨_, rfl⟩
    have N := num_lt s.l
    rw [← hr] at c1 N ⊢
    have R2 : Aside (r = num s.l 0) := hr
    clear hr
    obtain ⟨n1, n2, n3, n4⟩ := N
    by_cases hz : r.2.2 = 0
    · rw [hz] at c1
      have Z : Aside (r.2.2 = 0) := hz
      clear hz
      by_cases hm : most < 0
      · have U : Aside (s.upTo most = (0, 0, 23)) := by
          unfold RS.upTo; rw [if_pos E.out, ← R2.out, if_pos Z.out, if_pos (Or.inl hm)]; rfl
        go_wp2_with fail
        go_ret2
        rw [U.out]
        exact ⟨rfl, (R.out.1).setErr 23 (by decide), R.out.2.trans (kept_set (F := fun k => k = g) _ ⟨g, 1, none⟩ _ rfl) (fun _ _ h => h)⟩
      · by_cases hm2 : most < (r.1 : Int)
        · have U : Aside (s.upTo most = (0, 0, 23)) := by
            unfold RS.upTo; rw [if_pos E.out, ← R2.out, if_pos Z.out, if_pos (Or.inr hm2)]; rfl
          go_wp2_with fail
          go_ret2
          rw [U.out]
          exact ⟨rfl, (R.out.1).setErr 23 (by decide), R.out.2.trans (kept_set (F := fun k => k = g) _ ⟨g, 1, none⟩ _ rfl) (fun _ _ h => h)⟩
        · have U : Aside (s.upTo most = r) := by
            unfold RS.upTo; rw [if_pos E.out, ← R2.out, if_pos Z.out, if_neg (by omega)]; rfl
          have hm3 : (r.1 : Int) ≤ most := by omega
          go_wp2_with fail
          go_ret2
          rw [U.out]
          have R' := R.out
          rw [if_pos E.out, ← R2.out] at R'
          exact ⟨rfl, R'⟩
    · have hz' : ¬ (r.2.2 : Int) = 0 := by omega
      have U : Aside (s.upTo most = (0, 0, r.2.2)) := by
        unfold RS.upTo; rw [if_pos E.out, ← R2.out, if_neg hz]; rfl
      clear hz
      go_wp2_with fail
      go_ret2
      rw [U.out]
      have R' := R.out
      rw [if_pos E.out, ← R2.out] at R'
      exact ⟨rfl, R'⟩
  · simp only [if_neg he] at c1 ⊢
    have U : Aside (s.upTo most = (0, 0, s.e)) := by unfold RS.upTo; rw [if_neg he]; rfl
    have he' : ¬ (s.e : Int) = 0 := by omega
    have R' : Read g ⟨s.l, s.e⟩ w w1 := by have := R.out; rw [if_neg he] at this; exact this
    have R'' : Aside (Read g ⟨s.l, s.e⟩ w w1) := R'
    clear he R' R
    go_wp2_with fail
    go_ret2
    rw [U.out]
    exact ⟨rfl, R''.out⟩

theorem numberUpTo_eq {n most : Int} (hn : n = most) (g : Nat) (s : RS) (w : World) (h1 : -9223372036854775808 ≤ most) (h2 : most < 9223372036854775808) (H : RAt w g s) :
    Calls Tryz.prog 104 #[.pointer (some ⟨g, 0, none⟩), .int .i64 n] w fun e w' =>
      e = .returned (.tuple #[.int .i64 (s.upTo most).1, .int .i64 (s.upTo most).2.1]) ∧ Read g ⟨s.l, (s.upTo most).2.2⟩ w w' := by
  rw [hn]; exact numberUpTo_any g most s w h1 h2 H
/-- Uint: the number and the state. -/
def RS.uint (s : RS) : Nat × RS := if s.e = 0 then ((num s.l 0).1, ⟨s.l.drop (num s.l 0).2.1, (num s.l 0).2.2⟩) else (0, s)
set_option maxHeartbeats 1000000 in
theorem rUint_any (g : Nat) (s : RS) (w : World) (H : RAt w g s) :
    Calls Tryz.prog 79 #[.pointer (some ⟨g, 0, none⟩)] w fun e w' => e = .returned (.int .u64 s.uint.1) ∧ Read g s.uint.2 w w' := by
  have V : Aside (RAt w g s) := H
  have N := num_lt s.l
  have N' : Aside ((num s.l 0).2.1 ≤ s.l.length) := N.2.1
  clear H N
  go_enter Tryz.func79, Tryz.ntmps79
  go_wp2_with fail
  refine (number_any g s w V.out).mono ?_
  rintro e w1 ⟨rfl, hr⟩
  have R : Aside (Read g ⟨s.l, if s.e = 0 then (num s.l 0).2.2 else s.e⟩ w w1) := hr
  clear hr
  by_cases he : s.e = 0
  · have U : Aside (s.uint = ((num s.l 0).1, ⟨s.l.drop (num s.l 0).2.1, (num s.l 0).2.2⟩)) := by unfold RS.uint; rw [if_pos he]; rfl
    simp only [if_pos he] at R ⊢
    clear he
    go_wp2_with fail
    refine (pass_any g (num s.l 0).2.1 ⟨s.l, (num s.l 0).2.2⟩ w1 R.out.1 N'.out).mono ?_
    rintro e w2 ⟨rfl, hp⟩
    have P : Aside (Read g ⟨s.l.drop (num s.l 0).2.1, (num s.l 0).2.2⟩ w w2) := R.out.trans hp
    clear hp
    go_wp2_with fail
    go_ret
    rw [U.out]
    exact ⟨rfl, P.out⟩
  · have U : Aside (s.uint = (0, s)) := by unfold RS.uint; rw [if_neg he]; rfl
    simp only [if_neg he] at R ⊢
    clear he
    go_wp2_with fail
    refine (pass_any g 0 s w1 R.out.1 (Nat.zero_le _)).mono ?_
    rintro e w2 ⟨rfl, hp⟩
    have P : Aside (Read g s w w2) := R.out.trans hp
    clear hp
    go_wp2_with fail
    go_ret
    rw [U.out]
    exact ⟨rfl, P.out⟩

def RS.int (s : RS) : Int × RS := (zag s.uint.1, s.uint.2)
theorem uint_lt (s : RS) : s.uint.1 < 18446744073709551616 := by
  unfold RS.uint; split
  · exact (num_lt s.l).1
  · show 0 < 18446744073709551616; decide
theorem RAt.first {w : World} {g : Nat} {s : RS} (_h : RAt w g s) {a : Option Addr} {cap : Nat} (hb : Bytes w (.slice a s.l.length cap) s.l) (c : UInt8) (t : List UInt8) (hs : s.l = c :: t) :
    ∃ b off, a = some ⟨b, off, none⟩ ∧ w.cell? ⟨b, off, none⟩ = some (.int .u8 (c8 c)) := by
  obtain ⟨a', cap', e, _, _, _, hc⟩ := hb
  simp only [Value.slice.injEq, true_and] at e
  obtain ⟨rfl, rfl⟩ := e
  obtain ⟨b, off, ea, h⟩ := hc 0 (by rw [hs]; simp)
  refine ⟨b, off, ea, ?_⟩
  rw [Nat.add_zero] at h
  rw [h, hs]; rfl

def RS.byte (s : RS) : UInt8 × RS := if s.e = 0 then (match s.l with | [] => (0, ⟨[], 20⟩) | c :: t => (c, ⟨t, 0⟩)) else (0, s)
set_option maxHeartbeats 1000000 in
set_option maxRecDepth 100000 in
theorem rByte_any (g : Nat) (s : RS) (w : World) (H : RAt w g s) :
    Calls Tryz.prog 76 #[.pointer (some ⟨g, 0, none⟩)] w fun e w' => e = .returned (.int .u8 (c8 s.byte.1)) ∧ Read g s.byte.2 w w' := by
  have V : Aside (RAt w g s) := H
  obtain ⟨a, cap, h1, h2, hb, c0, c1, f0, f1⟩ := H.cells
  have A : Aside (Bytes w (.slice a s.l.length cap) s.l) := hb
  unfold maxLen at h2
  clear H hb
  obtain ⟨l, er⟩ := s
  simp only at c0 c1 h1
  go_enter Tryz.func76, Tryz.ntmps76
  by_cases he : er = 0
  · subst he
    cases l with
    | nil =>
      simp only [List.length_nil] at c0
      go_wp2_with fail
      all_goals
        go_ret
        exact ⟨rfl, V.out.setErr 20 (by decide), kept_set _ ⟨g, 1, none⟩ _ rfl⟩
    | cons c t =>
      obtain ⟨b, off, rfl, hc⟩ := V.out.first A.out c t rfl
      have c1' := c8_lo c
      have c2' := c8_hi c
      simp only [List.length_cons] at c0 h1
      go_wp2_with fail
      refine (pass_any g 1 _ w V.out (by simp)).mono ?_
      rintro e w2 ⟨rfl, hp⟩
      have P : Aside (Read g ⟨t, 0⟩ w w2) := hp
      clear hp c0 c1 f0 f1 hc h1 h2 c1' c2' A V
      go_wp2_with fail
      go_ret
      exact ⟨rfl, P.out⟩
  · have he' : ¬ (er : Int) = 0 := by omega
    have U : Aside (RS.byte ⟨l, er⟩ = (0, ⟨l, er⟩)) := by unfold RS.byte; rw [if_neg he]; rfl
    clear he
    go_wp2_with fail
    go_ret
    rw [U.out]
    exact ⟨rfl, V.out, Kept.refl _ _⟩

def RS.bool (s : RS) : Bool × RS := if s.e = 0 then (match s.l with | [] => (false, ⟨[], 20⟩) | c :: t => if 1 < c.toNat then (false, ⟨c :: t, 21⟩) else (c == 1, ⟨t, 0⟩)) else (false, s)
def RS.count (s : RS) (most : Int) : Nat × RS := ((s.upTo (min most 4096)).1, ⟨s.l.drop (s.upTo (min most 4096)).2.1, (s.upTo (min most 4096)).2.2⟩)
set_option maxHeartbeats 1000000 in
theorem rCount_any (g : Nat) (most : Int) (s : RS) (w : World) (h1 : -9223372036854775808 ≤ most) (H : RAt w g s) :
    Calls Tryz.prog 78 #[.pointer (some ⟨g, 0, none⟩), .int .i64 most] w fun e w' => e = .returned (.int .i64 (s.count most).1) ∧ Read g (s.count most).2 w w' := by
  have V : Aside (RAt w g s) := H
  clear H
  obtain ⟨m, hm⟩ : ∃ m, m = min most 4096 := ⟨_, rfl⟩
  have hm1 : -9223372036854775808 ≤ m := by omega
  have hm2 : m < 9223372036854775808 := by omega
  have U : Aside (s.count most = ((s.upTo m).1, ⟨s.l.drop (s.upTo m).2.1, (s.upTo m).2.2⟩)) := by rw [hm]; rfl
  have M : Aside (m = min most 4096) := hm
  clear hm
  go_enter Tryz.func78, Tryz.ntmps78
  go_wp2_with fail
  all_goals
    refine (numberUpTo_eq (most := m) ?hn g s w hm1 hm2 V.out).mono ?_
    case hn => rw [M.out]; omega
    rintro e w1 ⟨rfl, hr⟩
    have R : Aside (Read g ⟨s.l, (s.upTo m).2.2⟩ w w1) := hr
    clear hr
    go_wp2_with fail
    refine (pass_any g (s.upTo m).2.1 ⟨s.l, (s.upTo m).2.2⟩ w1 R.out.1 (upTo_size s m).1).mono ?_
    rintro e w2 ⟨rfl, hp⟩
    have P : Aside (Read g ⟨s.l.drop (s.upTo m).2.1, (s.upTo m).2.2⟩ w w2) := R.out.trans hp
    clear hp
    go_wp2_with fail
    go_ret
    rw [U.out]
    exact ⟨rfl, P.out⟩

def RS.text (s : RS) (most : Int) : List UInt8 × RS :=
  if (s.upTo most).2.2 = 0 then
    (if (s.upTo most).1 ≤ s.l.length - (s.upTo most).2.1 then ((s.l.drop (s.upTo most).2.1).take (s.upTo most).1, ⟨s.l.drop ((s.upTo most).2.1 + (s.upTo most).1), 0⟩) else ([], ⟨s.l, 20⟩))
  else ([], ⟨s.l, (s.upTo most).2.2⟩)
theorem Bytes.take' {w : World} {a : Option Addr} {n cap : Nat} {l : List UInt8} (H : Bytes w (.slice a n cap) l) (k : Nat) (hk : k ≤ n) : Bytes w (.slice a k cap) (l.take k) := by
  have e : n = l.length := by
    obtain ⟨_, _, e, _⟩ := H.len
    simp only [Value.slice.injEq] at e
    exact e.2.1
  subst e
  exact H.take k hk
set_option maxHeartbeats 1000000 in
theorem rText_any (g : Nat) (most : Int) (s : RS) (w : World) (h1 : -9223372036854775808 ≤ most) (h2 : most < 9223372036854775808) (H : RAt w g s) :
    Calls Tryz.prog 103 #[.pointer (some ⟨g, 0, none⟩), .int .i64 most] w fun e w' => e = .returned (.string (txt (s.text most).1)) ∧ Read g (s.text most).2 w w' := by
  have V : Aside (RAt w g s) := H
  have Z := upTo_size s most
  clear H
  go_enter Tryz.func103, Tryz.ntmps103
  go_wp2_with fail
  refine (numberUpTo_any g most s w h1 h2 V.out).mono ?_
  rintro e w1 ⟨rfl, hr⟩
  obtain ⟨a, cap, q1, q2, hb, c0, c1, f0, f1⟩ := hr.1.cells
  simp only at c0 c1 q1 q2 hb
  unfold maxLen at q2
  have A : Aside (Bytes w1 (.slice a s.l.length cap) s.l) := hb
  obtain ⟨r, hr2⟩ : ∃ r, r = s.upTo most := ⟨_, rfl⟩
  have U : Aside (r = s.upTo most) := hr2
  rw [← hr2] at hr c1 Z ⊢
  have R : Aside (Read g ⟨s.l, r.2.2⟩ w w1) := hr
  obtain ⟨z1, z2⟩ := Z
  clear hr hr2 hb
  by_cases hz : r.2.2 = 0
  · rw [hz] at c1
    have Z' : Aside (r.2.2 = 0) := hz
    clear hz
    by_cases hfit : r.1 ≤ s.l.length - r.2.1
    · have X : Aside (s.text most = ((s.l.drop r.2.1).take r.1, ⟨s.l.drop (r.2.1 + r.1), 0⟩)) := by
        unfold RS.text; rw [← U.out, if_pos Z'.out, if_pos hfit]; rfl
      have hfit' : ¬ ((r.1 : Int) > (s.l.length : Int) - (r.2.1 : Int)) := by omega
      have K1 : Aside (∀ w2, Read g ⟨s.l.drop (r.2.1 + r.1), r.2.2⟩ w1 w2 → ∀ v l, Bytes w1 v l → Bytes w2 v l) := fun w2 h v l hv => hv.kept h.2 R.out.1.no8
      go_wp2_with fail
      · refine (pass_eq (k := r.2.1 + r.1) (by omega) g ⟨s.l, r.2.2⟩ w1 R.out.1 (by show _ ≤ s.l.length; omega)).mono ?_
        rintro e w2 ⟨rfl, hp⟩
        have Bw : Bytes w1 (.slice a (s.l.length - r.2.1) 0) (s.l.drop r.2.1) := Bytes.none_left (by omega) (List.drop_eq_nil_of_le (by omega))
        have hc := convT ((K1.out w2 hp _ _ Bw).take' r.1 hfit)
        have P : Aside (Read g ⟨s.l.drop (r.2.1 + r.1), r.2.2⟩ w w2) := R.out.trans hp
        clear hp Bw K1 c0 c1 f0 f1
        go_wp2_with fail
        go_ret
        rw [X.out]
        exact ⟨rfl, by have := P.out; rw [Z'.out] at this; exact this⟩
      · refine (pass_eq (k := r.2.1 + r.1) (by omega) g ⟨s.l, r.2.2⟩ w1 R.out.1 (by show _ ≤ s.l.length; omega)).mono ?_
        rintro e w2 ⟨rfl, hp⟩
        have Bw : Bytes w1 (.slice (Option.map (fun x => x.add r.2.1) a) (s.l.length - r.2.1) (cap - r.2.1)) (s.l.drop r.2.1) := A.out.drop r.2.1 z1
        have hc := convT ((K1.out w2 hp _ _ Bw).take' r.1 hfit)
        have P : Aside (Read g ⟨s.l.drop (r.2.1 + r.1), r.2.2⟩ w w2) := R.out.trans hp
        clear hp Bw K1 c0 c1 f0 f1
        have hq : r.1 ≤ cap - r.2.1 := by omega
        obtain ⟨a2, ha2⟩ : ∃ a2, a2 = Option.map (fun x : Addr => x.add r.2.1) a := ⟨_, rfl⟩
        rw [← ha2] at hc ⊢
        clear ha2
        go_wp2_with fail
        go_ret
        rw [X.out]
        exact ⟨rfl, by have := P.out; rw [Z'.out] at this; exact this⟩
    · have X : Aside (s.text most = ([], ⟨s.l, 20⟩)) := by
        unfold RS.text; rw [← U.out, if_pos Z'.out, if_neg hfit]; rfl
      have hfit' : ((r.1 : Int) > (s.l.length : Int) - (r.2.1 : Int)) := by omega
      go_wp2_with fail
      all_goals
        go_ret
        rw [X.out]
        exact ⟨rfl, R.out.1.setErr 20 (by decide), R.out.2.trans (kept_set (F := fun k => k = g) _ ⟨g, 1, none⟩ _ rfl) (fun _ _ h => h)⟩
  · have hz' : ¬ (r.2.2 : Int) = 0 := by omega
    have X : Aside (s.text most = ([], ⟨s.l, r.2.2⟩)) := by
      unfold RS.text; rw [← U.out, if_neg hz]; rfl
    clear hz
    go_wp2_with fail
    go_ret
    rw [X.out]
    exact ⟨rfl, R.out⟩

def RS.fin (s : RS) : Nat := if s.e = 0 then (if s.l.length = 0 then 0 else 22) else s.e
end Go.Proofs.YtanpneahembhbaaGreatDoor
