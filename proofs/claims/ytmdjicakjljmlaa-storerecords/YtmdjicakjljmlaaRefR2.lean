/-
  THE DOCUMENTS READER: NewReader, Uint, Int, Byte, Left, Err, End.
-/
import Derived.Test.YtmdjicakjljmlaaRefR
import Derived.Test.YtmdjicakjljmlaaRefW2
namespace Go.Proofs.Ytmdjicakjljmlaa
open Go.RowKit

/-- The documents reader at block g over the bytes b. -/
def YAt (w : World) (g : Nat) (v0 : Value) (b : List UInt8) (s : RS) : Prop :=
  ∃ (k : Nat), w.heap[g]? = some (.cells #[v0, .int .i64 k, .int .i64 s.e] 65 (0, 0)) ∧ Bytes w v0 b ∧ k ≤ b.length ∧ s.l = b.drop k ∧ s.e < 256

theorem YAt.no8 {w : World} {g : Nat} {v0 : Value} {b : List UInt8} {s : RS} (h : YAt w g v0 b s) : ∀ b o c, w.cell? ⟨b, o, none⟩ = some (.int .u8 c) → ¬ b = g := by
  rintro b' o c hc rfl
  obtain ⟨k, hg, hb, _⟩ := h
  obtain ⟨a, cap, rfl, _⟩ := hb.len
  rw [cell_of_row w b' o _ _ _ hg] at hc
  match o with
  | 0 => simp at hc
  | 1 => simp at hc
  | 2 => simp at hc
  | (o + 3) => simp at hc
theorem YAt.lt {w : World} {g : Nat} {v0 : Value} {b : List UInt8} {s : RS} (h : YAt w g v0 b s) : g < w.heap.size := by
  obtain ⟨k, hg, _⟩ := h
  rcases Nat.lt_or_ge g w.heap.size with q | q
  · exact q
  · rw [Array.getElem?_eq_none q] at hg; simp at hg
theorem YAt.setCode {w : World} {g : Nat} {v0 : Value} {b : List UInt8} {s : RS} (h : YAt w g v0 b s) (e : Nat) (he : e < 256) : YAt (w.setCell ⟨g, 2, none⟩ (.int .i64 e)) g v0 b ⟨s.l, e⟩ := by
  have hn := h.no8
  obtain ⟨k, hg, hb, hk, hl, _⟩ := h
  refine ⟨k, ?_, hb.kept (kept_set (F := fun k => k = g) w ⟨g, 2, none⟩ _ rfl) hn, hk, hl, he⟩
  rw [heap_setCell_same w g 2 _ _ _ hg]; rfl
theorem YAt.setAt {w : World} {g : Nat} {v0 : Value} {b : List UInt8} {s : RS} (h : YAt w g v0 b s) (k' : Nat) (hk' : k' ≤ b.length) : YAt (w.setCell ⟨g, 1, none⟩ (.int .i64 k')) g v0 b ⟨b.drop k', s.e⟩ := by
  have hn := h.no8
  obtain ⟨k, hg, hb, hk, hl, he⟩ := h
  refine ⟨k', ?_, hb.kept (kept_set (F := fun k => k = g) w ⟨g, 1, none⟩ _ rfl) hn, hk', rfl, he⟩
  rw [heap_setCell_same w g 1 _ _ _ hg]; rfl
theorem YAt.kept {F : Nat → Prop} {w w' : World} {g : Nat} {v0 : Value} {b : List UInt8} {s : RS} (h : YAt w g v0 b s) (hk : Kept F w w') (hg : ¬ F g) (hF : ∀ b o c, w.cell? ⟨b, o, none⟩ = some (.int .u8 c) → ¬ F b) : YAt w' g v0 b s := by
  have hlt := h.lt
  obtain ⟨k, h1, h2, h3⟩ := h
  exact ⟨k, by rw [hk.block g hlt hg]; exact h1, h2.kept hk hF, h3⟩
theorem YAt.below {w w' : World} {g : Nat} {v0 : Value} {b : List UInt8} {s : RS} (h : YAt w g v0 b s) (hk : Below w.heap.size w w') : YAt w' g v0 b s :=
  h.kept (Below.kept hk (fun _ => False)) id (fun _ _ _ _ => id)
theorem YAt.drewN {w : World} {g : Nat} {v0 : Value} {b : List UInt8} {s : RS} (h : YAt w g v0 b s) (n : Nat) : YAt (w.drewN n) g v0 b s := h.below (below_drawn w n)
theorem YAt.cells {w : World} {g : Nat} {v0 : Value} {b : List UInt8} {s : RS} (h : YAt w g v0 b s) :
    ∃ (a : Option Addr) (cap k : Nat), b.length ≤ cap ∧ cap ≤ maxLen ∧ Bytes w (.slice a b.length cap) b ∧ k ≤ b.length ∧ s.l = b.drop k ∧ w.cell? ⟨g, 0, none⟩ = some (.slice a b.length cap) ∧ w.cell? ⟨g, 1, none⟩ = some (.int .i64 k) ∧ w.cell? ⟨g, 2, none⟩ = some (.int .i64 s.e) ∧ w.frozen? ⟨g, 1, none⟩ = false ∧ w.frozen? ⟨g, 2, none⟩ = false := by
  obtain ⟨k, hg, hb, hk, hl, _⟩ := h
  obtain ⟨a, cap, rfl, h1, h2⟩ := hb.len
  refine ⟨a, cap, k, h1, h2, hb, hk, hl, ?_, ?_, ?_, frozen_of_row w g 1 _ _ hg, frozen_of_row w g 2 _ _ hg⟩
  · rw [cell_of_row w g 0 _ _ _ hg]; rfl
  · rw [cell_of_row w g 1 _ _ _ hg]; rfl
  · rw [cell_of_row w g 2 _ _ _ hg]; rfl
theorem YAt.grow {w w' w2 : World} {g : Nat} {v0 : Value} {b : List UInt8} {s : RS} (h : YAt w g v0 b s) (h2 : Bytes w2 v0 b) (hb : Below w2.heap.size w w') (hg : g < w2.heap.size) : YAt w' g v0 b s := by
  obtain ⟨k, h1, ⟨a, cap, e, b1, b2, b3, b4⟩, h3⟩ := h
  obtain ⟨a', cap', e', _, _, _, b4'⟩ := h2
  rw [e] at e'
  simp only [Value.slice.injEq, true_and] at e'
  obtain ⟨rfl, rfl⟩ := e'
  refine ⟨k, by rw [hb.block g hg]; exact h1, ⟨a, cap, e, b1, b2, b3, fun j hj => ?_⟩, h3⟩
  obtain ⟨x, off, ea, hc⟩ := b4 j hj
  obtain ⟨x', off', ea', hc'⟩ := b4' j hj
  rw [ea] at ea'
  simp only [Option.some.injEq, Addr.mk.injEq, and_true] at ea'
  obtain ⟨rfl, rfl⟩ := ea'
  exact ⟨x, off, ea, by rw [hb.cell (p := ⟨x, off + j, none⟩) (block_lt_of_cell hc')]; exact hc⟩
/-- What a call of the documents reader leaves. -/
def ReadY (g : Nat) (v0 : Value) (b : List UInt8) (s' : RS) (w w' : World) : Prop := YAt w' g v0 b s' ∧ Kept (fun k => k = g) w w'
theorem ReadY.trans {g : Nat} {v0 : Value} {b : List UInt8} {s s' : RS} {x y z : World} (h : ReadY g v0 b s x y) (k : ReadY g v0 b s' y z) : ReadY g v0 b s' x z := ⟨k.1, h.2.trans k.2 (fun _ _ h => h)⟩
theorem ReadY.code {g : Nat} {v0 : Value} {b : List UInt8} {s : RS} {x y : World} (h : ReadY g v0 b s x y) (e : Nat) (he : e < 256) : ReadY g v0 b ⟨s.l, e⟩ x (y.setCell ⟨g, 2, none⟩ (.int .i64 e)) := ⟨h.1.setCode e he, h.2.trans (kept_set (F := fun k => k = g) _ ⟨g, 2, none⟩ _ rfl) (fun _ _ h => h)⟩
theorem ReadY.at {g : Nat} {v0 : Value} {b : List UInt8} {s : RS} {x y : World} (h : ReadY g v0 b s x y) {n : Int} (k : Nat) (hn : n = (k : Int)) (hk : k ≤ b.length) : ReadY g v0 b ⟨b.drop k, s.e⟩ x (y.setCell ⟨g, 1, none⟩ (.int .i64 n)) := by
  subst hn
  exact ⟨h.1.setAt k hk, h.2.trans (kept_set (F := fun k => k = g) _ ⟨g, 1, none⟩ _ rfl) (fun _ _ h => h)⟩
theorem ReadY.drewN {g : Nat} {v0 : Value} {b : List UInt8} {s : RS} {x y : World} (h : ReadY g v0 b s x y) (n : Nat) : ReadY g v0 b s x (y.drewN n) := ⟨h.1.drewN n, h.2.trans (Below.kept (below_drawn y n) (fun k => k = g)) (fun _ _ h => h)⟩
theorem ReadY.refl {g : Nat} {v0 : Value} {b : List UInt8} {s : RS} {w : World} (h : YAt w g v0 b s) : ReadY g v0 b s w w := ⟨h, Kept.refl _ _⟩

set_option maxHeartbeats 1000000 in
theorem yErr_any (g : Nat) (v0 : Value) (b : List UInt8) (s : RS) (w : World) (H : YAt w g v0 b s) :
    Calls Try.prog 25 #[.pointer (some ⟨g, 0, none⟩)] w fun e w' => e = .returned (.int .i64 s.e) ∧ w' = w := by
  obtain ⟨a, cap, k, h1, h2, hb, hk, hl, c0, c1, c2, f1, f2⟩ := H.cells
  clear H hb hl
  go_enter Try.func25, Try.ntmps25
  go_wp2_with fail
  go_ret
  exact ⟨rfl, rfl⟩

set_option maxHeartbeats 1000000 in
theorem yEnd_any (g : Nat) (v0 : Value) (b : List UInt8) (s : RS) (w : World) (H : YAt w g v0 b s) :
    Calls Try.prog 28 #[.pointer (some ⟨g, 0, none⟩)] w fun e w' => e = .returned (.int .i64 s.fin) ∧ ReadY g v0 b ⟨s.l, s.fin⟩ w w' := by
  have V : Aside (YAt w g v0 b s) := H
  obtain ⟨a, cap, k, h1, h2, hb, hk, hl, c0, c1, c2, f1, f2⟩ := H.cells
  have E : Aside (s.l.length = b.length - k) := by rw [hl, List.length_drop]; rfl
  clear H hb hl
  unfold maxLen at h2
  go_enter Try.func28, Try.ntmps28
  by_cases he : s.e = 0
  · rw [he] at c2
    by_cases hz : k < b.length
    · have U : Aside (s.fin = 22) := by unfold RS.fin; rw [if_pos he, if_neg (by rw [E.out]; omega)]; rfl
      have hz' : (k : Int) < (b.length : Int) := by omega
      clear he
      go_wp2_with fail
      go_quiet (fail)
      go_wp2_with fail
      go_ret
      rw [U.out]
      exact ⟨rfl, ((ReadY.refl V.out).drewN _).code 22 (by decide)⟩
    · have U : Aside (s.fin = s.e) := by unfold RS.fin; rw [if_pos he, if_pos (by rw [E.out]; omega), he]; rfl
      have hz' : decide ((k : Int) < (b.length : Int)) = false := by rw [decide_eq_false_iff_not]; omega
      have hz2 : ¬ ((k : Int) < (b.length : Int)) := by omega
      have E0 : Aside (s.e = 0) := he
      clear he
      go_wp2_with fail
      go_quiet (fail)
      go_wp2_with fail
      go_ret
      rw [U.out]
      exact ⟨by rw [E0.out]; rfl, (ReadY.refl V.out).drewN _⟩
  · have U : Aside (s.fin = s.e) := by unfold RS.fin; rw [if_neg he]; rfl
    have he' : ¬ (s.e : Int) = 0 := by omega
    have he2 : ((s.e : Int) == 0) = false := by rw [beq_eq_false_iff_ne]; omega
    clear he
    go_wp2_with fail
    go_quiet (fail)
    go_wp2_with fail
    go_ret
    rw [U.out]
    exact ⟨rfl, (ReadY.refl V.out).drewN _⟩
theorem drop_le {b : List UInt8} {k n : Nat} (hn : n ≤ (b.drop k).length) (hk : k ≤ b.length) : k + n ≤ b.length := by rw [List.length_drop] at hn; omega
set_option maxHeartbeats 1000000 in
theorem yUint_any (g : Nat) (v0 : Value) (b : List UInt8) (s : RS) (w : World) (H : YAt w g v0 b s) :
    Calls Try.prog 23 #[.pointer (some ⟨g, 0, none⟩)] w fun e w' => e = .returned (.int .u64 s.uint.1) ∧ ReadY g v0 b s.uint.2 w w' := by
  have V : Aside (YAt w g v0 b s) := H
  obtain ⟨a, cap, k, h1, h2, hb, hk, hl, c0, c1, c2, f1, f2⟩ := H.cells
  have A : Aside (Bytes w (.slice a b.length cap) b ∧ s.l = b.drop k) := ⟨hb, hl⟩
  clear H hb hl
  unfold maxLen at h2
  go_enter Try.func23, Try.ntmps23
  by_cases he : s.e = 0
  · have U : Aside (s.uint = ((num s.l 0).1, ⟨s.l.drop (num s.l 0).2.1, (num s.l 0).2.2⟩)) := by unfold RS.uint; rw [if_pos he]; rfl
    have N := num_lt s.l
    obtain ⟨n1, n2, n3, n4⟩ := N
    rw [A.out.2, List.length_drop] at n2
    rw [A.out.2] at n1 n3 n4
    obtain ⟨r, hr⟩ : ∃ r, r = num (b.drop k) 0 := ⟨_, rfl⟩
    rw [← hr] at n1 n2 n3 n4
    have R : Aside (r = num (b.drop k) 0) := hr
    rw [he] at c2
    have SD : Hid (∀ n, Calls Try.prog 46 #[.slice (if cap = k then a else Option.map (fun x : Addr => x.add k) a) (b.length - k) (cap - k)] (w.drewN n) fun e w' => e = .returned (.tuple #[.int .u64 r.1, .int .i64 r.2.1, .int .i64 r.2.2]) ∧ w' = w.drewN n) := by
      intro n
      rw [hr]
      refine ynumber_any _ _ _ (Bytes.drewN ?_ n)
      split
      · rw [show cap - k = 0 by omega]
        exact Bytes.none_left (by omega) (List.drop_eq_nil_of_le (by omega))
      · exact A.out.1.drop k hk
    clear he hr
    go_wp2_with fail
    go_quiet ((go_at_call 46; refine Calls.quiet_of_same (SD.out _)))
    go_wp2_with fail
    all_goals
      go_ret
      rw [U.out, A.out.2, ← R.out]
      refine ⟨rfl, ?_⟩
      have h := ((ReadY.refl V.out).drewN nq).code r.2.2 n4
      have h2 := h.at (n := (k : Int) + (r.2.1 : Int)) (k + r.2.1) (by omega) (by omega)
      rw [← List.drop_drop] at h2
      exact h2
  · have U : Aside (s.uint = (0, s)) := by unfold RS.uint; rw [if_neg he]; rfl
    have he' : ¬ (s.e : Int) = 0 := by omega
    clear he
    go_wp2_with fail
    go_ret
    rw [U.out]
    exact ⟨rfl, ReadY.refl V.out⟩
end Go.Proofs.Ytmdjicakjljmlaa
