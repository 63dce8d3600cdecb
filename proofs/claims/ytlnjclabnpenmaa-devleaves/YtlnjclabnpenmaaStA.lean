/-
  The calls as the statements meet them: the device's state, and what bytes and numbers besides it stay.
-/
import Derived.Test.YtlnjclabnpenmaaStM
import Derived.Test.YtlnjclabnpenmaaEdA
namespace Go.Proofs.Ytlnjclabnpenmaa
open Go.RowKit Go.Maps
/-- The device made at block b is in the state s; nothing below b has turned since w. -/
def St (b : Nat) (w W : World) (s : DS) : Prop := (∃ cv, Dv b W (b + 2) b (b + 1) cv s) ∧ Below b w W ∧ b ≤ W.heap.size
/-- Bytes and numbers of the call's own stay. -/
def Carry (W W' : World) : Prop := (∀ B' v l, Own B' W v l → Own B' W' v l) ∧ (∀ B' v l, OwnI B' W v l → OwnI B' W' v l) ∧ W.heap.size ≤ W'.heap.size
theorem Carry.refl (W : World) : Carry W W := ⟨fun _ _ _ h => h, fun _ _ _ h => h, Nat.le_refl _⟩
theorem Carry.trans {A B C : World} (h : Carry A B) (k : Carry B C) : Carry A C := ⟨fun B' v l q => k.1 B' v l (h.1 B' v l q), fun B' v l q => k.2.1 B' v l (h.2.1 B' v l q), Nat.le_trans h.2.2 k.2.2⟩
theorem carry_below {W W' : World} (h : Below W.heap.size W W') : Carry W W' := ⟨fun _ _ _ q => q.below h, fun _ _ _ q => row_kept q (Below.kept h (fun _ => False)) (fun _ _ h => h), h.size⟩
theorem Dv.ints_ne {B B' : Nat} {w : World} {d mb mp : Nat} {cv v : Value} {s : DS} {l : List Int} (h : Dv B w d mb mp cv s) (ho : OwnI B' w v l) : ∀ k, v.ownBlock = some k → ¬ Foot d mb mp cv k := by
  intro k hk hf
  obtain ⟨cur, hc⟩ := row_block ho hk
  rcases hf with rfl | rfl | rfl | hf
  · rw [h.self] at hc; simp at hc
  · rw [h.med] at hc; simp at hc
  · obtain ⟨M, hM, _⟩ := h.latest
    obtain ⟨es, c, hm⟩ := map_block hM
    rw [hm] at hc; simp at hc
  · obtain ⟨cur2, hc2⟩ := row_block h.cache hf
    rw [hc2] at hc; simp at hc
theorem carry_kept {B : Nat} {W W' : World} {d mb mp : Nat} {cv : Value} {s : DS} (h : Dv B W d mb mp cv s) (hk : Kept (Foot d mb mp cv) W W') : Carry W W' :=
  ⟨fun _ _ _ q => q.kept hk (h.bytes_ne q), fun _ _ _ q => row_kept q hk (h.ints_ne q), hk.size⟩
theorem foot3 {d mb mp : Nat} (cv : Value) : ∀ k, k = d ∨ k = mb ∨ k = mp → Foot d mb mp cv k := fun k h => by
  rcases h with h | h | h
  · exact .inl h
  · exact .inr (.inl h)
  · exact .inr (.inr (.inl h))
theorem st_next {b : Nat} {w W W' : World} {cv cv' : Value} {s s' : DS} (h : Dv b W (b + 2) b (b + 1) cv s) (hb : Below b w W) (hB : b ≤ W.heap.size) (hd : Dv b W' (b + 2) b (b + 1) cv' s') (hk : Kept (Foot (b + 2) b (b + 1) cv) W W') : St b w W' s' ∧ Carry W W' :=
  ⟨⟨⟨cv', hd⟩, hb.trans (hk.below hB (fun x hx => (h.foot_lt x hx).1)), Nat.le_trans hB hk.size⟩, carry_kept h hk⟩
theorem st_below {b : Nat} {w W W' : World} {s : DS} (h : St b w W s) (hb : Below W.heap.size W W') : St b w W' s ∧ Carry W W' := by
  obtain ⟨⟨cv, hd⟩, h1, h2⟩ := h
  exact ⟨⟨⟨cv, hd.below hb⟩, h1.trans (hb.mono h2), Nat.le_trans h2 hb.size⟩, carry_below hb⟩
theorem st_write {b : Nat} {w W : World} {s : DS} (h : St b w W s) (i : Int) (B' : Nat) (v : Value) (p : List UInt8) (hv : Own B' W v p) (hws : s.ws < 137438953472) :
    Calls Try.prog 14 #[.pointer (some ⟨b + 2, 0, none⟩), .int .i64 i, v] W fun e W' => e = .returned (.int .i64 (wrE s i p).2) ∧ St b w W' (wrE s i p).1 ∧ Carry W W' := by
  obtain ⟨⟨cv, hd⟩, h1, h2⟩ := h
  refine (write_any hd i v p (fun w' hk => (hv.kept hk (fun k hk2 e => hd.bytes_ne hv k hk2 (.inl e))).bytes) hws).mono ?_
  rintro e w' ⟨cv', rfl, hd', hk, _⟩
  exact ⟨rfl, st_next hd h1 h2 hd' hk⟩
theorem st_flush {b : Nat} {w W : World} {s : DS} (h : St b w W s) (hws : s.ws < 1099511627776) :
    Calls Try.prog 19 #[.pointer (some ⟨b + 2, 0, none⟩)] W fun e W' => e = .returned (.int .i64 (flD s).2) ∧ St b w W' (flD s).1 ∧ Carry W W' := by
  obtain ⟨⟨cv, hd⟩, h1, h2⟩ := h
  refine (flush_any hd hws).mono ?_
  rintro e w' ⟨cv', rfl, hd', hk, _⟩
  exact ⟨rfl, st_next hd h1 h2 hd' (hk.mono (fun k _ h => foot3 cv k h))⟩
theorem st_crash {b : Nat} {w W : World} {s : DS} (h : St b w W s) (hws : s.ws < 1099511627776) :
    Calls Try.prog 24 #[.pointer (some ⟨b + 2, 0, none⟩), .slice none 0 0] W fun e W' => e = .returned (.int .i64 (cnts (fateAt []) 0 s.cache)) ∧ St b w W' (crD s []) ∧ Carry W W' := by
  obtain ⟨⟨cv, hd⟩, h1, h2⟩ := h
  refine (crash_any hd hws (.slice none 0 0) [] (fun w' _ => ⟨none, 0, rfl, by simp, by decide, fun _ => rfl, fun k hk => by simp at hk⟩)).mono ?_
  rintro e w' ⟨rfl, hd', hk⟩
  exact ⟨rfl, st_next hd h1 h2 hd' (hk.mono (fun k _ h => foot3 cv k h))⟩
theorem st_arm {b : Nat} {w W : World} {s : DS} (h : St b w W s) (n : Int) :
    Calls Try.prog 25 #[.pointer (some ⟨b + 2, 0, none⟩), .int .i64 n] W fun e W' => e = .returned (.int .i64 (armD s n).2) ∧ St b w W' (armD s n).1 ∧ Carry W W' := by
  obtain ⟨⟨cv, hd⟩, h1, h2⟩ := h
  refine (arm_any hd n).mono ?_
  rintro e w' ⟨rfl, hd', hk⟩
  exact ⟨rfl, st_next hd h1 h2 hd' (hk.mono (fun k _ h => .inl h))⟩
theorem st_down {b : Nat} {w W : World} {s : DS} (h : St b w W s) :
    Calls Try.prog 23 #[.pointer (some ⟨b + 2, 0, none⟩)] W fun e W' => e = .returned (.bool s.down) ∧ W' = W := by
  obtain ⟨⟨cv, hd⟩, h1, h2⟩ := h
  exact down_any hd
theorem st_read {b : Nat} {w W : World} {s : DS} (h : St b w W s) (i : Int) :
    Calls Try.prog 17 #[.pointer (some ⟨b + 2, 0, none⟩), .int .i64 i] W fun e W' => ∃ v, e = .returned (.tuple #[v, .int .i64 (rdD s i).2.2]) ∧ Own W.heap.size W' v (rdD s i).2.1 ∧ St b w W' (rdD s i).1 ∧ Carry W W' := by
  obtain ⟨⟨cv, hd⟩, h1, h2⟩ := h
  refine (read_any hd i).mono ?_
  rintro e w' ⟨v, rfl, ho, hd', hk⟩
  exact ⟨v, rfl, ho, st_next hd h1 h2 hd' (hk.mono (fun k _ h => .inl h))⟩
theorem st_raw {b : Nat} {w W : World} {s : DS} (h : St b w W s) (i : Int) :
    Calls Try.prog 20 #[.pointer (some ⟨b + 2, 0, none⟩), .int .i64 i] W fun e W' => ∃ v, e = .returned (.tuple #[v, .int .i64 (rawD s i).2]) ∧ Own W.heap.size W' v (rawD s i).1 ∧ St b w W' s ∧ Carry W W' := by
  obtain ⟨⟨cv, hd⟩, h1, h2⟩ := id h
  refine (raw_any hd i).mono ?_
  rintro e w' ⟨v, rfl, ho, hb⟩
  exact ⟨v, rfl, ho, st_below h hb⟩
theorem st_medium {b : Nat} {w W : World} {s : DS} (h : St b w W s) :
    Calls Try.prog 21 #[.pointer (some ⟨b + 2, 0, none⟩)] W fun e W' => e = .returned (.slice (some ⟨W.heap.size, 0, none⟩) (512 * s.n) (512 * s.n)) ∧ Own W.heap.size W' (.slice (some ⟨W.heap.size, 0, none⟩) (512 * s.n) (512 * s.n)) s.med ∧ St b w W' s ∧ Carry W W' := by
  obtain ⟨⟨cv, hd⟩, h1, h2⟩ := id h
  refine (medium_any hd).mono ?_
  rintro e w' ⟨rfl, ho, hb⟩
  exact ⟨rfl, ho, st_below h hb⟩
theorem st_pending {b : Nat} {w W : World} {s : DS} (h : St b w W s) (hws : s.ws < 1099511627776) :
    Calls Try.prog 18 #[.pointer (some ⟨b + 2, 0, none⟩)] W fun e W' => ∃ v, e = .returned v ∧ OwnI W.heap.size W' v (blocksOf s.cache) ∧ St b w W' s ∧ Carry W W' := by
  obtain ⟨⟨cv, hd⟩, h1, h2⟩ := id h
  refine (pending_any hd hws).mono ?_
  rintro e w' ⟨v, rfl, ho, hb⟩
  exact ⟨v, rfl, ho, st_below h hb⟩
theorem st_edit {b : Nat} {w W : World} {s : DS} (h : St b w W s) (i at_ : Int) (v : Value) (p : List UInt8) (hv : Bytes W v p) :
    Calls Try.prog 16 #[.pointer (some ⟨b + 2, 0, none⟩), .int .i64 i, .int .i64 at_, v] W fun e W' => e = .returned (.int .i64 (edD s i at_ p).2) ∧ St b w W' (edD s i at_ p).1 ∧ Carry W W' := by
  obtain ⟨⟨cv, hd⟩, h1, h2⟩ := h
  refine (edit_any hd i at_ v p hv).mono ?_
  rintro e w' ⟨rfl, hd', hk⟩
  exact ⟨rfl, st_next hd h1 h2 hd' (hk.mono (fun k _ h => .inr (.inl h)))⟩
theorem st_full {b : Nat} {w W : World} {s : DS} (h : St b w W s) (c : UInt8) :
    Calls Try.prog 13 #[.int .u8 (c8 c)] W fun e W' => e = .returned (.slice (some ⟨W.heap.size, 0, none⟩) 512 512) ∧ Own W.heap.size W' (.slice (some ⟨W.heap.size, 0, none⟩) 512 512) (List.replicate 512 c) ∧ St b w W' s ∧ Carry W W' := by
  refine (full_any c W).mono ?_
  rintro e w' ⟨rfl, ho, hb⟩
  exact ⟨rfl, ho, st_below h hb⟩
theorem st_lives (w : World) : Calls Try.prog 12 #[] w fun e w' => e = .returned (.pointer (some ⟨w.heap.size + 2, 0, none⟩)) ∧ St w.heap.size w w' liveS := by
  refine (lives_any w).mono ?_
  rintro e w' ⟨cv, rfl, hd, hb⟩
  exact ⟨rfl, ⟨cv, hd⟩, hb, hb.size⟩
theorem wr_noblock {s : DS} {i : Int} (h : hasB s i = false) (p : List UInt8) : wrE s i p = (s, 60) := by unfold wrE; rw [if_pos h]
theorem wr_size {s : DS} {i : Int} (h : hasB s i = true) {p : List UInt8} (hp : p.length ≠ 512) : wrE s i p = (s, 61) := by
  unfold wrE; rw [if_neg (by rw [h]; exact Bool.noConfusion), if_pos hp]
theorem wr_act {s : DS} {i : Int} (h : hasB s i = true) {p : List UInt8} (hp : p.length = 512) (ha : (actD s).2 ≠ 0) : wrE s i p = actD s := by
  unfold wrE; rw [if_neg (by rw [h]; exact Bool.noConfusion), if_neg (fun h => h hp), if_pos ha]
theorem wr_ok {s : DS} {i : Int} (h : hasB s i = true) {p : List UInt8} (hp : p.length = 512) (ha : (actD s).2 = 0) : wrE s i p = (addW (actD s).1 i.toNat p, 0) := by
  unfold wrE; rw [if_neg (by rw [h]; exact Bool.noConfusion), if_neg (fun h => h hp), if_neg (fun h => h ha)]
theorem sets_none : ∀ (l : List Wt) (k : Nat) (m : List UInt8), sets (fateAt []) k l m = m
  | [], _, _ => rfl
  | x :: l, k, m => by
    have e : lay m x.1 (x.2.take (keptN (fateAt [] k)).1) = m := by
      have : (keptN (fateAt [] k)).1 = 0 := rfl
      rw [this, List.take_zero]
      unfold lay splice
      simp
    rw [sets, e, sets_none l]
theorem cnts_none : ∀ (l : List Wt) (k : Nat), cnts (fateAt []) k l = 0
  | [], _ => rfl
  | x :: l, k => by
    rw [cnts, cnts_none l]
    rfl
end Go.Proofs.Ytlnjclabnpenmaa
