/-
  sameChanges; short.
-/
import Derived.Test.YtmdjicakjljmlaaSrA
namespace Go.Proofs.Ytmdjicakjljmlaa
open Go.RowKit
theorem list_of_bytes (t : ByteArray) : t.toList = t.data.toList := ByteArray.toList_eq t
theorem same_list (s t : ByteArray) : (s.toList == t.toList) = decide (s = t) := by
  rw [list_of_bytes, list_of_bytes, Bool.eq_iff_iff]
  simp only [beq_iff_eq, decide_eq_true_iff]
  exact ⟨fun h => by rw [← list_txt s, ← list_txt t, h], fun h => by rw [h]⟩
theorem getC_mem {l : List Ch} {k : Nat} (h : k < l.length) : l.getD k Ch.z ∈ l := by
  rw [List.getD_eq_getElem?_getD, List.getElem?_eq_getElem h]; exact List.getElem_mem h
theorem splitC (l : List Ch) (k : Nat) (h : k < l.length) : l = l.take k ++ l.getD k Ch.z :: l.drop (k + 1) := by
  rw [List.getD_eq_getElem?_getD, List.getElem?_eq_getElem h]
  simp
set_option maxHeartbeats 4000000 in
set_option maxRecDepth 100000 in
theorem sameC_any (v u : Value) (l m : List Ch) (w : World) (hv : Chs w v l) (hu : Chs w u m) (he : l = m) :
    Calls Try.prog 8 #[v, u] w fun e w' => e = .returned (.bool true) ∧ Below w.heap.size w w' := by
  subst he
  have V : Aside (Chs w v l ∧ Chs w u l) := ⟨hv, hu⟩
  obtain ⟨a, cap, rfl, hlc, hcm⟩ := hv.len
  obtain ⟨a', cap', rfl, hlc', hcm'⟩ := hu.len
  unfold maxLen at hcm hcm'
  clear hv hu
  go_enter Try.func8, Try.ntmps8
  go_wp2_with fail
  go_loopg [5] l.length (fun g si wr => ∃ (k : Nat), k ≤ l.length ∧ g = l.length - k ∧ si = .int .i64 k ∧ Below w.heap.size w wr)
  case atStart => exact ⟨0, Nat.zero_le _, rfl, rfl, Below.refl _ _⟩
  case round =>
    obtain ⟨k, hk, hg, rfl, hb⟩ := hrel
    have R : Aside (gk = l.length - k ∧ Below w.heap.size w wr) := ⟨hg, hb⟩
    clear hg hb
    by_cases hlt : k < l.length
    · obtain ⟨b, off, rfl, p0, p1, p2⟩ := (V.out.1.below R.out.2).at k hlt
      obtain ⟨b', off', rfl, q0, q1, q2⟩ := (V.out.2.below R.out.2).at k hlt
      obtain ⟨x, hx⟩ : ∃ x, x = l.getD k Ch.z := ⟨_, rfl⟩
      rw [← hx] at p0 p1 p2 q0 q1 q2
      clear hx
      obtain ⟨xk, xv, xg⟩ := x
      simp only at p0 p1 p2 q0 q1 q2
      have hlt' : (k : Int) < (l.length : Int) := by omega
      go_wp2_with fail
      go_quiet (fail)
      go_wp2_with fail
      go_roundg (l.length - (k + 1))
      case measure => have := R.out.1; omega
      case rel => exact ⟨k + 1, by omega, rfl, by go_num, R.out.2.trans ((below_drawn wr _).mono R.out.2.size)⟩
    · go_wp2_with fail
      go_ret
      exact ⟨rfl, R.out.2⟩
def Ch.shB (x : Ch) : Bool := decide (x.k.size ≤ 120) && decide (x.v.size ≤ 8192)
def shB (l : List Ch) : Bool := l.all Ch.shB && decide (l.length ≤ 4096)
set_option maxHeartbeats 4000000 in
set_option maxRecDepth 100000 in
theorem short_any (v : Value) (l : List Ch) (w : World) (hv : Chs w v l) :
    Calls Try.prog 30 #[v] w fun e w' => e = .returned (.bool (shB l)) ∧ Below w.heap.size w w' := by
  have V : Aside (Chs w v l) := hv
  obtain ⟨a, cap, rfl, hlc, hcm⟩ := hv.len
  unfold maxLen at hcm
  clear hv
  go_enter Try.func30, Try.ntmps30
  go_wp2_with fail
  go_loopg [7] l.length (fun g si wr => ∃ (k : Nat), k ≤ l.length ∧ g = l.length - k ∧ si = .int .i64 k ∧ (l.take k).all Ch.shB = true ∧ Below w.heap.size w wr)
  case atStart => exact ⟨0, Nat.zero_le _, rfl, rfl, rfl, Below.refl _ _⟩
  case round =>
    obtain ⟨k, hk, hg, rfl, ha, hb⟩ := hrel
    have R : Aside (gk = l.length - k ∧ (l.take k).all Ch.shB = true ∧ Below w.heap.size w wr) := ⟨hg, ha, hb⟩
    clear hg ha hb
    by_cases hlt : k < l.length
    · obtain ⟨b, off, rfl, p0, p1, p2⟩ := (V.out.below R.out.2.2).at k hlt
      obtain ⟨x, hx⟩ : ∃ x, x = l.getD k Ch.z := ⟨_, rfl⟩
      rw [← hx] at p0 p1 p2
      have X : Aside (x = l.getD k Ch.z) := hx
      clear hx
      obtain ⟨xk, xv, xg⟩ := x
      simp only at p0 p1 p2
      have hlt' : (k : Int) < (l.length : Int) := by omega
      by_cases h1 : xk.size ≤ 120
      · have g1 : ¬ (xk.size : Int) > 120 := by omega
        by_cases h2 : xv.size ≤ 8192
        · have g2 : ¬ (xv.size : Int) > 8192 := by omega
          have S : Aside (Ch.shB ⟨xk, xv, xg⟩ = true) := by show _ = true; unfold Ch.shB; rw [decide_eq_true h1, decide_eq_true h2]; rfl
          clear h1 h2
          go_wp2_with fail
          go_roundg (l.length - (k + 1))
          case measure => have := R.out.1; omega
          case rel => exact ⟨k + 1, by omega, rfl, by go_num, by rw [take_one l k Ch.z hlt, ← X.out, List.all_append, R.out.2.1]; simp [S.out], R.out.2.2.alloc R.out.2.2.size _⟩
        · have g2 : (xv.size : Int) > 8192 := by omega
          have S : Aside (shB l = false) := by
            have : l.all Ch.shB = false := by
              rw [List.all_eq_false]
              refine ⟨_, getC_mem hlt, ?_⟩
              rw [← X.out]; unfold Ch.shB; rw [decide_eq_false h2, Bool.and_false]; exact Bool.false_ne_true
            show _ = false
            unfold shB; rw [this, Bool.false_and]
          clear h1 h2
          go_wp2_with fail
          go_ret
          exact ⟨by rw [S.out]; rfl, R.out.2.2.alloc R.out.2.2.size _⟩
      · have g1 : (xk.size : Int) > 120 := by omega
        have S : Aside (shB l = false) := by
          have : l.all Ch.shB = false := by
            rw [List.all_eq_false]
            refine ⟨_, getC_mem hlt, ?_⟩
            rw [← X.out]; unfold Ch.shB; rw [decide_eq_false h1, Bool.false_and]; exact Bool.false_ne_true
          show _ = false
          unfold shB; rw [this, Bool.false_and]
        clear h1
        go_wp2_with fail
        go_ret
        exact ⟨by rw [S.out]; rfl, R.out.2.2.alloc R.out.2.2.size _⟩
    · have S : Aside (shB l = decide ((l.length : Int) ≤ 4096)) := by
        have h2 := R.out.2.1
        rw [List.take_of_length_le (by omega)] at h2
        show _ = _
        unfold shB; rw [h2, Bool.true_and]
        by_cases q : l.length ≤ 4096
        · rw [decide_eq_true q, decide_eq_true (by omega)]
        · rw [decide_eq_false q, decide_eq_false (by omega)]
      go_wp2_with fail
      go_ret
      exact ⟨by rw [S.out]; simp, R.out.2.2⟩
end Go.Proofs.Ytmdjicakjljmlaa
