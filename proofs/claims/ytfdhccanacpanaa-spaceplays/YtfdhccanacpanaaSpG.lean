/-
  The statements' own: open, fixed.
-/
import Derived.Test.YtfdhccanacpanaaSpF
import Derived.Test.YtfdhccanacpanaaMsk
namespace Go.Proofs.Ytfdhccanacpanaa
open Go.RowKit
variable {B : Nat} {w : World} {d sb f : Nat} {l : List UInt8}
def Bools (w : World) (v : Value) (l : List Bool) : Prop :=
  ∃ a cap, v = .slice a l.length cap ∧ l.length ≤ cap ∧ cap ≤ maxLen ∧ ∀ k, k < l.length → ∃ b off, a = some ⟨b, off, none⟩ ∧ w.cell? ⟨b, off + k, none⟩ = some (.bool (l.getD k false))
/-- The numbers of the marks, from f on. -/
def marked : Nat → List Bool → List Int
  | _, [] => []
  | f, x :: l => if x then (f : Int) :: marked (f + 1) l else marked (f + 1) l
theorem marked_snoc (f : Nat) (l : List Bool) (x : Bool) : marked f (l ++ [x]) = marked f l ++ (if x then [((f + l.length : Nat) : Int)] else []) := by
  induction l generalizing f with
  | nil => simp [marked]
  | cons y l ih =>
    simp only [List.cons_append, marked]
    rw [ih (f + 1)]
    have e : f + 1 + l.length = f + (y :: l).length := by rw [List.length_cons]; omega
    rw [e]
    split <;> simp
theorem marked_length (f : Nat) (l : List Bool) : (marked f l).length ≤ l.length := by
  induction l generalizing f with
  | nil => simp [marked]
  | cons y l ih =>
    have := ih (f + 1)
    simp only [marked, List.length_cons]
    split <;> simp <;> omega
theorem marked_ris (f : Nat) (l : List Bool) (n : Nat) (h : l.length ≤ n) : Ris (f : Int) ((f + n : Nat) : Int) (marked f l) := by
  induction l generalizing f n with
  | nil => trivial
  | cons y l ih =>
    rw [List.length_cons] at h
    obtain ⟨m, rfl⟩ : ∃ m, n = m + 1 := ⟨n - 1, by omega⟩
    have h := ih (f + 1) m (by omega)
    have e : f + 1 + m = f + (m + 1) := by omega
    rw [e] at h
    simp only [marked]
    split
    · refine ⟨by omega, by omega, ?_⟩
      have e2 : (f : Int) + 1 = ((f + 1 : Nat) : Int) := by omega
      rw [e2]; exact h
    · exact h.mono (by omega)
theorem ris_bounds {a b : Int} {l : List Int} (h : Ris a b l) : ∀ x ∈ l, a ≤ x ∧ x < b := by
  induction l generalizing a with
  | nil => simp
  | cons y l ih =>
    intro x hx
    rcases List.mem_cons.1 hx with rfl | hx
    · exact ⟨h.1, h.2.1⟩
    · have := ih h.2.2 x hx
      have := h.1
      omega
/-- The states that open makes. -/
def opS (n : Nat) (t : List Bool) : List UInt8 := mkS 2 n (marked 2 (t.take n))
theorem opS_length (n : Nat) (t : List Bool) : (opS n t).length = n := mkS_length _ _ _
def opN (i : Int) : Nat := i.toNat % 64 + 1
set_option maxHeartbeats 1000000 in
theorem open_any (i : Int) (m : Nat) (em : bits .and .i64 i 63 = (m : Int)) (hm : m < 64) (v : Value) (t : List Bool) (w : World) (hv : Bools w v t) :
    Calls Try.prog 8 #[.int .i64 i, v] w fun e w' => ∃ d sb, e = .returned (.tuple #[.pointer (some ⟨d, 0, none⟩), .int .i64 ((m + 1 : Nat) : Int)]) ∧ Sp w.heap.size w' d sb 2 (opS (m + 1) t) ∧ Below w.heap.size w w' := by
  obtain ⟨av, cap, rfl, hlc, hcm, hc⟩ := hv
  unfold maxLen at hcm
  obtain ⟨N, hN⟩ : ∃ N, N = t.length := ⟨_, rfl⟩
  have HC : Hid (∀ k, k < N → ∃ b off, av = some ⟨b, off, none⟩ ∧ w.cell? ⟨b, off + k, none⟩ = some (.bool (t.getD k false))) := Lib.hid (by rw [hN]; exact hc)
  rw [← hN] at hlc ⊢
  have NN := Lib.hid hN
  obtain ⟨M, hM⟩ : ∃ M, M = m + 1 := ⟨_, rfl⟩
  rw [← hM]
  have hM' : (m : Int) + 1 = (M : Int) := by omega
  have hM64 : M ≤ 64 := by omega
  clear hN hc hM
  go_enter Try.func8, Try.ntmps8
  go_wp2_with fail
  clear em hM' hm
  go_loopg [6, 7] M (fun g sv si wr => ∃ (k : Nat), k ≤ M ∧ k ≤ N ∧ g = M - k ∧ si = .int .i64 k ∧ OwnI w.heap.size wr sv (marked 2 (t.take k)) ∧ Below w.heap.size w wr)
  case atStart => exact ⟨0, Nat.zero_le _, Nat.zero_le _, rfl, rfl, OwnI.nil _ _, Below.refl _ _⟩
  case round =>
    obtain ⟨k, hk, hkN, hg, rfl, ho, hb⟩ := hrel
    have O := Lib.hid ho
    have Bl := Lib.hid hb
    have G := Lib.hid hg
    obtain ⟨a5, c5, e5, _⟩ := ho.len
    subst e5
    clear ho hg hb
    by_cases hlt : k < M ∧ k < N
    · have hltM : (k : Int) < (M : Int) := by omega
      have hltN : (k : Int) < (N : Int) := by omega
      obtain ⟨b, off, rfl, p0⟩ := HC.out k hlt.2
      have r0 := (Bl.out.cell (block_lt_of_cell p0)).trans p0
      obtain ⟨x, hx⟩ : ∃ x, x = t.getD k false := ⟨_, rfl⟩
      rw [← hx] at r0
      have T : Hid (marked 2 (t.take (k + 1)) = marked 2 (t.take k) ++ if x then [((2 + k : Nat) : Int)] else []) := Lib.hid (by
        have hk' : k < t.length := by rw [← NN.out]; exact hlt.2
        have ex : t[k]? = some x := by rw [hx, List.getD_eq_getElem?_getD, List.getElem?_eq_getElem hk', Option.getD_some]
        rw [List.take_add_one, ex, Option.toList_some, marked_snoc, List.length_take, Nat.min_eq_left (by omega)])
      clear hx p0
      have g1 : decide ((k : Int) < (M : Int)) = true := decide_eq_true hltM
      have g2 : decide ((k : Int) < (N : Int)) = true := decide_eq_true hltN
      cases x
      · go_wp2_with fail
        go_roundg (M - (k + 1))
        case measure => have := G.out; omega
        case rel => exact ⟨k + 1, by omega, by omega, rfl, by go_num, by rw [T.out]; simpa using O.out, Bl.out⟩
      · have L : Hid ((marked 2 (t.take k)).length ≤ 64) := Lib.hid (by have := marked_length 2 (t.take k); rw [List.length_take] at this; omega)
        have es : ((2 + k : Nat) : Int) = 2 + (k : Int) := by omega
        rw [es] at T
        clear es
        go_wp2_with (refine app_new rfl (.tmp 28) (.tmp 31) rfl (m := [2 + (k : Int)]) rfl rfl O.out Bl.out.size rfl rfl (by have := L.out; simp; omega) ?_)
        intro v' W' o1 o2 o3
        have A : Hid (OwnI w.heap.size W' v' (marked 2 (t.take (k + 1))) ∧ Below w.heap.size w W') := Lib.hid ⟨by rw [T.out]; exact o1, Bl.out.trans ((Below.refl _ _).grown o2 Bl.out.size fun k hk => (O.out.lt k hk).1)⟩
        clear o1 o2 o3
        go_wp2_with fail
        go_roundg (M - (k + 1))
        case measure => have := G.out; omega
        case rel => exact ⟨k + 1, by omega, by omega, rfl, by go_num, A.out⟩
    · have ET : Hid (t.take k = t.take M) := Lib.hid (by
        by_cases q : k = M
        · rw [q]
        · rw [List.take_of_length_le (by rw [← NN.out]; omega), List.take_of_length_le (by rw [← NN.out]; omega)])
      have NW := Lib.hid (new_any 2 M _ _ wr (by omega) O.out.ints (fun x hx => by have := ris_bounds (marked_ris 2 (t.take k) M (by rw [List.length_take]; omega)) x hx; omega) (2 + (M : Int)) rfl)
      have RS : Hid (Ris ((2 : Nat) : Int) ((2 + M : Nat) : Int) (marked 2 (t.take k))) := Lib.hid (marked_ris 2 (t.take k) M (by rw [List.length_take]; omega))
      by_cases q : k < M
      · have g1 : decide ((k : Int) < (M : Int)) = true := decide_eq_true (by omega)
        have g2 : decide ((k : Int) < (N : Int)) = false := decide_eq_false (by omega)
        have g3 : decide (k < N) = false := decide_eq_false (by omega)
        clear hlt
        go_wp2_with fail
        refine NW.out.mono ?_
        rintro e w1 ⟨h1, -, h3⟩
        obtain ⟨rfl, s1⟩ := h1 RS.out
        rw [ET.out] at s1
        have R : Hid (Sp w.heap.size w1 (wr.heap.size + 1) wr.heap.size 2 (opS M t) ∧ Below w.heap.size w w1) := Lib.hid ⟨s1.mono Bl.out.size, Bl.out.trans (h3.mono Bl.out.size)⟩
        clear h1 h3 s1
        go_wp2_with fail
        go_ret2
        exact ⟨_, _, rfl, R.out⟩
      · have g1 : decide ((k : Int) < (M : Int)) = false := decide_eq_false (by omega)
        clear hlt
        go_wp2_with fail
        refine NW.out.mono ?_
        rintro e w1 ⟨h1, -, h3⟩
        obtain ⟨rfl, s1⟩ := h1 RS.out
        rw [ET.out] at s1
        have R : Hid (Sp w.heap.size w1 (wr.heap.size + 1) wr.heap.size 2 (opS M t) ∧ Below w.heap.size w w1) := Lib.hid ⟨s1.mono Bl.out.size, Bl.out.trans (h3.mono Bl.out.size)⟩
        clear h1 h3 s1
        go_wp2_with fail
        go_ret2
        exact ⟨_, _, rfl, R.out⟩
set_option maxHeartbeats 1000000 in
theorem fixed_any (w : World) : Calls Try.prog 9 #[] w fun e w' => ∃ d, e = .returned (.pointer (some ⟨d, 0, none⟩)) ∧ Below w.heap.size w w' := by
  obtain ⟨X, hX⟩ : ∃ X, X = w.alloc (.cells #[.int .i64 5, .int .i64 7] 3) := ⟨_, rfl⟩
  have b1 : Hid (Below w.heap.size w X) := Lib.hid (by rw [hX]; exact (Below.refl _ _).alloc (Nat.le_refl _) _)
  have i1 : Hid (Ints X (.slice (some ⟨w.heap.size, 0, none⟩) 2 2) [5, 7]) := Lib.hid (by rw [hX]; exact new_ints w [5, 7] (by decide))
  have hX' := hX.symm
  clear hX
  go_enter Try.func9, Try.ntmps9
  go_wp2_with fail
  refine (new_any 4 6 _ [5, 7] X (by decide) i1.out (by decide) 10 rfl).mono ?_
  rintro e w1 ⟨h1, -, h3⟩
  obtain ⟨rfl, s1⟩ := h1 (by unfold Ris; unfold Ris; unfold Ris; decide)
  have es : mkS 4 6 [5, 7] = [0, 2, 0, 2, 0, 0] := by decide
  rw [es] at s1
  have S1 := Lib.hid s1
  have B1 := Lib.hid (b1.out.trans (h3.mono b1.out.size))
  obtain ⟨d, hd⟩ : ∃ d, d = X.heap.size + 1 := ⟨_, rfl⟩
  rw [← hd] at S1 ⊢
  have hB : Hid (w.heap.size ≤ X.heap.size) := Lib.hid b1.out.size
  clear h1 h3 s1 es hd hX' b1 i1
  have F1 : Hid (Calls Try.prog 18 #[.pointer (some ⟨d, 0, none⟩)] w1 fun e w' => e = .returned (.int .i64 4) ∧ w' = w1) := Lib.hid (free_any S1.out)
  have K1 : Hid (Calls Try.prog 17 #[.pointer (some ⟨d, 0, none⟩)] w1 fun e w' => e = .returned (.tuple #[.int .i64 4, .int .i64 0]) ∧ Sp X.heap.size w' d X.heap.size 4 [1, 2, 0, 2, 0, 0] ∧ Kept (fun k => k = X.heap.size) w1 w') := Lib.hid (by
    have := take_any S1.out
    have e : takeR 4 [0, 2, 0, 2, 0, 0] = (4, 0, [1, 2, 0, 2, 0, 0]) := by decide
    rw [e] at this
    exact this)
  go_wp2_with fail
  refine F1.out.mono ?_
  rintro _ _ ⟨rfl, rfl⟩
  go_wp2_with fail
  refine K1.out.mono ?_
  rintro _ w2 ⟨rfl, s2, k2⟩
  have S2 := Lib.hid s2
  have B2 := Lib.hid (B1.out.trans (k2.below B1.out.size (fun x hx => by rw [hx]; exact hB.out)))
  have G2 : Hid (Calls Try.prog 13 #[.pointer (some ⟨d, 0, none⟩), .int .i64 4] w2 fun e w' => e = .returned (.int .i64 0) ∧ Sp X.heap.size w' d X.heap.size 4 [0, 2, 0, 2, 0, 0] ∧ Kept (fun k => k = X.heap.size) w2 w') := Lib.hid (by
    have := give_any s2 4 (by decide)
    have e : giveR 4 [1, 2, 0, 2, 0, 0] 4 = (0, [0, 2, 0, 2, 0, 0]) := by decide
    rw [e] at this
    exact this)
  clear s2 k2 F1 K1
  go_wp2_with fail
  refine G2.out.mono ?_
  rintro _ w3 ⟨rfl, s3, k3⟩
  have B3 := Lib.hid (B2.out.trans (k3.below B2.out.size (fun x hx => by rw [hx]; exact hB.out)))
  have F3 : Hid (Calls Try.prog 18 #[.pointer (some ⟨d, 0, none⟩)] w3 fun e w' => e = .returned (.int .i64 4) ∧ w' = w3) := Lib.hid (free_any s3)
  clear s3 k3 G2
  go_wp2_with fail
  refine F3.out.mono ?_
  rintro _ _ ⟨rfl, rfl⟩
  go_wp2_with fail
  go_ret
  exact ⟨_, rfl, B3.out⟩
end Go.Proofs.Ytfdhccanacpanaa
