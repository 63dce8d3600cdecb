/-
  The document's: block, rising, keysOf.
-/
import Derived.Test.YtcdejeejhdpkaaaPgCp
import Derived.Sort.Walk0
namespace Go.Proofs.Ytcdejeejhdpkaaa
open Go.RowKit Go.Maps
theorem drawn_of {B : Nat} {w wr : World} (h : Below B w wr) (n : Nat) : Below B w (wr.drewN n) := h.trans ⟨rfl, rfl, rfl, Nat.le_refl _, fun _ _ => rfl⟩
set_option maxHeartbeats 400000 in
theorem dblock_any (n : Int) (w : World) : Calls Try.prog 59 #[.int .i64 n] w fun e w' => e = .returned (.bool (blkB n)) ∧ w' = w := by
  unfold blkB
  by_cases h1 : n ≥ 1
  · have d1 : decide (n ≥ 1) = true := decide_eq_true h1
    go_enter Try.func59, Try.ntmps59
    go_wp2_with fail
    go_ret
    refine ⟨?_, rfl⟩
    rw [show decide (1 ≤ n) = true from d1, Bool.true_and]
    rfl
  · have d1 : decide (n ≥ 1) = false := decide_eq_false h1
    go_enter Try.func59, Try.ntmps59
    go_wp2_with fail
    go_ret
    refine ⟨?_, rfl⟩
    first | rfl | (rw [show decide (1 ≤ n) = false from d1, Bool.false_and]; rfl)
theorem less_total (x y : List UInt8) (h1 : Op.bytesLess x y = false) (h2 : Op.bytesLess y x = false) : x = y := by
  rw [bytesLess_eq, decide_eq_false_iff_not] at h1 h2
  exact List.le_antisymm (List.not_lt.1 h2) (List.not_lt.1 h1)
theorem less_asymm (x y : List UInt8) (h : Op.bytesLess x y = true) : Op.bytesLess y x = false ∧ (y == x) = false := by
  rw [bytesLess_eq, decide_eq_true_eq] at h
  refine ⟨?_, ?_⟩
  · rw [bytesLess_eq, decide_eq_false_iff_not]
    exact fun h2 => List.lt_irrefl _ (List.lt_trans h h2)
  · rw [beq_eq_false_iff_ne]
    intro e
    rw [e] at h
    exact List.lt_irrefl _ h
theorem less_self (x : List UInt8) : Op.bytesLess x x = false := by
  rw [bytesLess_eq, decide_eq_false_iff_not]
  exact List.lt_irrefl x
/-- A key behind another: it is above it, and no longer than 120. -/
theorem fol_less (l k : ByteArray) : folB l k = (Op.bytesLess l.toList k.toList && decide (k.size ≤ 120)) := by
  unfold folB
  congr 1
  cases h : Op.bytesLess l.toList k.toList with
  | true =>
    obtain ⟨h1, h2⟩ := less_asymm _ _ h
    rw [h1, h2]; rfl
  | false =>
    cases h2 : Op.bytesLess k.toList l.toList with
    | true => rfl
    | false =>
      rw [less_total _ _ h h2]
      simp
theorem less_nil (k : ByteArray) : Op.bytesLess (⟨#[]⟩ : ByteArray).toList k.toList = decide (1 ≤ k.size) := by
  rw [ByteArray.toList_eq, ByteArray.toList_eq]
  obtain ⟨⟨l⟩⟩ := k
  cases l with
  | nil => simp [ByteArray.size, less_self]
  | cons a l =>
    rw [bytesLess_eq]
    simp [ByteArray.size]
/-- The key ahead of place k. -/
def prevK (ts : List ByteArray) (k : Nat) : ByteArray := if k = 0 then ⟨#[]⟩ else ts.getD (k - 1) ⟨#[]⟩
theorem less_above {l k : ByteArray} (h : Op.bytesLess l.toList k.toList = true) : 1 ≤ k.size := by
  rcases Nat.eq_zero_or_pos k.size with q | q
  · exfalso
    have e : k.toList = [] := by
      rw [ByteArray.toList_eq]
      obtain ⟨⟨l⟩⟩ := k
      have hl : l.length = 0 := by simpa [ByteArray.size] using q
      rw [List.length_eq_zero_iff] at hl
      subst hl
      rfl
    rw [e, bytesLess_eq, decide_eq_true_eq] at h
    exact absurd h (List.not_lt_nil _)
  · exact q
set_option maxHeartbeats 4000000 in
set_option maxRecDepth 100000 in
theorem rising_any (v : Value) (ts : List ByteArray) (w : World) (hv : Strs w v ts) :
    Calls Try.prog 60 #[v] w fun e w' => e = .returned (.bool (innG ⟨#[]⟩ ts)) ∧ Below w.heap.size w w' := by
  have V := Lib.hid hv
  obtain ⟨r, hr⟩ : ∃ r, r = innG ⟨#[]⟩ ts := ⟨_, rfl⟩
  rw [← hr]
  have RR := Lib.hid hr
  obtain ⟨a, cap, rfl, hlc, hcm⟩ := hv.len
  unfold maxLen at hcm
  obtain ⟨n, hn⟩ : ∃ n, n = ts.length := ⟨_, rfl⟩
  rw [← hn] at hlc ⊢
  have HN := Lib.hid hn
  clear hv hn hr
  go_enter Try.func60, Try.ntmps60
  go_wp2_with fail
  go_loopg [3] n (fun gg si wr => ∃ (k : Nat), k ≤ n ∧ gg = n - k ∧ si = .int .i64 k ∧ r = innG (prevK ts k) (ts.drop k) ∧ Below w.heap.size w wr)
  case atStart => exact ⟨0, Nat.zero_le _, rfl, rfl, by rw [RR.out]; rfl, Below.refl _ _⟩
  case round =>
    obtain ⟨k, hk, hg, rfl, hrr, hb⟩ := hrel
    have R : Aside (gk = n - k ∧ r = innG (prevK ts k) (ts.drop k) ∧ Below w.heap.size w wr) := ⟨hg, hrr, hb⟩
    clear hg hrr hb
    by_cases hlt : k < n
    · obtain ⟨b, off, ha, c0⟩ := (V.out.below R.out.2.2).at k (by rw [← HN.out]; exact hlt)
      subst ha
      have GA := Lib.hid (innG_at (prevK ts k) ts k (by rw [← HN.out]; exact hlt))
      obtain ⟨x, hx⟩ : ∃ x, x = ts.getD k ⟨#[]⟩ := ⟨_, rfl⟩
      rw [← hx] at c0 GA
      have PN : Hid (prevK ts (k + 1) = x) := Lib.hid (by unfold prevK; rw [if_neg (by omega), hx]; rfl)
      have hlt' : (k : Int) < (n : Int) := by omega
      have BD : Hid (∀ m, Below w.heap.size w (wr.drewN m)) := Lib.hid (fun m => drawn_of R.out.2.2 m)
      clear hx
      rw [fol_less] at GA
      by_cases h1 : x.size < 1
      · have d1 : decide ((x.size : Int) < 1) = true := decide_eq_true (by omega)
        have d1' : decide (x.size < 1) = true := decide_eq_true h1
        have FA : Hid (r = false) := Lib.hid (by
          rw [R.out.2.1, GA.out]
          cases hq : Op.bytesLess (prevK ts k).toList x.toList with
          | false => rfl
          | true => have := less_above hq; omega)
        go_wp2_with fail
        go_quiet (fail)
        go_wp2_with fail
        go_ret
        exact ⟨by rw [FA.out]; rfl, BD.out _⟩
      have d1 : decide ((x.size : Int) < 1) = false := decide_eq_false (by omega)
      have d1' : decide (x.size < 1) = false := decide_eq_false h1
      by_cases h2 : 120 < x.size
      · have d2 : decide ((x.size : Int) > 120) = true := decide_eq_true (by omega)
        have d2' : decide (120 < x.size) = true := decide_eq_true h2
        have FA : Hid (r = false) := Lib.hid (by rw [R.out.2.1, GA.out, show decide (x.size ≤ 120) = false from decide_eq_false (by omega), Bool.and_false, Bool.false_and])
        go_wp2_with fail
        go_quiet (fail)
        go_wp2_with fail
        go_ret
        exact ⟨by rw [FA.out]; rfl, BD.out _⟩
      have d2 : decide ((x.size : Int) > 120) = false := decide_eq_false (by omega)
      have d2' : decide (120 < x.size) = false := decide_eq_false h2
      have E2 : Hid (decide (x.size ≤ 120) = true) := Lib.hid (decide_eq_true (by omega))
      rw [E2.out, Bool.and_true] at GA
      by_cases h3 : k = 0
      · subst h3
        have NX : Hid (r = innG x (ts.drop 1)) := Lib.hid (by
          rw [R.out.2.1, GA.out]
          have : Op.bytesLess (prevK ts 0).toList x.toList = true := by
            show Op.bytesLess (⟨#[]⟩ : ByteArray).toList x.toList = true
            rw [less_nil]; exact decide_eq_true (by omega)
          rw [this]; rfl)
        have g0 : decide ((0 : Int) > 0) = false := by decide
        have z1 : (0 : Int) < (n : Int) := by omega
        have z2 : 0 < n := by omega
        rw [Nat.add_zero] at c0
        go_wp2_with fail
        go_quiet (fail)
        go_wp2_with fail
        go_roundg (n - 1)
        case measure => have := R.out.1; omega
        case rel => exact ⟨1, by omega, rfl, by go_num, by rw [NX.out, PN.out], BD.out _⟩
      · have g0 : decide ((k : Int) > 0) = true := decide_eq_true (by omega)
        have g0' : decide (0 < k) = true := decide_eq_true (by omega)
        obtain ⟨j, hj⟩ : ∃ j, k = j + 1 := ⟨k - 1, by omega⟩
        have PK : Hid (prevK ts k = ts.getD j ⟨#[]⟩) := Lib.hid (by unfold prevK; rw [if_neg h3, hj]; rfl)
        obtain ⟨b2, o2, e2, c1⟩ := (V.out.below R.out.2.2).at j (by rw [← HN.out]; omega)
        simp only [Option.some.injEq, Addr.mk.injEq, and_true] at e2
        obtain ⟨rfl, rfl⟩ := e2
        rw [← PK.out] at c1
        obtain ⟨y, hy⟩ : ∃ y, y = prevK ts k := ⟨_, rfl⟩
        rw [← hy] at c1 GA
        have R2 : Hid (r = innG y (ts.drop k)) := Lib.hid (by rw [hy]; exact R.out.2.1)
        have hj1 : (k : Int) - 1 = (j : Int) := by omega
        have hj2 : (j : Int) < (n : Int) := by omega
        have hjw : IntKind.i64.wrap (j : Int) = (j : Int) := wrap_in (by omega) (by omega)
        clear hj hy h3
        cases hq : Op.bytesLess y.toList x.toList with
        | false =>
          have FA : Hid (r = false) := Lib.hid (by rw [R2.out, GA.out, hq]; rfl)
          go_wp2_with fail
          go_quiet (fail)
          go_wp2_with fail
          go_ret
          exact ⟨by rw [FA.out]; rfl, BD.out _⟩
        | true =>
          have NX : Hid (r = innG x (ts.drop (k + 1))) := Lib.hid (by rw [R2.out, GA.out, hq]; rfl)
          go_wp2_with fail
          go_quiet (fail)
          go_wp2_with fail
          go_roundg (n - (k + 1))
          case measure => have := R.out.1; omega
          case rel => exact ⟨k + 1, by omega, rfl, by go_num, by rw [NX.out, PN.out], BD.out _⟩
    · have FA : Hid (r = true) := Lib.hid (by rw [R.out.2.1, List.drop_eq_nil_of_le (by rw [← HN.out]; omega)]; rfl)
      go_wp2_with fail
      go_ret
      exact ⟨by rw [FA.out]; rfl, R.out.2.2⟩
end Go.Proofs.Ytcdejeejhdpkaaa
