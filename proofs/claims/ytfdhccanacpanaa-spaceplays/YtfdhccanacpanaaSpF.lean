/-
  The statements' own: sameInts, in, rising; steps and play.
-/
import Derived.Test.YtfdhccanacpanaaSpC
import Derived.Test.YtfdhccanacpanaaSpD
import Derived.Test.YtfdhccanacpanaaSpE
namespace Go.Proofs.Ytfdhccanacpanaa
open Go.RowKit
variable {B : Nat} {w : World} {d sb f : Nat} {l : List UInt8}
theorem ints_none (w : World) (v : Value) (t : List Int) (hv : Ints w v t) : ∃ a cap, v = .slice a t.length cap ∧ t.length ≤ cap ∧ cap ≤ 9223372036854775807 ∧ ∀ k, k < t.length → ∃ b off, a = some ⟨b, off, none⟩ ∧ w.cell? ⟨b, off + k, none⟩ = some (.int .i64 (t.getD k 0)) := by
  obtain ⟨a, cap, h1, h2, h3, _, h4⟩ := hv
  exact ⟨a, cap, h1, h2, by unfold maxLen at h3; omega, h4⟩
set_option maxHeartbeats 1000000 in
theorem sameInts_yes (v v' : Value) (l : List Int) (w : World) (hv : Ints w v l) (hv' : Ints w v' l) :
    Calls Try.prog 12 #[v, v'] w fun e w' => e = .returned (.bool true) ∧ Below w.heap.size w w' := by
  obtain ⟨a, cap, rfl, hlc, hcm, hc⟩ := ints_none _ _ _ hv
  obtain ⟨a', cap', rfl, hlc', hcm', hc'⟩ := ints_none _ _ _ hv'
  clear hv hv'
  obtain ⟨n, hn⟩ : ∃ n, n = l.length := ⟨_, rfl⟩
  rw [← hn] at hlc hlc' ⊢
  have HC : Aside ((∀ k, k < n → ∃ b off, a = some ⟨b, off, none⟩ ∧ w.cell? ⟨b, off + k, none⟩ = some (.int .i64 (l.getD k 0))) ∧ (∀ k, k < n → ∃ b off, a' = some ⟨b, off, none⟩ ∧ w.cell? ⟨b, off + k, none⟩ = some (.int .i64 (l.getD k 0)))) := by rw [hn]; exact ⟨hc, hc'⟩
  clear hn hc hc'
  go_enter Try.func12, Try.ntmps12
  go_wp2_with fail
  go_loopg [5] n (fun g si wr => ∃ (k : Nat), k ≤ n ∧ g = n - k ∧ si = .int .i64 k ∧ Below w.heap.size w wr)
  case atStart => exact ⟨0, Nat.zero_le _, rfl, rfl, Below.refl _ _⟩
  case round =>
    obtain ⟨k, hk, hg, rfl, hb⟩ := hrel
    have R : Aside (gk = n - k ∧ Below w.heap.size w wr) := ⟨hg, hb⟩
    clear hg hb
    by_cases hlt : k < n
    · obtain ⟨b, off, rfl, p0⟩ := HC.out.1 k hlt
      obtain ⟨b', off', rfl, q0⟩ := HC.out.2 k hlt
      have r0 : wr.cell? ⟨b, off + k, none⟩ = some (.int .i64 (l.getD k 0)) := (R.out.2.cell (block_lt_of_cell p0)).trans p0
      have r1 : wr.cell? ⟨b', off' + k, none⟩ = some (.int .i64 (l.getD k 0)) := (R.out.2.cell (block_lt_of_cell q0)).trans q0
      obtain ⟨x, hx⟩ : ∃ x, x = l.getD k 0 := ⟨_, rfl⟩
      rw [← hx] at r0 r1
      clear hx p0 q0
      have hlt' : (k : Int) < (n : Int) := by omega
      go_wp2_with fail
      go_quiet (fail)
      go_wp2_with fail
      go_roundg (n - (k + 1))
      case measure => have := R.out.1; omega
      case rel => exact ⟨k + 1, by omega, rfl, by go_num, R.out.2.trans ⟨rfl, rfl, rfl, Nat.le_refl _, fun _ _ => rfl⟩⟩
    · go_wp2_with fail
      go_ret
      exact ⟨rfl, R.out.2⟩
set_option maxHeartbeats 1000000 in
theorem in_any (v : Value) (t : List Int) (x : Int) (w : World) (hv : Ints w v t) :
    Calls Try.prog 21 #[v, .int .i64 x] w fun e w' => e = .returned (.bool (decide (x ∈ t))) ∧ w' = w := by
  obtain ⟨a, cap, rfl, hlc, hcm, hc⟩ := ints_none _ _ _ hv
  clear hv
  obtain ⟨n, hn⟩ : ∃ n, n = t.length := ⟨_, rfl⟩
  rw [← hn] at hlc ⊢
  have NN := Lib.hid hn
  have HC : Hid (∀ k, k < n → ∃ b off, a = some ⟨b, off, none⟩ ∧ w.cell? ⟨b, off + k, none⟩ = some (.int .i64 (t.getD k 0))) := Lib.hid (by rw [hn]; exact hc)
  clear hn hc
  go_enter Try.func21, Try.ntmps21
  go_wp2_with fail
  go_loopg [5] n (fun g si wr => ∃ (k : Nat), k ≤ n ∧ g = n - k ∧ si = .int .i64 k ∧ wr = w ∧ ∀ j, j < k → t.getD j 0 ≠ x)
  case atStart => exact ⟨0, Nat.zero_le _, rfl, rfl, rfl, fun j hj => by omega⟩
  case round =>
    obtain ⟨k, hk, hg, rfl, rfl, hp⟩ := hrel
    have G := Lib.hid hg
    have P := Lib.hid hp
    clear hg hp
    by_cases hlt : k < n
    · obtain ⟨b, off, rfl, p0⟩ := HC.out k hlt
      obtain ⟨y, hy⟩ : ∃ y, y = t.getD k 0 := ⟨_, rfl⟩
      rw [← hy] at p0
      have Y := Lib.hid hy
      clear hy
      have hlt' : (k : Int) < (n : Int) := by omega
      have hkt : Hid (k < t.length) := Lib.hid (by rw [← NN.out]; exact hlt)
      by_cases q : y = x
      · have g1 : (y == x) = true := by rw [q]; exact beq_self_eq_true _
        have Q := Lib.hid q
        clear q
        go_wp2_with fail
        go_ret
        refine ⟨congrArg (fun b => Ending.returned (.bool b)) (decide_eq_true ?_).symm, rfl⟩
        rw [← Q.out, Y.out, List.getD_eq_getElem?_getD, List.getElem?_eq_getElem hkt.out, Option.getD_some]
        exact List.getElem_mem _
      · have g1 : (y == x) = false := by rw [beq_eq_false_iff_ne]; exact q
        have Q := Lib.hid q
        clear q
        go_wp2_with fail
        go_roundg (n - (k + 1))
        case measure => have := G.out; omega
        case rel =>
          refine ⟨k + 1, by omega, rfl, by go_num, rfl, fun j hj => ?_⟩
          rcases Nat.lt_or_ge j k with q | q
          · exact P.out j q
          · obtain rfl : j = k := by omega
            rw [← Y.out]; exact Q.out
    · have hge : ¬ (k : Int) < (n : Int) := by omega
      have EK : Hid (k = t.length) := Lib.hid (by rw [← NN.out]; omega)
      go_wp2_with fail
      go_ret
      refine ⟨congrArg (fun b => Ending.returned (.bool b)) (decide_eq_false fun hx => ?_).symm, rfl⟩
      obtain ⟨i, hi, e⟩ := List.mem_iff_getElem.1 hx
      refine P.out i (by rw [EK.out]; exact hi) ?_
      rw [List.getD_eq_getElem?_getD, List.getElem?_eq_getElem hi, Option.getD_some]; exact e
set_option maxHeartbeats 1000000 in
theorem rising_yes (v : Value) (t : List Int) (m : Nat) (w : World) (hv : Ints w v t) (hm : m ≤ 4096) (hr : Ris 2 ((2 + m : Nat) : Int) t) :
    Calls Try.prog 20 #[v, .int .i64 m] w fun e w' => e = .returned (.bool true) ∧ Below w.heap.size w w' := by
  obtain ⟨a, cap, rfl, hlc, hcm, hc⟩ := ints_none _ _ _ hv
  clear hv
  obtain ⟨n, hn⟩ : ∃ n, n = t.length := ⟨_, rfl⟩
  rw [← hn] at hlc ⊢
  have HR : Hid (∀ k, k < n → 2 ≤ t.getD k 0 ∧ t.getD k 0 < ((2 + m : Nat) : Int) ∧ (∀ j, j < k → t.getD j 0 < t.getD k 0)) := Lib.hid (fun k hk => hr.at k (by rw [← hn]; exact hk))
  have HC : Hid (∀ k, k < n → ∃ b off, a = some ⟨b, off, none⟩ ∧ w.cell? ⟨b, off + k, none⟩ = some (.int .i64 (t.getD k 0))) := Lib.hid (by rw [hn]; exact hc)
  clear hn hc hr
  go_enter Try.func20, Try.ntmps20
  go_wp2_with fail
  go_loopg [5] n (fun g si wr => ∃ (k : Nat), k ≤ n ∧ g = n - k ∧ si = .int .i64 k ∧ Below w.heap.size w wr)
  case atStart => exact ⟨0, Nat.zero_le _, rfl, rfl, Below.refl _ _⟩
  case round =>
    obtain ⟨k, hk, hg, rfl, hb⟩ := hrel
    have R : Hid (gk = n - k ∧ Below w.heap.size w wr) := Lib.hid ⟨hg, hb⟩
    clear hg hb
    by_cases hlt : k < n
    · obtain ⟨b, off, ha, p0⟩ := HC.out k hlt
      have r0 : wr.cell? ⟨b, off + k, none⟩ = some (.int .i64 (t.getD k 0)) := (R.out.2.cell (block_lt_of_cell p0)).trans p0
      obtain ⟨h2, h3, h4⟩ := HR.out k hlt
      by_cases hz : k = 0
      · subst ha
        obtain ⟨x, hx⟩ : ∃ x, x = t.getD k 0 := ⟨_, rfl⟩
        rw [← hx] at r0 h2 h3
        clear hx p0 h4
        have g1 : decide (x < 2) = false := decide_eq_false (by omega)
        have g2 : decide (x ≥ 2 + (m : Int)) = false := decide_eq_false (by omega)
        have g3 : decide ((k : Int) > 0) = false := decide_eq_false (by omega)
        have hlt' : (k : Int) < (n : Int) := by omega
        have hw : IntKind.i64.wrap (2 + (m : Int)) = 2 + (m : Int) := by rw [IntKind.wrap_i64]; omega
        have g5 : decide (2 + (m : Int) ≤ x) = false := decide_eq_false (by omega)
        have g6 : decide (0 < k) = false := decide_eq_false (by omega)
        clear h2 h3 hz
        go_wp2_with fail
        go_quiet (fail)
        go_wp2_with fail
        go_roundg (n - (k + 1))
        case measure => have := R.out.1; omega
        case rel => exact ⟨k + 1, by omega, rfl, by go_num, R.out.2.trans ⟨rfl, rfl, rfl, Nat.le_refl _, fun _ _ => rfl⟩⟩
      · obtain ⟨j, hj⟩ : ∃ j, k = j + 1 := ⟨k - 1, by omega⟩
        obtain ⟨b', off', ha', p1⟩ := HC.out j (by omega)
        rw [ha] at ha'
        simp only [Option.some.injEq, Addr.mk.injEq, and_true] at ha'
        obtain ⟨rfl, rfl⟩ := ha'
        subst ha
        have r1 : wr.cell? ⟨b, off + j, none⟩ = some (.int .i64 (t.getD j 0)) := (R.out.2.cell (block_lt_of_cell p1)).trans p1
        have h5 := h4 j (by omega)
        obtain ⟨x, hx⟩ : ∃ x, x = t.getD k 0 := ⟨_, rfl⟩
        obtain ⟨y, hy⟩ : ∃ y, y = t.getD j 0 := ⟨_, rfl⟩
        rw [← hx] at r0 h2 h3 h5
        rw [← hy] at r1 h5
        clear hx hy p0 p1 h4
        subst hj
        have g1 : decide (x < 2) = false := decide_eq_false (by omega)
        have g2 : decide (x ≥ 2 + (m : Int)) = false := decide_eq_false (by omega)
        have g3 : decide (((j + 1 : Nat) : Int) > 0) = true := decide_eq_true (by omega)
        have g4 : decide (x ≤ y) = false := decide_eq_false (by omega)
        have hlt' : ((j + 1 : Nat) : Int) < (n : Int) := by omega
        have es : ((j + 1 : Nat) : Int) - 1 = (j : Int) := by omega
        have hj2 : (j : Int) < (n : Int) := by omega
        clear h2 h3 h5 hz
        go_wp2_with fail
        go_quiet (fail)
        go_wp2_with fail
        go_roundg (n - (j + 1 + 1))
        case measure => have := R.out.1; omega
        case rel => exact ⟨j + 1 + 1, by omega, rfl, by go_num, R.out.2.trans ⟨rfl, rfl, rfl, Nat.le_refl _, fun _ _ => rfl⟩⟩
    · have hge : ¬ (k : Int) < (n : Int) := by omega
      go_wp2_with fail
      go_ret
      exact ⟨rfl, R.out.2⟩
/-- A step. -/
structure OpS where
  two : Bool
  kind : Int
  block : Int
def OpS.cells (o : OpS) : List Value := [.bool o.two, .int .i64 o.kind, .int .i64 o.block]
/-- The slice v holds the steps t. -/
def OpsS (w : World) (v : Value) (t : List OpS) : Prop :=
  (∀ o ∈ t, -9223372036854775808 ≤ o.block ∧ o.block < 9223372036854775808) ∧ ∃ a cap, v = .slice a t.length cap ∧ t.length ≤ cap ∧ cap ≤ maxLen ∧ (t ≠ [] → ∃ b off, a = some ⟨b, off, none⟩ ∧ ∀ j x, t[j]? = some x → w.rangeAt b (off + j * 3) x.cells)
theorem OpsS.below {w w' : World} {v : Value} {t : List OpS} (H : OpsS w v t) (hb : Below w.heap.size w w') : OpsS w' v t := by
  obtain ⟨h0, a, cap, e, h1, h2, h3⟩ := H
  refine ⟨h0, a, cap, e, h1, h2, fun hne => ?_⟩
  obtain ⟨b, off, ea, hc⟩ := h3 hne
  refine ⟨b, off, ea, fun j x hj i u hu => ?_⟩
  have := hc j x hj i u hu
  rw [hb.cell (p := ⟨b, off + j * 3 + i, none⟩) (block_lt_of_cell this)]
  exact this
theorem size_op : (Try.prog.info? 38).map (·.size) = some 3 := by kernel_rfl
set_option maxHeartbeats 1000000 in
theorem play_any (h : Sp B w d sb f l) (o : OpS) (ho : -9223372036854775808 ≤ o.block ∧ o.block < 9223372036854775808) :
    Calls Try.prog 15 #[.pointer (some ⟨d, 0, none⟩), .agg o.cells.toArray] w fun e w' => e = .returned (.tuple #[]) ∧ Sp B w' d sb f (stepR f o.kind o.block l) ∧ Kept (fun k => k = sb) w w' := by
  obtain ⟨two, kind, block⟩ := o
  have ho' : -9223372036854775808 ≤ block ∧ block < 9223372036854775808 := ho
  clear ho
  show Calls Try.prog _ #[_, .agg #[.bool two, .int .i64 kind, .int .i64 block]] w fun e w' => e = .returned (.tuple #[]) ∧ Sp B w' d sb f (stepR f kind block l) ∧ Kept (fun k => k = sb) w w'
  obtain ⟨X, hX⟩ : ∃ X, X = w.alloc (.cells #[.bool two, .int .i64 kind, .int .i64 block] 38) := ⟨_, rfl⟩
  have b1 : Below w.heap.size w X := by rw [hX]; exact (Below.refl _ _).alloc (Nat.le_refl _) _
  have H := Lib.hid (h.below b1)
  have K := Lib.hid (Below.kept b1 (fun k => k = sb))
  have c1 : X.cell? ⟨w.heap.size, 1, none⟩ = some (.int .i64 kind) := by rw [hX, World.cell?_alloc_new]; rfl
  have c2 : X.cell? ⟨w.heap.size, 2, none⟩ = some (.int .i64 block) := by rw [hX, World.cell?_alloc_new]; rfl
  have hX' := hX.symm
  clear h b1 hX
  go_enter Try.func15, Try.ntmps15
  by_cases k1 : kind = 1
  · have E : Hid (stepR f kind block l = (takeR f l).2.2) := Lib.hid (by unfold stepR; rw [if_pos k1])
    have g1 : (kind == 1) = true := by rw [k1]; rfl
    clear k1
    go_wp2_with fail
    refine (take_any H.out).mono ?_
    rintro _ w' ⟨rfl, h1, h2⟩
    have R := Lib.hid (And.intro h1 h2)
    clear h1 h2
    go_wp2_with fail
    first | go_end0 | refine bodyPost_ret (results_none rfl _ _ _) rfl ?_
    rw [E.out]
    exact ⟨rfl, R.out.1, Kept.trans (G := fun k => k = sb) K.out R.out.2 fun _ _ h => h⟩
  · have g1 : (kind == 1) = false := by rw [beq_eq_false_iff_ne]; exact k1
    by_cases k2 : kind = 2
    · have E : Hid (stepR f kind block l = (giveR f l block).2) := Lib.hid (by unfold stepR; rw [if_neg k1, if_pos k2])
      have g2 : (kind == 2) = true := by rw [k2]; rfl
      have HO := Lib.hid ho'
      clear k1 k2 ho'
      go_wp2_with fail
      refine (give_any H.out block HO.out).mono ?_
      rintro _ w' ⟨rfl, h1, h2⟩
      have R := Lib.hid (And.intro h1 h2)
      clear h1 h2
      go_wp2_with fail
      first | go_end0 | refine bodyPost_ret (results_none rfl _ _ _) rfl ?_
      rw [E.out]
      exact ⟨rfl, R.out.1, Kept.trans (G := fun k => k = sb) K.out R.out.2 fun _ _ h => h⟩
    · have g2 : (kind == 2) = false := by rw [beq_eq_false_iff_ne]; exact k2
      by_cases k3 : kind = 3
      · have E : Hid (stepR f kind block l = stlR 2 0 l) := Lib.hid (by unfold stepR; rw [if_neg k1, if_neg k2, if_pos k3])
        have g3 : (kind == 3) = true := by rw [k3]; rfl
        clear k1 k2 k3 ho'
        go_wp2_with fail
        refine (commit_any H.out).mono ?_
        rintro _ w' ⟨rfl, h1, h2⟩
        have R := Lib.hid (And.intro h1 h2)
        clear h1 h2
        go_wp2_with fail
        first | go_end0 | refine bodyPost_ret (results_none rfl _ _ _) rfl ?_
        rw [E.out]
        exact ⟨rfl, R.out.1, Kept.trans (G := fun k => k = sb) K.out R.out.2 fun _ _ h => h⟩
      · have g3 : (kind == 3) = false := by rw [beq_eq_false_iff_ne]; exact k3
        by_cases k4 : kind = 4
        · have E : Hid (stepR f kind block l = stlR 0 2 l) := Lib.hid (by unfold stepR; rw [if_neg k1, if_neg k2, if_neg k3, if_pos k4])
          have g4 : (kind == 4) = true := by rw [k4]; rfl
          clear k1 k2 k3 k4 ho'
          go_wp2_with fail
          refine (back_any H.out).mono ?_
          rintro _ w' ⟨rfl, h1, h2⟩
          have R := Lib.hid (And.intro h1 h2)
          clear h1 h2
          go_wp2_with fail
          first | go_end0 | refine bodyPost_ret (results_none rfl _ _ _) rfl ?_
          rw [E.out]
          exact ⟨rfl, R.out.1, Kept.trans (G := fun k => k = sb) K.out R.out.2 fun _ _ h => h⟩
        · have g4 : (kind == 4) = false := by rw [beq_eq_false_iff_ne]; exact k4
          have E : Hid (stepR f kind block l = l) := Lib.hid (by unfold stepR; rw [if_neg k1, if_neg k2, if_neg k3, if_neg k4])
          clear k1 k2 k3 k4 ho'
          go_wp2_with fail
          first | go_end0 | refine bodyPost_ret (results_none rfl _ _ _) rfl ?_
          rw [E.out]
          exact ⟨rfl, H.out, K.out⟩
end Go.Proofs.Ytfdhccanacpanaa
