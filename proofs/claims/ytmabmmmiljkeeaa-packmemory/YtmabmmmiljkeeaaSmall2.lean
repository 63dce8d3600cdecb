/-
  THE WALK of small.
-/
import Derived.Test.YtmabmmmiljkeeaaSmall
namespace Go.Proofs.Ytmabmmmiljkeeaa
open Go.RowKit

/-- The values made right, as long as they fit; n: what was counted so far. -/
def sm : List V → Nat → List V
  | [], _ => []
  | x :: t, n => if 1048576 < n + 10 + x.right.s.size then [] else x.right :: sm t (n + 10 + x.right.s.size)
theorem sm_all (xs : List V) (n : Nat) (h : ∀ x ∈ xs, x.fits) : ∀ x ∈ sm xs n, x.fits ∧ x.ok := by
  induction xs generalizing n with
  | nil => intro x hx; simp [sm] at hx
  | cons y t ih =>
    intro x hx
    rw [sm] at hx
    split at hx
    · simp at hx
    · rcases List.mem_cons.1 hx with rfl | hx
      · have := right_fits y (h y (by simp)); exact ⟨this.1, this.2.1⟩
      · exact ih _ (fun z hz => h z (by simp [hz])) x hx
theorem sm_len (xs : List V) (n : Nat) (h : ∀ x ∈ xs, x.fits) (hn : n ≤ 1048576) : n + (encs (sm xs n)).length ≤ 1048576 ∧ n + 10 * (sm xs n).length ≤ 1048576 := by
  induction xs generalizing n with
  | nil => simp [sm, encs]; omega
  | cons y t ih =>
    rw [sm]
    split
    · simp [encs]; omega
    · rename_i hle
      have r := right_fits y (h y (by simp))
      have l := (enc_len y.right r.1 r.2.1).2
      have i := ih (n + 10 + y.right.s.size) (fun z hz => h z (by simp [hz])) (by omega)
      rw [encs_cons, List.length_append, List.length_cons]
      omega

theorem Vals.below {w w' : World} {v : Value} {xs : List V} (H : Vals w v xs) (hb : Below w.heap.size w w') : Vals w' v xs := by
  obtain ⟨a, cap, e, h1, h2, h0, h3⟩ := H
  refine ⟨a, cap, e, h1, h2, h0, fun k hk => ?_⟩
  obtain ⟨b, off, ea, hc⟩ := h3 k hk
  refine ⟨b, off, ea, fun j y hy => ?_⟩
  have h := hc j y hy
  rw [hb.cell (block_lt_of_cell h)]; exact h
theorem Vals.at {w : World} {a : Option Addr} {n cap : Nat} {xs : List V} (H : Vals w (.slice a n cap) xs) (k : Nat) (hk : k < xs.length) :
    ∃ b off, a = some ⟨b, off, none⟩ ∧ w.cell? ⟨b, off + k * 4, none⟩ = some (.int .i64 (xs.getD k ⟨0, 0, 0, ⟨#[]⟩⟩).k) ∧ w.cell? ⟨b, off + k * 4 + 1, none⟩ = some (.int .u64 (xs.getD k ⟨0, 0, 0, ⟨#[]⟩⟩).u) ∧
      w.cell? ⟨b, off + k * 4 + 2, none⟩ = some (.int .i64 (xs.getD k ⟨0, 0, 0, ⟨#[]⟩⟩).i) ∧ w.cell? ⟨b, off + k * 4 + 3, none⟩ = some (.string (xs.getD k ⟨0, 0, 0, ⟨#[]⟩⟩).s) := by
  obtain ⟨a', cap', e', _, _, _, hc⟩ := H
  simp only [Value.slice.injEq] at e'
  obtain ⟨rfl, rfl, rfl⟩ := e'
  obtain ⟨b, off, ea, h⟩ := hc k hk
  exact ⟨b, off, ea, h 0 _ rfl, h 1 _ rfl, h 2 _ rfl, h 3 _ rfl⟩
theorem Vals.len {w : World} {v : Value} {xs : List V} (H : Vals w v xs) : ∃ a cap, v = .slice a xs.length cap ∧ xs.length ≤ cap ∧ cap ≤ maxLen := by
  obtain ⟨a, cap, h, h1, h2, _⟩ := H; exact ⟨a, cap, h, h1, h2⟩
theorem OwnV.lt {B : Nat} {w : World} {v : Value} {l : List V} (h : OwnV B w v l) : ∀ k, v.ownBlock = some k → B ≤ k ∧ k < w.heap.size := World.ownsRow.lt h
theorem grown_belowV {B : Nat} {w w' : World} {v : Value} {l : List V} (h : w.grownBy w' v.ownBlock) (ho : OwnV B w v l) (hB : B ≤ w.heap.size) : Below B w w' :=
  (Below.refl B w).grown h hB (fun k hk => (ho.lt k hk).1)

set_option maxHeartbeats 4000000 in
theorem small_any (v : Value) (xs : List V) (w : World) (hv : Vals w v xs) (hx : ∀ x ∈ xs, x.fits) :
    Calls Try.prog 16 #[v] w fun e w' => ∃ v', e = .returned v' ∧ OwnV w.heap.size w' v' (sm xs 0) ∧ Below w.heap.size w w' := by
  obtain ⟨a, cap, rfl, hlc, hcm⟩ := hv.len
  unfold maxLen at hcm
  have Vv : Aside (Vals w (.slice a xs.length cap) xs ∧ ∀ x ∈ xs, x.fits) := ⟨hv, hx⟩
  clear hv hx
  go_enter Try.func16, Try.ntmps16
  go_wp2_with fail
  go_loopg [3, 4, 5] xs.length (fun g so ss si wr => ∃ (k n : Nat) (vo : Value) (acc : List V), k ≤ xs.length ∧ g = xs.length - k ∧ si = .int .i64 k ∧ ss = .int .i64 n ∧ vo = so ∧ n ≤ 1048576 ∧ acc.length ≤ k ∧ 10 * acc.length ≤ n ∧ acc ++ sm (xs.drop k) n = sm xs 0 ∧ OwnV w.heap.size wr vo acc ∧ Below w.heap.size w wr)
  case atStart => exact ⟨0, 0, _, [], Nat.zero_le _, rfl, rfl, rfl, rfl, by omega, by simp, by simp, rfl, World.ownsRow_nil _ _ _ _, Below.refl _ _⟩
  case round =>
    obtain ⟨k, n, vo, acc, hk, hg, rfl, rfl, rfl, hn, ha1, ha2, hsm, ho, hb⟩ := hrel
    have R : Aside (gk = xs.length - k ∧ acc ++ sm (xs.drop k) n = sm xs 0 ∧ OwnV w.heap.size wr vo acc ∧ Below w.heap.size w wr ∧ 10 * acc.length ≤ n ∧ acc.length ≤ k) := ⟨hg, hsm, ho, hb, ha2, ha1⟩
    clear hg hsm ho hb ha1 ha2
    by_cases hlt : k < xs.length
    · obtain ⟨b, off, rfl, p0, p1, p2, p3⟩ := (Vv.out.1.below ((R.out.2.2.2.1).mono (Nat.le_refl _))).at k hlt
      have dr : xs.drop k = xs.getD k ⟨0, 0, 0, ⟨#[]⟩⟩ :: xs.drop (k + 1) := by
        rw [List.drop_eq_getElem_cons hlt]; simp [List.getD, hlt]
      obtain ⟨x, hxx⟩ : ∃ x, x = xs.getD k ⟨0, 0, 0, ⟨#[]⟩⟩ := ⟨_, rfl⟩
      rw [← hxx] at p0 p1 p2 p3 dr
      have hmem : x ∈ xs := by rw [hxx]; simp [List.getD, hlt]
      have X : Aside (xs.drop k = x :: xs.drop (k + 1) ∧ x.fits) := ⟨dr, Vv.out.2 x hmem⟩
      clear hxx hmem dr
      go_wp2_with fail
      refine (right_any x wr X.out.2).mono ?_
      rintro e w1 ⟨rfl, hb1⟩
      have rf := right_fits x X.out.2
      obtain ⟨y, hy⟩ : ∃ y, y = x.right := ⟨_, rfl⟩
      rw [← hy] at rf ⊢
      have Y : Aside (y = x.right) := hy
      have ysz : y.s.size ≤ 140737488355328 := rf.1.2.2.2
      have O1 : OwnV w.heap.size w1 vo acc := R.out.2.2.1.below hb1
      have B1 : Below w.heap.size w w1 := R.out.2.2.2.1.trans (hb1.mono R.out.2.2.2.1.size)
      have O2 : Hid (OwnV w.heap.size (w1.alloc (.cells #[.int .i64 y.k, .int .u64 y.u, .int .i64 y.i, .string y.s] 43)) vo acc) := World.ownsRow.alloc O1 _
      have B2 : Aside (Below w.heap.size w (w1.alloc (.cells #[.int .i64 y.k, .int .u64 y.u, .int .i64 y.i, .string y.s] 43))) := B1.alloc B1.size _
      have S2 : Hid (w.heap.size ≤ (w1.alloc (.cells #[.int .i64 y.k, .int .u64 y.u, .int .i64 y.i, .string y.s] 43)).heap.size) := by have := B1.size; show _ ≤ _; simp; omega
      have L : Hid (acc.length < 1000000000) := by have := R.out.2.2.2.2.1; show _ < _; omega
      clear hy rf hb1 O1 B1 p0 p1 p2 p3
      unfold V.agg
      by_cases hbig : 1048576 < n + 10 + y.s.size
      · have hbig' : ((n : Int) + 10 + (y.s.size : Int) > 1048576) := by omega
        go_wp2_with fail
        go_ret
        refine ⟨vo, rfl, ?_, B2.out⟩
        have e : sm xs 0 = acc := by
          rw [← R.out.2.1, X.out.1, sm, ← Y.out, if_pos hbig, List.append_nil]
        rw [e]; exact O2.out
      · have hbig' : ¬ ((n : Int) + 10 + (y.s.size : Int) > 1048576) := by omega
        go_wp2_with (at_builtin; refine app_val (gg := w1.heap.size + 1) rfl _ _ rfl rfl O2.out S2.out y ?hgg rfl L.out ?_)
        case hgg => simp
        intro v' w' h1 h2
        have A : Aside (OwnV w.heap.size w' v' (acc ++ [y]) ∧ Below w.heap.size w w') := ⟨h1, B2.out.trans (grown_belowV h2 O2.out S2.out)⟩
        clear h1 h2 O2 S2 L
        go_wp2_with fail
        go_roundg (xs.length - (k + 1))
        case measure => have := R.out.1; omega
        case rel =>
          refine ⟨k + 1, n + 10 + y.s.size, v', acc ++ [y], by omega, rfl, by go_num, by go_num, rfl, by omega, ?_, ?_, ?_, A.out.1, A.out.2⟩
          · have := R.out.2.2.2.2.2; simp; omega
          · have := R.out.2.2.2.2.1; simp; omega
          · rw [← R.out.2.1, X.out.1, sm, ← Y.out, if_neg hbig, List.append_assoc]; rfl
    · go_wp2_with fail
      go_ret
      refine ⟨vo, rfl, ?_, R.out.2.2.2.1⟩
      have e := R.out.2.1
      rw [List.drop_eq_nil_of_le (by omega)] at e
      simp only [sm, List.append_nil] at e
      rw [← e]; exact R.out.2.2.1
end Go.Proofs.Ytmabmmmiljkeeaa
