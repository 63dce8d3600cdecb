/-
  THE WALKS: right, small.
-/
import Derived.Test.YtmabmmmiljkeeaaEnc
namespace Go.Proofs.Ytmabmmmiljkeeaa
open Go.RowKit

theorem and_i64_1 (i : Int) : bits .and .i64 i 1 = i % 2 := by
  show IntKind.i64.wrap ((BitVec.ofInt 64 i &&& BitVec.ofInt 64 1).toNat : Int) = _
  rw [BitVec.toNat_and, show (BitVec.ofInt 64 1).toNat = 1 by decide, nat_mask1, BitVec.toNat_ofInt]
  simp [IntKind.wrap, IntKind.bits, IntKind.signed]
  omega
theorem and_i64_8191 (i : Int) : bits .and .i64 i 8191 = i % 8192 := by
  show IntKind.i64.wrap ((BitVec.ofInt 64 i &&& BitVec.ofInt 64 8191).toNat : Int) = _
  rw [BitVec.toNat_and, show (BitVec.ofInt 64 8191).toNat = 2 ^ 13 - 1 by decide, Nat.and_two_pow_sub_one_eq_mod, BitVec.toNat_ofInt]
  simp [IntKind.wrap, IntKind.bits, IntKind.signed]
  omega
theorem and_u64_255 (n : Nat) (h : n < 18446744073709551616) : bits .and .u64 (n : Int) 255 = ((n % 256 : Nat) : Int) := by
  have e := u64_and_nat n 255 h (by decide)
  rw [nat_mask8] at e; exact e

/-- A kind made one of the six. -/
def kd (k : Int) : Int := if k.tmod 6 < 0 then -(k.tmod 6) else k.tmod 6
theorem kd_bd (k : Int) : 0 ≤ kd k ∧ kd k ≤ 5 := by
  unfold kd
  have h1 := Int.tmod_lt_of_pos k (show (0 : Int) < 6 by decide)
  have h2 : -6 < k.tmod 6 := by
    have := Int.lt_tmod_of_pos k (show (0 : Int) < 6 by decide)
    simpa using this
  split <;> omega
def V.right (x : V) : V :=
  if kd x.k = 0 then ⟨0, x.u, 0, ⟨#[]⟩⟩ else if kd x.k = 1 then ⟨1, 0, x.i, ⟨#[]⟩⟩ else if kd x.k = 2 then ⟨2, 0, x.i % 2, ⟨#[]⟩⟩
  else if kd x.k = 3 then ⟨3, x.u % 256, 0, ⟨#[]⟩⟩ else if kd x.k = 4 then ⟨4, 0, 0, x.s⟩ else ⟨5, 0, x.i % 8192 % 4097, ⟨#[]⟩⟩
theorem right_fits (x : V) (h : x.fits) : x.right.fits ∧ x.right.ok ∧ x.right.s.size ≤ x.s.size := by
  obtain ⟨k, u, i, t⟩ := x
  obtain ⟨⟨k0, k1⟩, hu, ⟨i0, i1⟩, ht⟩ := h
  simp only at k0 k1 hu i0 i1 ht
  unfold V.right
  simp only
  have z : (⟨#[]⟩ : ByteArray).size = 0 := rfl
  have hn : ∀ k u i (t' : ByteArray), (-9223372036854775808 ≤ k ∧ k < 9223372036854775808) → u < 18446744073709551616 → (-9223372036854775808 ≤ i ∧ i < 9223372036854775808) → t'.size ≤ t.size → ((0 ≤ k ∧ k ≤ 5) ∧ (k = 5 → 0 ≤ i ∧ i ≤ 4096)) →
      (⟨k, u, i, t'⟩ : V).fits ∧ (⟨k, u, i, t'⟩ : V).ok ∧ (⟨k, u, i, t'⟩ : V).s.size ≤ t.size :=
    fun k u i t' h1 h2 h3 h4 h5 => ⟨⟨h1, h2, h3, Nat.le_trans h4 ht⟩, h5, h4⟩
  split
  · exact hn _ _ _ _ (by decide) hu (by decide) (by rw [z]; omega) (by decide)
  split
  · exact hn _ _ _ _ (by decide) (by decide) ⟨i0, i1⟩ (by rw [z]; omega) ⟨by decide, fun h => by omega⟩
  split
  · exact hn _ _ _ _ (by decide) (by decide) (by omega) (by rw [z]; omega) ⟨by decide, fun h => by omega⟩
  split
  · exact hn _ _ _ _ (by decide) (by omega) (by decide) (by rw [z]; omega) (by decide)
  split
  · exact hn _ _ _ _ (by decide) (by decide) (by decide) (Nat.le_refl _) (by decide)
  · exact hn _ _ _ _ (by decide) (by decide) (by omega) (by rw [z]; omega) ⟨by decide, fun _ => by omega⟩

set_option maxHeartbeats 4000000 in
set_option maxRecDepth 100000 in
theorem right_any (x : V) (w : World) (hx : x.fits) :
    Calls Try.prog 44 #[x.agg] w fun e w' => e = .returned x.right.agg ∧ Below w.heap.size w w' := by
  have hkd := kd_bd x.k
  obtain ⟨k, u, i, t⟩ := x
  obtain ⟨⟨k0, k1⟩, hu, ⟨i0, i1⟩, ht⟩ := hx
  simp only at k0 k1 hu i0 i1 ht hkd
  unfold V.agg
  have a1 := and_i64_1 i
  have a2 := and_i64_8191 i
  have a3 := and_u64_255 u hu
  have hc : k.tmod 6 = 0 ∨ k.tmod 6 = 1 ∨ k.tmod 6 = 2 ∨ k.tmod 6 = 3 ∨ k.tmod 6 = 4 ∨ k.tmod 6 = 5 ∨ k.tmod 6 = -1 ∨ k.tmod 6 = -2 ∨ k.tmod 6 = -3 ∨ k.tmod 6 = -4 ∨ k.tmod 6 = -5 := by
    unfold kd at hkd; split at hkd <;> omega
  clear hkd
  go_enter Try.func44, Try.ntmps44
  rcases hc with h | h | h | h | h | h | h | h | h | h | h
  all_goals
    go_wp2_with fail
    refine bodyPost_ret (v := (⟨k, u, i, t⟩ : V).right.agg) (by simp [results, Try.results44, go_sem, V.agg, V.right, kd, h]) rfl ⟨rfl, ?_⟩
    exact ((Below.refl _ _).alloc (Nat.le_refl _) _).alloc (by simp) _

theorem info_val : (Try.prog.info? 43).map (fun i => (i.zero, i.size, i.bytes)) = some (some (.agg #[.int .i64 0, .int .u64 0, .int .i64 0, .string ⟨#[]⟩]), 4, 40) := by kernel_rfl
/-- The cells of values. -/
def cellsV (xs : List V) : List Value := xs.flatMap V.cells
theorem cellsV_length (xs : List V) : (cellsV xs).length = xs.length * 4 := by
  induction xs with
  | nil => rfl
  | cons x xs ih => rw [cellsV, List.flatMap_cons, List.length_append]; rw [cellsV] at ih; rw [ih]; simp [V.cells]; omega
theorem cellsV_app (xs ys : List V) : cellsV (xs ++ ys) = cellsV xs ++ cellsV ys := by simp [cellsV]
theorem cellsV_at (xs : List V) (k j : Nat) (y : Value) (hk : k < xs.length) (hy : (xs.getD k ⟨0, 0, 0, ⟨#[]⟩⟩).cells[j]? = some y) : (cellsV xs)[k * 4 + j]? = some y := by
  have hj : j < 4 := by
    rcases Nat.lt_or_ge j 4 with q | q
    · exact q
    · rw [List.getElem?_eq_none (by simpa [V.cells] using q)] at hy; simp at hy
  induction xs generalizing k with
  | nil => simp at hk
  | cons x xs ih =>
    rw [cellsV, List.flatMap_cons]
    have hl : x.cells.length = 4 := rfl
    cases k with
    | zero =>
      rw [List.getElem?_append_left (by omega), Nat.zero_mul, Nat.zero_add]
      simpa using hy
    | succ k =>
      rw [List.getElem?_append_right (by omega), hl, show (k + 1) * 4 + j - 4 = k * 4 + j by omega]
      exact ih k (by simpa using hk) (by simpa using hy)
/-- The slice v belongs to the call alone and holds the values xs. -/
def OwnV (B : Nat) (w : World) (v : Value) (xs : List V) : Prop := w.ownsRow B 43 4 v xs.length (cellsV xs)
theorem OwnV.vals {B : Nat} {w : World} {v : Value} {xs : List V} (H : OwnV B w v xs) : Vals w v xs := by
  obtain ⟨_, ⟨hv, hn⟩ | ⟨g, cap, cur, hv, hb, hg, hn, hm, hs, ht⟩⟩ := H
  · exact ⟨none, 0, by rw [hv, hn], by omega, by decide, fun _ => rfl, fun k hk => by omega⟩
  · refine ⟨_, cap, hv, hn, hm, fun h => by simp at h, fun k hk => ⟨g, 0, rfl, fun j y hy => ?_⟩⟩
    have h1 := cellsV_at xs k j y hk hy
    rw [cell_of_row w g _ cur _ _ hg, Nat.zero_add, ← Array.getElem?_toList]
    have hlt : k * 4 + j < xs.length * 4 := by
      rcases Nat.lt_or_ge (k * 4 + j) (xs.length * 4) with q | q
      · exact q
      · rw [List.getElem?_eq_none (by rw [cellsV_length]; exact q)] at h1; simp at h1
    rw [← ht, List.getElem?_take_of_lt hlt] at h1
    exact h1
theorem OwnV.kept {B : Nat} {F : Nat → Prop} {w w' : World} {v : Value} {xs : List V} (H : OwnV B w v xs) (hk : Kept F w w') (hF : ∀ k, v.ownBlock = some k → ¬ F k) : OwnV B w' v xs := by
  obtain ⟨h1, h | ⟨g, cap, cur, hv, hB, hg, hr⟩⟩ := H
  · exact ⟨h1, .inl h⟩
  · have hlt : g < w.heap.size := by
      rcases Nat.lt_or_ge g w.heap.size with h | h
      · exact h
      · rw [Array.getElem?_eq_none h] at hg; simp at hg
    subst hv
    exact ⟨h1, .inr ⟨g, cap, cur, rfl, hB, by rw [hk.block g hlt (hF g rfl)]; exact hg, hr⟩⟩
theorem OwnV.below {B : Nat} {w w' : World} {v : Value} {xs : List V} (H : OwnV B w v xs) (hk : Below w.heap.size w w') : OwnV B w' v xs := H.kept (Below.kept hk (fun _ => False)) (fun _ _ => id)
theorem V.cells_one (x : V) : ∀ u ∈ x.cells, u.oneCell' = true := by
  intro u hu
  simp only [V.cells, List.mem_cons, List.not_mem_nil, or_false] at hu
  rcases hu with rfl | rfl | rfl | rfl <;> rfl
theorem app_val {ops : Array Oper} {rest : List Oper} {o : Oper} {a : Act} {Q : Exit → Act → World → Prop} (hgd : o.guard = none) (s y : Operand)
    (ho : o.op = .call { callee := .builtin .append, args := #[s, y], argTypes := #[35, 35] })
    {B : Nat} {w0 : World} {v : Value} {xs : List V} (hs : a.eval s = v) (hown : OwnV B w0 v xs) (hB : B ≤ w0.heap.size) (x : V) {gg : Nat} (hgg : gg = w0.heap.size)
    (hy : a.eval y = .slice (some ⟨gg, 0, none⟩) 1 1) (hl : xs.length < 1000000000)
    (h : ∀ v' w', OwnV B w' v' (xs ++ [x]) → w0.grownBy w' v.ownBlock → wpList Try.prog ops Q rest (a.put o.dst v') w') :
    wpList Try.prog ops Q (o :: rest) a (w0.alloc (.cells #[.int .i64 x.k, .int .u64 x.u, .int .i64 x.i, .string x.s] 43)) := by
  subst hgg
  obtain ⟨i0, hi, hz0, hz1, hz2⟩ := info_parts info_val
  have e : w0.alloc (.cells #[.int .i64 x.k, .int .u64 x.u, .int .i64 x.i, .string x.s] 43) = w0.alloc (.cells x.cells.toArray 43) := rfl
  rw [e]
  refine wpList_append_own_at _ hgd s y 35 ho B 43 i0 _ 4 40 Try.underlying35 hi hz0 hz1 hz2 rfl (by decide) v xs.length (cellsV xs) hs (World.ownsRow.alloc hown _) ⟨w0.heap.size, 0, none⟩ 1 1 x.cells hy rfl ?_ x.cells_one (by unfold maxLen; omega) (by omega) (by simp; omega) ?_
  · intro j u hj
    rw [add_plain, Nat.zero_add, World.cell?_alloc_new, ← Array.getElem?_toList]; exact hj
  · intro v' w' h1 h2 _ _
    refine h v' w' ?_ (grown_alloc h2)
    show w'.ownsRow _ _ _ _ _ _
    rw [cellsV_app, List.length_append]
    have e2 : cellsV [x] = x.cells := by simp [cellsV]
    rw [e2]; exact h1
end Go.Proofs.Ytmabmmmiljkeeaa
