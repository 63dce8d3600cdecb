/-
  THE DEVICE, without the program: its state, what each call does with it.
-/
import Derived.Test.YtbdlebengmbooaaBase2
namespace Go.Proofs.Ytbdlebengmbooaa
open Go Go.RowKit
/-- A write: its block, its bytes. -/
abbrev Wt := Nat × List UInt8
structure DS where
  n : Nat
  med : List UInt8
  cache : List Wt
  armed : Bool
  left : Int
  down : Bool
  cr : Int
  cw : Int
  cf : Int
  /-- writes since it was made -/
  ws : Nat
def up (i : Int) : Int := wrap64 (i + 1)
theorem splice_at {α : Type} (L : List α) (off : Nat) (cs : List α) (h : off + cs.length ≤ L.length) (k : Nat) : (splice L off cs)[k]? = if off ≤ k ∧ k < off + cs.length then cs[k - off]? else L[k]? := by
  unfold splice
  rw [List.getElem?_append, List.length_take, Nat.min_eq_left (by omega)]
  by_cases h1 : k < off
  · rw [if_pos h1, if_neg (by omega), List.getElem?_take_of_lt h1]
  · rw [if_neg h1, List.getElem?_append]
    by_cases h2 : k < off + cs.length
    · rw [if_pos (by omega), if_pos ⟨by omega, h2⟩]
    · rw [if_neg (by omega), if_neg (by omega), List.getElem?_drop]
      congr 1
      omega
theorem splice_map {α β : Type} (f : α → β) (L : List α) (off : Nat) (cs : List α) : (splice L off cs).map f = splice (L.map f) off (cs.map f) := by
  simp [splice, List.map_take, List.map_drop]
theorem splice_cells (L : List UInt8) (off : Nat) (cs : List UInt8) : splice (cells8 L) off (cells8 cs) = cells8 (splice L off cs) := by
  unfold cells8
  rw [splice_map]
/-- A block of a medium. -/
def raw (m : List UInt8) (b : Nat) : List UInt8 := (m.drop (512 * b)).take 512
theorem raw_length (m : List UInt8) (b : Nat) (h : 512 * b + 512 ≤ m.length) : (raw m b).length = 512 := by
  unfold raw
  rw [List.length_take, List.length_drop]
  omega
theorem raw_at (m : List UInt8) (b k : Nat) (h : k < 512) : (raw m b)[k]? = m[512 * b + k]? := by
  unfold raw
  rw [List.getElem?_take_of_lt h, List.getElem?_drop]
/-- Bytes laid at the beginning of a block. -/
def lay (m : List UInt8) (b : Nat) (p : List UInt8) : List UInt8 := splice m (512 * b) p
theorem lay_length (m : List UInt8) (b : Nat) (p : List UInt8) (h : 512 * b + p.length ≤ m.length) : (lay m b p).length = m.length := length_splice m _ p h
theorem raw_lay_other (m : List UInt8) (b c : Nat) (p : List UInt8) (hp : p.length ≤ 512) (h : 512 * b + 512 ≤ m.length) (hbc : c ≠ b) : raw (lay m b p) c = raw m c := by
  apply List.ext_getElem?
  intro k
  by_cases hk : k < 512
  · rw [raw_at _ _ _ hk, raw_at _ _ _ hk, lay, splice_at _ _ _ (by omega), if_neg (by omega)]
  · unfold raw
    rw [List.getElem?_eq_none (by rw [List.length_take]; omega), List.getElem?_eq_none (by rw [List.length_take]; omega)]
theorem raw_lay_same (m : List UInt8) (b : Nat) (p : List UInt8) (hp : p.length ≤ 512) (h : 512 * b + 512 ≤ m.length) : raw (lay m b p) b = splice (raw m b) 0 p := by
  apply List.ext_getElem?
  intro k
  rw [splice_at _ _ _ (by rw [raw_length _ _ h]; omega)]
  by_cases hk : k < 512
  · rw [raw_at _ _ _ hk, raw_at _ _ _ hk, lay, splice_at _ _ _ (by omega)]
    by_cases h2 : k < p.length
    · rw [if_pos (by omega), if_pos (by omega)]
      congr 1
      omega
    · rw [if_neg (by omega), if_neg (by omega)]
  · rw [if_neg (by omega)]
    unfold raw
    rw [List.getElem?_eq_none (by rw [List.length_take]; omega), List.getElem?_eq_none (by rw [List.length_take]; omega)]
theorem splice_all {α : Type} (L cs : List α) (h : cs.length = L.length) : splice L 0 cs = cs := by
  unfold splice
  simp [h]
/-- What a fate leaves of a write: how many bytes, and whether it counts. -/
def keptN (f : Int × Int) : Nat × Bool := if f.1 = 1 then (512, true) else if f.1 = 2 then ((min (max f.2 0) 512).toNat, true) else (0, false)
theorem keptN_le (f : Int × Int) : (keptN f).1 ≤ 512 := by
  unfold keptN
  split
  · exact Nat.le_refl _
  · split
    · show (min (max f.2 0) 512).toNat ≤ 512
      omega
    · exact Nat.zero_le _
/-- The cache laid on a medium, each write by its fate; how many counted. -/
def sets (f : Nat → Int × Int) : Nat → List Wt → List UInt8 → List UInt8
  | _, [], m => m
  | k, x :: l, m => sets f (k + 1) l (lay m x.1 (x.2.take (keptN (f k)).1))
def cnts (f : Nat → Int × Int) : Nat → List Wt → Nat
  | _, [] => 0
  | k, _ :: l => (if (keptN (f k)).2 then 1 else 0) + cnts f (k + 1) l
def OkC (n : Nat) (l : List Wt) : Prop := ∀ x ∈ l, x.1 < n ∧ x.2.length = 512
theorem sets_length (f : Nat → Int × Int) (n : Nat) : ∀ (l : List Wt) (k : Nat) (m : List UInt8), OkC n l → m.length = 512 * n → (sets f k l m).length = 512 * n
  | [], _, _, _, h => h
  | x :: l, k, m, hl, h => by
    have hx := hl x (by simp)
    refine sets_length f n l (k + 1) _ (fun y hy => hl y (by simp [hy])) ?_
    rw [lay_length _ _ _ (by rw [List.length_take]; omega), h]
theorem sets_snoc (f : Nat → Int × Int) (x : Wt) : ∀ (l : List Wt) (k : Nat) (m : List UInt8), sets f k (l ++ [x]) m = lay (sets f k l m) x.1 (x.2.take (keptN (f (k + l.length))).1)
  | [], k, m => by simp [sets]
  | y :: l, k, m => by
    have e : k + 1 + l.length = k + (y :: l).length := by simp only [List.length_cons]; omega
    rw [List.cons_append, sets, sets, sets_snoc f x l, e]
theorem cnts_snoc (f : Nat → Int × Int) (x : Wt) : ∀ (l : List Wt) (k : Nat), cnts f k (l ++ [x]) = cnts f k l + (if (keptN (f (k + l.length))).2 then 1 else 0)
  | [], k => by simp [cnts]
  | y :: l, k => by
    rw [List.cons_append, cnts, cnts, cnts_snoc f x l]
    have e : k + 1 + l.length = k + (y :: l).length := by simp only [List.length_cons]; omega
    rw [e]
    omega
theorem cnts_le (f : Nat → Int × Int) : ∀ (l : List Wt) (k : Nat), cnts f k l ≤ l.length
  | [], _ => Nat.le_refl _
  | x :: l, k => by
    have := cnts_le f l (k + 1)
    rw [cnts, List.length_cons]
    split <;> omega
/-- Where a block's latest write stands. -/
def lastIx (b : Nat) : List Wt → Nat → Option Nat
  | [], _ => none
  | x :: l, k => match lastIx b l (k + 1) with
    | some i => some i
    | none => if x.1 = b then some k else none
theorem lastIx_snoc (b : Nat) (x : Wt) : ∀ (l : List Wt) (k : Nat), lastIx b (l ++ [x]) k = if x.1 = b then some (k + l.length) else lastIx b l k
  | [], k => by
    simp only [List.nil_append, lastIx, List.length_nil, Nat.add_zero]
  | y :: l, k => by
    rw [List.cons_append, lastIx, lastIx_snoc b x l, lastIx]
    by_cases h : x.1 = b
    · rw [if_pos h, if_pos h]
      simp only [List.length_cons]
      congr 1
      omega
    · rw [if_neg h, if_neg h]
theorem lastIx_lt (b : Nat) : ∀ (l : List Wt) (k i : Nat), lastIx b l k = some i → k ≤ i ∧ i < k + l.length ∧ ∃ x, l[i - k]? = some x ∧ x.1 = b
  | [], k, i, h => by simp [lastIx] at h
  | y :: l, k, i, h => by
    rw [lastIx] at h
    cases hl : lastIx b l (k + 1) with
    | some j =>
      rw [hl] at h
      simp only [Option.some.injEq] at h
      subst h
      obtain ⟨h1, h2, x, h3, h4⟩ := lastIx_lt b l (k + 1) j hl
      refine ⟨by omega, by simp only [List.length_cons]; omega, x, ?_, h4⟩
      have : j - k = (j - (k + 1)) + 1 := by omega
      rw [this, List.getElem?_cons_succ]
      exact h3
    | none =>
      rw [hl] at h
      simp only at h
      split at h
      · simp only [Option.some.injEq] at h
        subst h
        exact ⟨Nat.le_refl _, by simp, y, by simp, by assumption⟩
      · cases h
/-- A block as it reads through the cache. -/
def rdB (s : DS) (b : Nat) : List UInt8 :=
  match lastIx b s.cache 0 with
  | some i => (s.cache.getD i (0, [])).2
  | none => raw s.med b
/-- A write or a flush begins. -/
def actD (s : DS) : DS × Int :=
  if (s.armed && decide (s.left = 0)) = true then ({ s with down := true }, 6)
  else if s.down = true then (s, 6)
  else if s.armed = true then ({ s with left := wrap64 (s.left - 1) }, 0)
  else (s, 0)
def hasB (s : DS) (i : Int) : Bool := decide (0 ≤ i) && decide (i < s.n)
def wrD (s : DS) (i : Int) (p : List UInt8) : DS × Int :=
  if hasB s i = false then (s, 60)
  else if p.length ≠ 512 then (s, 61)
  else if (actD s).2 ≠ 0 then (actD s)
  else ({ (actD s).1 with cache := s.cache ++ [(i.toNat, p)], cw := up s.cw, ws := s.ws + 1 }, 0)
def flD (s : DS) : DS × Int :=
  if (actD s).2 ≠ 0 then (actD s)
  else ({ (actD s).1 with med := sets (fun _ => (1, 0)) 0 s.cache s.med, cache := [], cf := up s.cf }, 0)
def fateAt (fs : List (Int × Int)) (k : Nat) : Int × Int := fs.getD k (0, 0)
def crD (s : DS) (fs : List (Int × Int)) : DS := { s with med := sets (fateAt fs) 0 s.cache s.med, cache := [], armed := false, left := 0, down := false }
def armD (s : DS) (n : Int) : DS × Int := if n < 0 then (s, 1) else if s.down = true then (s, 6) else ({ s with armed := true, left := n }, 0)
def edD (s : DS) (i at_ : Int) (p : List UInt8) : DS × Int :=
  if hasB s i = false then (s, 60)
  else if at_ < 0 ∨ 512 - (p.length : Int) < at_ then (s, 1)
  else ({ s with med := splice s.med (512 * i.toNat + at_.toNat) p }, 0)
def rdD (s : DS) (i : Int) : DS × List UInt8 × Int :=
  if hasB s i = false then (s, [], 60) else if s.down = true then (s, [], 6) else ({ s with cr := up s.cr }, rdB s i.toNat, 0)
def rawD (s : DS) (i : Int) : List UInt8 × Int := if hasB s i = false then ([], 60) else (raw s.med i.toNat, 0)
/-- What always holds of a device. -/
structure Fit (s : DS) : Prop where
  lo : 64 ≤ s.n
  hi : s.n ≤ 4096
  len : s.med.length = 512 * s.n
  ok : OkC s.n s.cache
  ws : s.cache.length ≤ s.ws
def newD (n : Nat) (m : List UInt8) : DS := ⟨n, m, [], false, 0, false, 0, 0, 0, 0⟩
end Go.Proofs.Ytbdlebengmbooaa
