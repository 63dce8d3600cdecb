/-
  SsP, SsB, SsA, SsQ, SsM, SsN, SsC, SsU, SsV, joined.
-/
import Derived.Sort.LotA
import Derived.Shelf.SlGeneric
import Derived.Shelf.SlSortCmp.KitK
import Derived.Sort.WalkB2
import Derived.Sort.WalkB12
import Derived.Deep.LoopGhost
import Derived.Lib.Hide
section S0
namespace Go.Proofs.YtehgnbgbmicheaaGreatDoor
open Go.Sort
namespace Ss
variable {α : Type} [Inhabited α]
/-- So many elements from a on, exchanged with those from b on. -/
def swr (d : Array α) (a b : Nat) : Nat → Array α
  | 0 => d
  | n + 1 => swp (swr d a b n) (a + n) (b + n)
theorem swr_size (d : Array α) (a b n : Nat) : (swr d a b n).size = d.size := by
  induction n with
  | zero => rfl
  | succ n ih => rw [swr, swp_size, ih]
theorem swr_get (d : Array α) (a b n : Nat) (hab : a + n ≤ b) (hb : b + n ≤ d.size) (x : Nat) : (swr d a b n)[x]! = if a ≤ x ∧ x < a + n then d[x + (b - a)]! else if b ≤ x ∧ x < b + n then d[x - (b - a)]! else d[x]! := by
  induction n generalizing x with
  | zero => rw [swr, if_neg (by omega), if_neg (by omega)]
  | succ n ih =>
    have q := fun y => ih (by omega) (by omega) y
    rw [swr, swp_get _ (by rw [swr_size]; omega) (by rw [swr_size]; omega)]
    by_cases h1 : x = b + n
    · rw [if_pos h1, q, if_neg (by omega), if_neg (by omega), if_neg (by omega), if_pos (by omega)]
      congr 1; omega
    · rw [if_neg h1]
      by_cases h2 : x = a + n
      · rw [if_pos h2, q, if_neg (by omega), if_neg (by omega), if_pos (by omega)]
        congr 1; omega
      · rw [if_neg h2, q]
        by_cases h3 : a ≤ x ∧ x < a + n
        · rw [if_pos h3, if_pos (by omega)]
        · rw [if_neg h3]
          by_cases h4 : b ≤ x ∧ x < b + n
          · rw [if_pos h4, if_neg (by omega), if_pos (by omega)]
          · rw [if_neg h4, if_neg (by omega), if_neg (by omega)]
theorem swr_perm (d : Array α) (a b n x y : Nat) (hx : x ≤ a) (hab : a + n ≤ b) (hb : b + n ≤ y) (hy : y ≤ d.size) : PermIn x y d (swr d a b n) := by
  induction n with
  | zero => exact permIn_refl d x y
  | succ n ih => exact permIn_trans _ _ _ _ _ (ih (by omega) (by omega)) (swp_permIn _ x y (a + n) (b + n) (by omega) (by omega) (by omega) (by omega) (by rw [swr_size]; exact hy))
/-- The i elements ahead of m and the j from m on have changed places. -/
structure Rot (d d' : Array α) (m i j : Nat) : Prop where
  size : d'.size = d.size
  get : ∀ x, d'[x]! = if m - i ≤ x ∧ x < m - i + j then d[x + i]! else if m - i + j ≤ x ∧ x < m + j then d[x - j]! else d[x]!
  perm : PermIn (m - i) (m + j) d d'
theorem rot_end (d : Array α) (m i : Nat) (hi : i ≤ m) (hb : m + i ≤ d.size) : Rot d (swr d (m - i) m i) m i i := by
  refine ⟨swr_size _ _ _ _, fun x => ?_, swr_perm d (m - i) m i (m - i) (m + i) (Nat.le_refl _) (by omega) (Nat.le_refl _) hb⟩
  rw [swr_get d (m - i) m i (by omega) hb x, show m - (m - i) = i by omega, show m - i + i = m by omega]
theorem rot_gt {d d' : Array α} {m i j : Nat} (h : j < i) (hi : i ≤ m) (hb : m + j ≤ d.size) (hr : Rot (swr d (m - i) m j) d' m (i - j) j) : Rot d d' m i j := by
  refine ⟨by rw [hr.size, swr_size], fun x => ?_, permIn_trans _ _ _ _ _ (swr_perm d (m - i) m j (m - i) (m + j) (Nat.le_refl _) (by omega) (Nat.le_refl _) hb) (permIn_mono _ _ _ _ (m - i) (m + j) (by omega) (Nat.le_refl _) (by rw [swr_size]; exact hb) hr.perm)⟩
  have q := swr_get d (m - i) m j (by omega) hb
  rw [hr.get x]
  by_cases h1 : m - (i - j) ≤ x ∧ x < m - (i - j) + j
  · rw [if_pos h1, q]
    by_cases h2 : x < m - i + j
    · omega
    · rw [if_neg (show ¬ (m - i ≤ x ∧ x < m - i + j) by omega)]
      by_cases h3 : m ≤ x + (i - j)
      · rw [if_neg (by omega), if_pos (by omega), if_pos (by omega)]; congr 1; omega
      · omega
  · rw [if_neg h1]
    by_cases h2 : m - (i - j) + j ≤ x ∧ x < m + j
    · rw [if_pos h2, q, if_neg (show ¬ (m - i ≤ x ∧ x < m - i + j) by omega), if_pos (show m - i + j ≤ x ∧ x < m + j by omega)]
      rw [if_neg (by omega), if_neg (by omega)]
    · rw [if_neg h2, q]
      by_cases h3 : m - i ≤ x ∧ x < m - i + j
      · rw [if_pos h3, if_pos h3]; congr 1; omega
      · rw [if_neg h3, if_neg h3, if_neg (by omega), if_neg (by omega)]
theorem rot_lt {d d' : Array α} {m i j : Nat} (h : i < j) (hi : i ≤ m) (hb : m + j ≤ d.size) (hr : Rot (swr d (m - i) (m + j - i) i) d' m i (j - i)) : Rot d d' m i j := by
  refine ⟨by rw [hr.size, swr_size], fun x => ?_, permIn_trans _ _ _ _ _ (swr_perm d (m - i) (m + j - i) i (m - i) (m + j) (Nat.le_refl _) (by omega) (by omega) hb) (permIn_mono _ _ _ _ (m - i) (m + j) (by omega) (by omega) (by rw [swr_size]; exact hb) hr.perm)⟩
  have q := swr_get d (m - i) (m + j - i) i (by omega) (by omega)
  rw [hr.get x]
  by_cases h1 : m - i ≤ x ∧ x < m - i + (j - i)
  · rw [if_pos h1, q, if_neg (by omega), if_neg (by omega), if_pos (by omega)]
  · rw [if_neg h1]
    by_cases h2 : m - i + (j - i) ≤ x ∧ x < m + (j - i)
    · rw [if_pos h2, q, if_pos (by omega), if_pos (by omega)]; congr 1; omega
    · rw [if_neg h2, q]
      by_cases h3 : m + j - i ≤ x ∧ x < m + j
      · rw [if_neg (by omega), if_pos (by omega), if_neg (by omega), if_pos (by omega)]; congr 1; omega
      · rw [if_neg (by omega), if_neg (by omega), if_neg (by omega), if_neg (by omega)]
end Ss
end Go.Proofs.YtehgnbgbmicheaaGreatDoor
end S0

section S1
namespace Go.Proofs.YtehgnbgbmicheaaGreatDoor
open Go.Shelf
namespace Ss
structure Nms where
  tS : TypeId
  tI : TypeId
  tB : TypeId
  tE : TypeId
  tC : TypeId
  t0 : TypeId
  tU : TypeId
  fs : FuncId
  fr : FuncId
  fm : FuncId
  fi : FuncId
def swapB (ρ : Nms) : Func :=
  { name := "", origin := "slices.swapRangeCmpFunc", targs := #[ρ.tE],
    params := #[ρ.tS, ρ.tI, ρ.tI, ρ.tI, ρ.tC], resultTypes := #[], nfree := 0, ntmps := 38, results := #[],
    body :=
      some
        ((Code.region 0
              #[{ dst := some 10, op := Op.assign (Operand.const (Value.int IntKind.i64 0)), type := ρ.tI,
                  pos := "zsortanyfunc.go:330", after := #[], guard := none }]
              false).seq
          (Code.block 0
            (((Code.region 1
                        #[{ dst := some 11, op := Op.move (Operand.tmp 10), type := ρ.tI, pos := "zsortanyfunc.go:330",
                            after := #[], guard := none },
                          { dst := some 12, op := Op.move (Operand.tmp 3), type := ρ.tI, pos := "zsortanyfunc.go:330",
                            after := #[], guard := none },
                          { dst := some 13, op := Op.binOp BinOp.lss (ρ.tI) (Operand.tmp 11) (Operand.tmp 12) (ρ.tI),
                            type := ρ.tB, pos := "zsortanyfunc.go:330",
                            after := #[{ on := 0, ground := Ground.data }, { on := 1, ground := Ground.data }],
                            guard := none }]
                        false).seq
                    (Code.cond (Operand.tmp 13) Code.skip (Code.exit 0))).seq
                ((Code.block 1
                      (Code.region 3
                        #[{ dst := some 16, op := Op.move (Operand.tmp 0), type := ρ.tS, pos := "zsortanyfunc.go:331",
                            after := #[], guard := none },
                          { dst := some 17, op := Op.move (Operand.tmp 1), type := ρ.tI, pos := "zsortanyfunc.go:331",
                            after := #[], guard := none },
                          { dst := some 18, op := Op.move (Operand.tmp 10), type := ρ.tI, pos := "zsortanyfunc.go:331",
                            after := #[], guard := none },
                          { dst := some 19, op := Op.binOp BinOp.add (ρ.tI) (Operand.tmp 17) (Operand.tmp 18) (ρ.tI),
                            type := ρ.tI, pos := "zsortanyfunc.go:331",
                            after := #[{ on := 1, ground := Ground.data }, { on := 2, ground := Ground.data }],
                            guard := none },
                          { dst := some 20, op := Op.move (Operand.tmp 0), type := ρ.tS, pos := "zsortanyfunc.go:331",
                            after := #[{ on := 21, ground := Ground.gcOnly Departure.lateStores }], guard := none },
                          { dst := some 21, op := Op.move (Operand.tmp 2), type := ρ.tI, pos := "zsortanyfunc.go:331",
                            after := #[{ on := 21, ground := Ground.gcOnly Departure.lateStores }], guard := none },
                          { dst := some 22, op := Op.move (Operand.tmp 10), type := ρ.tI, pos := "zsortanyfunc.go:331",
                            after := #[{ on := 21, ground := Ground.gcOnly Departure.lateStores }], guard := none },
                          { dst := some 23, op := Op.binOp BinOp.add (ρ.tI) (Operand.tmp 21) (Operand.tmp 22) (ρ.tI),
                            type := ρ.tI, pos := "zsortanyfunc.go:331",
                            after :=
                              #[{ on := 5, ground := Ground.data }, { on := 6, ground := Ground.data },
                                { on := 21, ground := Ground.gcOnly Departure.lateStores }],
                            guard := none },
                          { dst := some 24, op := Op.move (Operand.tmp 0), type := ρ.tS, pos := "zsortanyfunc.go:331",
                            after := #[], guard := none },
                          { dst := some 25, op := Op.move (Operand.tmp 2), type := ρ.tI, pos := "zsortanyfunc.go:331",
                            after := #[], guard := none },
                          { dst := some 26, op := Op.move (Operand.tmp 10), type := ρ.tI, pos := "zsortanyfunc.go:331",
                            after := #[], guard := none },
                          { dst := some 27, op := Op.binOp BinOp.add (ρ.tI) (Operand.tmp 25) (Operand.tmp 26) (ρ.tI),
                            type := ρ.tI, pos := "zsortanyfunc.go:331",
                            after := #[{ on := 9, ground := Ground.data }, { on := 10, ground := Ground.data }],
                            guard := none },
                          { dst := some 28, op := Op.indexAddr (ρ.tS) (Operand.tmp 24) (Operand.tmp 27),
                            type := ρ.t0, pos := "zsortanyfunc.go:331",
                            after := #[{ on := 8, ground := Ground.data }, { on := 11, ground := Ground.data }],
                            guard := none },
                          { dst := some 29, op := Op.load (ρ.tE) (Operand.tmp 28), type := ρ.tE,
                            pos := "zsortanyfunc.go:331", after := #[{ on := 12, ground := Ground.data }],
                            guard := none },
                          { dst := some 30, op := Op.move (Operand.tmp 0), type := ρ.tS, pos := "zsortanyfunc.go:331",
                            after := #[], guard := none },
                          { dst := some 31, op := Op.move (Operand.tmp 1), type := ρ.tI, pos := "zsortanyfunc.go:331",
                            after := #[], guard := none },
                          { dst := some 32, op := Op.move (Operand.tmp 10), type := ρ.tI, pos := "zsortanyfunc.go:331",
                            after := #[], guard := none },
                          { dst := some 33, op := Op.binOp BinOp.add (ρ.tI) (Operand.tmp 31) (Operand.tmp 32) (ρ.tI),
                            type := ρ.tI, pos := "zsortanyfunc.go:331",
                            after := #[{ on := 15, ground := Ground.data }, { on := 16, ground := Ground.data }],
                            guard := none },
                          { dst := some 34, op := Op.indexAddr (ρ.tS) (Operand.tmp 30) (Operand.tmp 33),
                            type := ρ.t0, pos := "zsortanyfunc.go:331",
                            after := #[{ on := 14, ground := Ground.data }, { on := 17, ground := Ground.data }],
                            guard := none },
                          { dst := some 35, op := Op.load (ρ.tE) (Operand.tmp 34), type := ρ.tE,
                            pos := "zsortanyfunc.go:331", after := #[{ on := 18, ground := Ground.data }],
                            guard := none },
                          { dst := some 36, op := Op.indexAddr (ρ.tS) (Operand.tmp 16) (Operand.tmp 19),
                            type := ρ.t0, pos := "zsortanyfunc.go:331",
                            after :=
                              #[{ on := 0, ground := Ground.data }, { on := 3, ground := Ground.data },
                                { on := 0, ground := Ground.phase }, { on := 1, ground := Ground.phase },
                                { on := 2, ground := Ground.phase }, { on := 3, ground := Ground.phase },
                                { on := 4, ground := Ground.textOnly Departure.lateStores },
                                { on := 5, ground := Ground.textOnly Departure.lateStores },
                                { on := 6, ground := Ground.textOnly Departure.lateStores },
                                { on := 7, ground := Ground.textOnly Departure.lateStores },
                                { on := 8, ground := Ground.phase }, { on := 9, ground := Ground.phase },
                                { on := 10, ground := Ground.phase }, { on := 11, ground := Ground.phase },
                                { on := 12, ground := Ground.phase }, { on := 13, ground := Ground.phase },
                                { on := 14, ground := Ground.textOnly Departure.lateStores },
                                { on := 15, ground := Ground.textOnly Departure.lateStores },
                                { on := 16, ground := Ground.textOnly Departure.lateStores },
                                { on := 17, ground := Ground.textOnly Departure.lateStores },
                                { on := 18, ground := Ground.textOnly Departure.lateStoresUnsure },
                                { on := 19, ground := Ground.phase }],
                            guard := none },
                          { dst := none, op := Op.store (ρ.tE) (Operand.tmp 36) (Operand.tmp 29), type := ρ.t0,
                            pos := "zsortanyfunc.go:331",
                            after :=
                              #[{ on := 20, ground := Ground.data }, { on := 13, ground := Ground.data },
                                { on := 0, ground := Ground.phase }, { on := 1, ground := Ground.phase },
                                { on := 2, ground := Ground.phase }, { on := 3, ground := Ground.phase },
                                { on := 4, ground := Ground.textOnly Departure.lateStores },
                                { on := 5, ground := Ground.textOnly Departure.lateStores },
                                { on := 6, ground := Ground.textOnly Departure.lateStores },
                                { on := 7, ground := Ground.textOnly Departure.lateStores },
                                { on := 8, ground := Ground.phase }, { on := 9, ground := Ground.phase },
                                { on := 10, ground := Ground.phase }, { on := 11, ground := Ground.phase },
                                { on := 12, ground := Ground.phase }, { on := 13, ground := Ground.phase },
                                { on := 14, ground := Ground.textOnly Departure.lateStores },
                                { on := 15, ground := Ground.textOnly Departure.lateStores },
                                { on := 16, ground := Ground.textOnly Departure.lateStores },
                                { on := 17, ground := Ground.textOnly Departure.lateStores },
                                { on := 18, ground := Ground.textOnly Departure.lateStoresUnsure },
                                { on := 19, ground := Ground.phase }],
                            guard := none },
                          { dst := some 37, op := Op.indexAddr (ρ.tS) (Operand.tmp 20) (Operand.tmp 23),
                            type := ρ.t0, pos := "zsortanyfunc.go:331",
                            after :=
                              #[{ on := 4, ground := Ground.data }, { on := 7, ground := Ground.data },
                                { on := 0, ground := Ground.phase }, { on := 1, ground := Ground.phase },
                                { on := 2, ground := Ground.phase }, { on := 3, ground := Ground.phase },
                                { on := 4, ground := Ground.phase }, { on := 5, ground := Ground.phase },
                                { on := 6, ground := Ground.phase }, { on := 7, ground := Ground.phase },
                                { on := 8, ground := Ground.phase }, { on := 9, ground := Ground.phase },
                                { on := 10, ground := Ground.phase }, { on := 11, ground := Ground.phase },
                                { on := 12, ground := Ground.phase }, { on := 13, ground := Ground.phase },
                                { on := 14, ground := Ground.phase }, { on := 15, ground := Ground.phase },
                                { on := 16, ground := Ground.phase }, { on := 17, ground := Ground.phase },
                                { on := 18, ground := Ground.phase }, { on := 19, ground := Ground.phase },
                                { on := 20, ground := Ground.phase }, { on := 21, ground := Ground.phase }],
                            guard := none },
                          { dst := none, op := Op.store (ρ.tE) (Operand.tmp 37) (Operand.tmp 35), type := ρ.t0,
                            pos := "zsortanyfunc.go:331",
                            after :=
                              #[{ on := 22, ground := Ground.data }, { on := 19, ground := Ground.data },
                                { on := 21, ground := Ground.chain }, { on := 0, ground := Ground.phase },
                                { on := 1, ground := Ground.phase }, { on := 2, ground := Ground.phase },
                                { on := 3, ground := Ground.phase }, { on := 4, ground := Ground.phase },
                                { on := 5, ground := Ground.phase }, { on := 6, ground := Ground.phase },
                                { on := 7, ground := Ground.phase }, { on := 8, ground := Ground.phase },
                                { on := 9, ground := Ground.phase }, { on := 10, ground := Ground.phase },
                                { on := 11, ground := Ground.phase }, { on := 12, ground := Ground.phase },
                                { on := 13, ground := Ground.phase }, { on := 14, ground := Ground.phase },
                                { on := 15, ground := Ground.phase }, { on := 16, ground := Ground.phase },
                                { on := 17, ground := Ground.phase }, { on := 18, ground := Ground.phase },
                                { on := 19, ground := Ground.phase }, { on := 20, ground := Ground.phase },
                                { on := 21, ground := Ground.phase }],
                            guard := none }]
                        true)).seq
                  (Code.region 2
                    #[{ dst := some 14, op := Op.move (Operand.tmp 10), type := ρ.tI, pos := "zsortanyfunc.go:330",
                        after := #[], guard := none },
                      { dst := some 15,
                        op :=
                          Op.binOp BinOp.add (ρ.tI) (Operand.tmp 14) (Operand.const (Value.int IntKind.i64 1)) (ρ.tI),
                        type := ρ.tI, pos := "zsortanyfunc.go:330", after := #[{ on := 0, ground := Ground.data }],
                        guard := none },
                      { dst := some 10, op := Op.assign (Operand.tmp 15), type := ρ.tI, pos := "zsortanyfunc.go:330",
                        after :=
                          #[{ on := 1, ground := Ground.data }, { on := 0, ground := Ground.phase },
                            { on := 1, ground := Ground.phase }],
                        guard := none }]
                    false))).loop)),
    norace := false, file := "slices/zsortanyfunc.go", endLine := 333,
    met := [Departure.mixedOrders, Departure.lateStoresUnsure, Departure.lateStores],
    tmpNames :=
      #["data", "a", "b", "n", "cmp", "data", "a", "b", "n", "cmp", "i", "", "", "", "", "", "", "", "", "", "", "", "",
        "", "", "", "", "", "", "", "", "", "", "", "", "", "", ""] }
def rotB (ρ : Nms) : Func :=
  { name := "", origin := "slices.rotateCmpFunc", targs := #[ρ.tE],
    params := #[ρ.tS, ρ.tI, ρ.tI, ρ.tI, ρ.tC], resultTypes := #[], nfree := 0, ntmps := 58, results := #[],
    body :=
      some
        ((Code.region 0
              #[{ dst := some 12, op := Op.move (Operand.tmp 2), type := ρ.tI, pos := "zsortanyfunc.go:465",
                  after := #[], guard := none },
                { dst := some 13, op := Op.move (Operand.tmp 1), type := ρ.tI, pos := "zsortanyfunc.go:465",
                  after := #[], guard := none },
                { dst := some 14, op := Op.binOp BinOp.sub (ρ.tI) (Operand.tmp 12) (Operand.tmp 13) (ρ.tI),
                  type := ρ.tI, pos := "zsortanyfunc.go:465",
                  after := #[{ on := 0, ground := Ground.data }, { on := 1, ground := Ground.data }], guard := none },
                { dst := some 10, op := Op.assign (Operand.tmp 14), type := ρ.tI, pos := "zsortanyfunc.go:465",
                  after :=
                    #[{ on := 2, ground := Ground.data }, { on := 0, ground := Ground.phase },
                      { on := 1, ground := Ground.phase }, { on := 2, ground := Ground.phase }],
                  guard := none }]
              false).seq
          ((Code.region 1
                #[{ dst := some 15, op := Op.move (Operand.tmp 3), type := ρ.tI, pos := "zsortanyfunc.go:466",
                    after := #[], guard := none },
                  { dst := some 16, op := Op.move (Operand.tmp 2), type := ρ.tI, pos := "zsortanyfunc.go:466",
                    after := #[], guard := none },
                  { dst := some 17, op := Op.binOp BinOp.sub (ρ.tI) (Operand.tmp 15) (Operand.tmp 16) (ρ.tI),
                    type := ρ.tI, pos := "zsortanyfunc.go:466",
                    after := #[{ on := 0, ground := Ground.data }, { on := 1, ground := Ground.data }], guard := none },
                  { dst := some 11, op := Op.assign (Operand.tmp 17), type := ρ.tI, pos := "zsortanyfunc.go:466",
                    after :=
                      #[{ on := 2, ground := Ground.data }, { on := 0, ground := Ground.phase },
                        { on := 1, ground := Ground.phase }, { on := 2, ground := Ground.phase }],
                    guard := none }]
                false).seq
            ((Code.block 0
                  (((Code.region 2
                              #[{ dst := some 18, op := Op.move (Operand.tmp 10), type := ρ.tI,
                                  pos := "zsortanyfunc.go:468", after := #[], guard := none },
                                { dst := some 19, op := Op.move (Operand.tmp 11), type := ρ.tI,
                                  pos := "zsortanyfunc.go:468", after := #[], guard := none },
                                { dst := some 20,
                                  op := Op.binOp BinOp.neq (ρ.tI) (Operand.tmp 18) (Operand.tmp 19) (ρ.tI),
                                  type := ρ.tB, pos := "zsortanyfunc.go:468",
                                  after := #[{ on := 0, ground := Ground.data }, { on := 1, ground := Ground.data }],
                                  guard := none }]
                              false).seq
                          (Code.cond (Operand.tmp 20) Code.skip (Code.exit 0))).seq
                      (Code.block 1
                        ((Code.region 3
                              #[{ dst := some 21, op := Op.move (Operand.tmp 10), type := ρ.tI,
                                  pos := "zsortanyfunc.go:469", after := #[], guard := none },
                                { dst := some 22, op := Op.move (Operand.tmp 11), type := ρ.tI,
                                  pos := "zsortanyfunc.go:469", after := #[], guard := none },
                                { dst := some 23,
                                  op := Op.binOp BinOp.gtr (ρ.tI) (Operand.tmp 21) (Operand.tmp 22) (ρ.tI),
                                  type := ρ.tB, pos := "zsortanyfunc.go:469",
                                  after := #[{ on := 0, ground := Ground.data }, { on := 1, ground := Ground.data }],
                                  guard := none }]
                              false).seq
                          (Code.cond (Operand.tmp 23)
                            ((Code.region 4
                                  #[{ dst := some 24, op := Op.move (Operand.tmp 0), type := ρ.tS,
                                      pos := "zsortanyfunc.go:470", after := #[], guard := none },
                                    { dst := some 25, op := Op.move (Operand.tmp 2), type := ρ.tI,
                                      pos := "zsortanyfunc.go:470", after := #[], guard := none },
                                    { dst := some 26, op := Op.move (Operand.tmp 10), type := ρ.tI,
                                      pos := "zsortanyfunc.go:470", after := #[], guard := none },
                                    { dst := some 27,
                                      op := Op.binOp BinOp.sub (ρ.tI) (Operand.tmp 25) (Operand.tmp 26) (ρ.tI),
                                      type := ρ.tI, pos := "zsortanyfunc.go:470",
                                      after :=
                                        #[{ on := 1, ground := Ground.data }, { on := 2, ground := Ground.data }],
                                      guard := none },
                                    { dst := some 28, op := Op.move (Operand.tmp 2), type := ρ.tI,
                                      pos := "zsortanyfunc.go:470", after := #[], guard := none },
                                    { dst := some 29, op := Op.move (Operand.tmp 11), type := ρ.tI,
                                      pos := "zsortanyfunc.go:470", after := #[], guard := none },
                                    { dst := some 30, op := Op.move (Operand.tmp 4), type := ρ.tC,
                                      pos := "zsortanyfunc.go:470", after := #[], guard := none },
                                    { dst := some 31,
                                      op :=
                                        Op.call
                                          { callee := Callee.value (Operand.func (ρ.fs)),
                                            args :=
                                              #[Operand.tmp 24, Operand.tmp 27, Operand.tmp 28, Operand.tmp 29,
                                                Operand.tmp 30],
                                            argTypes := #[ρ.tS, ρ.tI, ρ.tI, ρ.tI, ρ.tC] },
                                      type := ρ.t0, pos := "zsortanyfunc.go:470",
                                      after :=
                                        #[{ on := 0, ground := Ground.data }, { on := 3, ground := Ground.data },
                                          { on := 4, ground := Ground.data }, { on := 5, ground := Ground.data },
                                          { on := 6, ground := Ground.data }],
                                      guard := none }]
                                  false).seq
                              (Code.region 5
                                #[{ dst := some 32, op := Op.move (Operand.tmp 10), type := ρ.tI,
                                    pos := "zsortanyfunc.go:471", after := #[], guard := none },
                                  { dst := some 33, op := Op.move (Operand.tmp 11), type := ρ.tI,
                                    pos := "zsortanyfunc.go:471", after := #[], guard := none },
                                  { dst := some 34,
                                    op := Op.binOp BinOp.sub (ρ.tI) (Operand.tmp 32) (Operand.tmp 33) (ρ.tI),
                                    type := ρ.tI, pos := "zsortanyfunc.go:471",
                                    after := #[{ on := 0, ground := Ground.data }, { on := 1, ground := Ground.data }],
                                    guard := none },
                                  { dst := some 10, op := Op.assign (Operand.tmp 34), type := ρ.tI,
                                    pos := "zsortanyfunc.go:471",
                                    after :=
                                      #[{ on := 2, ground := Ground.data }, { on := 0, ground := Ground.phase },
                                        { on := 1, ground := Ground.phase }, { on := 2, ground := Ground.phase }],
                                    guard := none }]
                                false))
                            ((Code.region 6
                                  #[{ dst := some 35, op := Op.move (Operand.tmp 0), type := ρ.tS,
                                      pos := "zsortanyfunc.go:473", after := #[], guard := none },
                                    { dst := some 36, op := Op.move (Operand.tmp 2), type := ρ.tI,
                                      pos := "zsortanyfunc.go:473", after := #[], guard := none },
                                    { dst := some 37, op := Op.move (Operand.tmp 10), type := ρ.tI,
                                      pos := "zsortanyfunc.go:473", after := #[], guard := none },
                                    { dst := some 38,
                                      op := Op.binOp BinOp.sub (ρ.tI) (Operand.tmp 36) (Operand.tmp 37) (ρ.tI),
                                      type := ρ.tI, pos := "zsortanyfunc.go:473",
                                      after :=
                                        #[{ on := 1, ground := Ground.data }, { on := 2, ground := Ground.data }],
                                      guard := none },
                                    { dst := some 39, op := Op.move (Operand.tmp 2), type := ρ.tI,
                                      pos := "zsortanyfunc.go:473", after := #[], guard := none },
                                    { dst := some 40, op := Op.move (Operand.tmp 11), type := ρ.tI,
                                      pos := "zsortanyfunc.go:473", after := #[], guard := none },
                                    { dst := some 41,
                                      op := Op.binOp BinOp.add (ρ.tI) (Operand.tmp 39) (Operand.tmp 40) (ρ.tI),
                                      type := ρ.tI, pos := "zsortanyfunc.go:473",
                                      after :=
                                        #[{ on := 4, ground := Ground.data }, { on := 5, ground := Ground.data }],
                                      guard := none },
                                    { dst := some 42, op := Op.move (Operand.tmp 10), type := ρ.tI,
                                      pos := "zsortanyfunc.go:473", after := #[], guard := none },
                                    { dst := some 43,
                                      op := Op.binOp BinOp.sub (ρ.tI) (Operand.tmp 41) (Operand.tmp 42) (ρ.tI),
                                      type := ρ.tI, pos := "zsortanyfunc.go:473",
                                      after :=
                                        #[{ on := 6, ground := Ground.data }, { on := 7, ground := Ground.data }],
                                      guard := none },
                                    { dst := some 44, op := Op.move (Operand.tmp 10), type := ρ.tI,
                                      pos := "zsortanyfunc.go:473", after := #[], guard := none },
                                    { dst := some 45, op := Op.move (Operand.tmp 4), type := ρ.tC,
                                      pos := "zsortanyfunc.go:473", after := #[], guard := none },
                                    { dst := some 46,
                                      op :=
                                        Op.call
                                          { callee := Callee.value (Operand.func (ρ.fs)),
                                            args :=
                                              #[Operand.tmp 35, Operand.tmp 38, Operand.tmp 43, Operand.tmp 44,
                                                Operand.tmp 45],
                                            argTypes := #[ρ.tS, ρ.tI, ρ.tI, ρ.tI, ρ.tC] },
                                      type := ρ.t0, pos := "zsortanyfunc.go:473",
                                      after :=
                                        #[{ on := 0, ground := Ground.data }, { on := 3, ground := Ground.data },
                                          { on := 8, ground := Ground.data }, { on := 9, ground := Ground.data },
                                          { on := 10, ground := Ground.data }],
                                      guard := none }]
                                  false).seq
                              (Code.region 7
                                #[{ dst := some 47, op := Op.move (Operand.tmp 11), type := ρ.tI,
                                    pos := "zsortanyfunc.go:474", after := #[], guard := none },
                                  { dst := some 48, op := Op.move (Operand.tmp 10), type := ρ.tI,
                                    pos := "zsortanyfunc.go:474", after := #[], guard := none },
                                  { dst := some 49,
                                    op := Op.binOp BinOp.sub (ρ.tI) (Operand.tmp 47) (Operand.tmp 48) (ρ.tI),
                                    type := ρ.tI, pos := "zsortanyfunc.go:474",
                                    after := #[{ on := 0, ground := Ground.data }, { on := 1, ground := Ground.data }],
                                    guard := none },
                                  { dst := some 11, op := Op.assign (Operand.tmp 49), type := ρ.tI,
                                    pos := "zsortanyfunc.go:474",
                                    after :=
                                      #[{ on := 2, ground := Ground.data }, { on := 0, ground := Ground.phase },
                                        { on := 1, ground := Ground.phase }, { on := 2, ground := Ground.phase }],
                                    guard := none }]
                                false)))))).loop).seq
              (Code.region 8
                #[{ dst := some 50, op := Op.move (Operand.tmp 0), type := ρ.tS, pos := "zsortanyfunc.go:478",
                    after := #[], guard := none },
                  { dst := some 51, op := Op.move (Operand.tmp 2), type := ρ.tI, pos := "zsortanyfunc.go:478",
                    after := #[], guard := none },
                  { dst := some 52, op := Op.move (Operand.tmp 10), type := ρ.tI, pos := "zsortanyfunc.go:478",
                    after := #[], guard := none },
                  { dst := some 53, op := Op.binOp BinOp.sub (ρ.tI) (Operand.tmp 51) (Operand.tmp 52) (ρ.tI),
                    type := ρ.tI, pos := "zsortanyfunc.go:478",
                    after := #[{ on := 1, ground := Ground.data }, { on := 2, ground := Ground.data }], guard := none },
                  { dst := some 54, op := Op.move (Operand.tmp 2), type := ρ.tI, pos := "zsortanyfunc.go:478",
                    after := #[], guard := none },
                  { dst := some 55, op := Op.move (Operand.tmp 10), type := ρ.tI, pos := "zsortanyfunc.go:478",
                    after := #[], guard := none },
                  { dst := some 56, op := Op.move (Operand.tmp 4), type := ρ.tC, pos := "zsortanyfunc.go:478",
                    after := #[], guard := none },
                  { dst := some 57,
                    op :=
                      Op.call
                        { callee := Callee.value (Operand.func (ρ.fs)),
                          args := #[Operand.tmp 50, Operand.tmp 53, Operand.tmp 54, Operand.tmp 55, Operand.tmp 56],
                          argTypes := #[ρ.tS, ρ.tI, ρ.tI, ρ.tI, ρ.tC] },
                    type := ρ.t0, pos := "zsortanyfunc.go:478",
                    after :=
                      #[{ on := 0, ground := Ground.data }, { on := 3, ground := Ground.data },
                        { on := 4, ground := Ground.data }, { on := 5, ground := Ground.data },
                        { on := 6, ground := Ground.data }],
                    guard := none }]
                false)))),
    norace := false, file := "slices/zsortanyfunc.go", endLine := 479,
    tmpNames :=
      #["data", "a", "m", "b", "cmp", "data", "a", "m", "b", "cmp", "i", "j", "", "", "", "", "", "", "", "", "", "",
        "", "", "", "", "", "", "", "", "", "", "", "", "", "", "", "", "", "", "", "", "", "", "", "", "", "", "", "",
        "", "", "", "", "", "", "", ""] }
def merB (ρ : Nms) : Func :=
  { name := "", origin := "slices.symMergeCmpFunc", targs := #[ρ.tE],
    params := #[ρ.tS, ρ.tI, ρ.tI, ρ.tI, ρ.tC], resultTypes := #[], nfree := 0, ntmps := 220, results := #[],
    body :=
      some
        (((Code.region 0
                  #[{ dst := some 25, op := Op.move (Operand.tmp 2), type := ρ.tI, pos := "zsortanyfunc.go:382",
                      after := #[], guard := none },
                    { dst := some 26, op := Op.move (Operand.tmp 1), type := ρ.tI, pos := "zsortanyfunc.go:382",
                      after := #[], guard := none },
                    { dst := some 27, op := Op.binOp BinOp.sub (ρ.tI) (Operand.tmp 25) (Operand.tmp 26) (ρ.tI),
                      type := ρ.tI, pos := "zsortanyfunc.go:382",
                      after := #[{ on := 0, ground := Ground.data }, { on := 1, ground := Ground.data }],
                      guard := none },
                    { dst := some 28,
                      op :=
                        Op.binOp BinOp.eql (ρ.tI) (Operand.tmp 27) (Operand.const (Value.int IntKind.i64 1)) (ρ.tI),
                      type := ρ.tB, pos := "zsortanyfunc.go:382", after := #[{ on := 2, ground := Ground.data }],
                      guard := none }]
                  false).seq
              (Code.cond (Operand.tmp 28)
                ((Code.region 1
                      #[{ dst := some 29, op := Op.move (Operand.tmp 2), type := ρ.tI, pos := "zsortanyfunc.go:386",
                          after := #[], guard := none },
                        { dst := some 10, op := Op.assign (Operand.tmp 29), type := ρ.tI, pos := "zsortanyfunc.go:386",
                          after := #[{ on := 0, ground := Ground.data }, { on := 0, ground := Ground.phase }],
                          guard := none }]
                      false).seq
                  ((Code.region 2
                        #[{ dst := some 30, op := Op.move (Operand.tmp 3), type := ρ.tI, pos := "zsortanyfunc.go:387",
                            after := #[], guard := none },
                          { dst := some 11, op := Op.assign (Operand.tmp 30), type := ρ.tI,
                            pos := "zsortanyfunc.go:387",
                            after := #[{ on := 0, ground := Ground.data }, { on := 0, ground := Ground.phase }],
                            guard := none }]
                        false).seq
                    ((Code.block 0
                          (((Code.region 3
                                      #[{ dst := some 31, op := Op.move (Operand.tmp 10), type := ρ.tI,
                                          pos := "zsortanyfunc.go:388", after := #[], guard := none },
                                        { dst := some 32, op := Op.move (Operand.tmp 11), type := ρ.tI,
                                          pos := "zsortanyfunc.go:388", after := #[], guard := none },
                                        { dst := some 33,
                                          op := Op.binOp BinOp.lss (ρ.tI) (Operand.tmp 31) (Operand.tmp 32) (ρ.tI),
                                          type := ρ.tB, pos := "zsortanyfunc.go:388",
                                          after :=
                                            #[{ on := 0, ground := Ground.data }, { on := 1, ground := Ground.data }],
                                          guard := none }]
                                      false).seq
                                  (Code.cond (Operand.tmp 33) Code.skip (Code.exit 0))).seq
                              (Code.block 1
                                ((Code.region 4
                                      #[{ dst := some 34, op := Op.move (Operand.tmp 10), type := ρ.tI,
                                          pos := "zsortanyfunc.go:389", after := #[], guard := none },
                                        { dst := some 35, op := Op.move (Operand.tmp 11), type := ρ.tI,
                                          pos := "zsortanyfunc.go:389", after := #[], guard := none },
                                        { dst := some 36,
                                          op := Op.binOp BinOp.add (ρ.tI) (Operand.tmp 34) (Operand.tmp 35) (ρ.tI),
                                          type := ρ.tI, pos := "zsortanyfunc.go:389",
                                          after :=
                                            #[{ on := 0, ground := Ground.data }, { on := 1, ground := Ground.data }],
                                          guard := none },
                                        { dst := some 37, op := Op.convert (ρ.tI) (ρ.tU) (Operand.tmp 36),
                                          type := ρ.tU, pos := "zsortanyfunc.go:389",
                                          after := #[{ on := 2, ground := Ground.data }], guard := none },
                                        { dst := some 38,
                                          op :=
                                            Op.binOp BinOp.shr (ρ.tU) (Operand.tmp 37)
                                              (Operand.const (Value.int IntKind.u64 1)) (ρ.tU),
                                          type := ρ.tU, pos := "zsortanyfunc.go:389",
                                          after := #[{ on := 3, ground := Ground.data }], guard := none },
                                        { dst := some 39, op := Op.convert (ρ.tU) (ρ.tI) (Operand.tmp 38),
                                          type := ρ.tI, pos := "zsortanyfunc.go:389",
                                          after := #[{ on := 4, ground := Ground.data }], guard := none },
                                        { dst := some 12, op := Op.assign (Operand.tmp 39), type := ρ.tI,
                                          pos := "zsortanyfunc.go:389",
                                          after :=
                                            #[{ on := 5, ground := Ground.data }, { on := 0, ground := Ground.phase },
                                              { on := 1, ground := Ground.phase }, { on := 2, ground := Ground.phase },
                                              { on := 3, ground := Ground.phase }, { on := 4, ground := Ground.phase },
                                              { on := 5, ground := Ground.phase }],
                                          guard := none }]
                                      false).seq
                                  ((Code.region 5
                                        #[{ dst := some 40, op := Op.move (Operand.tmp 4), type := ρ.tC,
                                            pos := "zsortanyfunc.go:390", after := #[], guard := none },
                                          { dst := some 41, op := Op.move (Operand.tmp 0), type := ρ.tS,
                                            pos := "zsortanyfunc.go:390", after := #[], guard := none },
                                          { dst := some 42, op := Op.move (Operand.tmp 12), type := ρ.tI,
                                            pos := "zsortanyfunc.go:390", after := #[], guard := none },
                                          { dst := some 43,
                                            op := Op.indexAddr (ρ.tS) (Operand.tmp 41) (Operand.tmp 42),
                                            type := ρ.t0, pos := "zsortanyfunc.go:390",
                                            after :=
                                              #[{ on := 1, ground := Ground.data }, { on := 2, ground := Ground.data }],
                                            guard := none },
                                          { dst := some 44, op := Op.load (ρ.tE) (Operand.tmp 43), type := ρ.tE,
                                            pos := "zsortanyfunc.go:390",
                                            after := #[{ on := 3, ground := Ground.data }], guard := none },
                                          { dst := some 45, op := Op.move (Operand.tmp 0), type := ρ.tS,
                                            pos := "zsortanyfunc.go:390", after := #[], guard := none },
                                          { dst := some 46, op := Op.move (Operand.tmp 1), type := ρ.tI,
                                            pos := "zsortanyfunc.go:390", after := #[], guard := none },
                                          { dst := some 47,
                                            op := Op.indexAddr (ρ.tS) (Operand.tmp 45) (Operand.tmp 46),
                                            type := ρ.t0, pos := "zsortanyfunc.go:390",
                                            after :=
                                              #[{ on := 5, ground := Ground.data }, { on := 6, ground := Ground.data }],
                                            guard := none },
                                          { dst := some 48, op := Op.load (ρ.tE) (Operand.tmp 47), type := ρ.tE,
                                            pos := "zsortanyfunc.go:390",
                                            after := #[{ on := 7, ground := Ground.data }], guard := none },
                                          { dst := some 49,
                                            op :=
                                              Op.call
                                                { callee := Callee.value (Operand.tmp 40),
                                                  args := #[Operand.tmp 44, Operand.tmp 48],
                                                  argTypes := #[ρ.tE, ρ.tE] },
                                            type := ρ.tI, pos := "zsortanyfunc.go:390",
                                            after :=
                                              #[{ on := 0, ground := Ground.data }, { on := 4, ground := Ground.data },
                                                { on := 8, ground := Ground.data }],
                                            guard := none },
                                          { dst := some 50,
                                            op :=
                                              Op.binOp BinOp.lss (ρ.tI) (Operand.tmp 49)
                                                (Operand.const (Value.int IntKind.i64 0)) (ρ.tI),
                                            type := ρ.tB, pos := "zsortanyfunc.go:390",
                                            after := #[{ on := 9, ground := Ground.data }], guard := none }]
                                        true).seq
                                    (Code.cond (Operand.tmp 50)
                                      (Code.region 6
                                        #[{ dst := some 51, op := Op.move (Operand.tmp 12), type := ρ.tI,
                                            pos := "zsortanyfunc.go:391", after := #[], guard := none },
                                          { dst := some 52,
                                            op :=
                                              Op.binOp BinOp.add (ρ.tI) (Operand.tmp 51)
                                                (Operand.const (Value.int IntKind.i64 1)) (ρ.tI),
                                            type := ρ.tI, pos := "zsortanyfunc.go:391",
                                            after := #[{ on := 0, ground := Ground.data }], guard := none },
                                          { dst := some 10, op := Op.assign (Operand.tmp 52), type := ρ.tI,
                                            pos := "zsortanyfunc.go:391",
                                            after :=
                                              #[{ on := 1, ground := Ground.data }, { on := 0, ground := Ground.phase },
                                                { on := 1, ground := Ground.phase }],
                                            guard := none }]
                                        false)
                                      (Code.region 7
                                        #[{ dst := some 53, op := Op.move (Operand.tmp 12), type := ρ.tI,
                                            pos := "zsortanyfunc.go:393", after := #[], guard := none },
                                          { dst := some 11, op := Op.assign (Operand.tmp 53), type := ρ.tI,
                                            pos := "zsortanyfunc.go:393",
                                            after :=
                                              #[{ on := 0, ground := Ground.data },
                                                { on := 0, ground := Ground.phase }],
                                            guard := none }]
                                        false)))))).loop).seq
                      (((Code.region 8
                                #[{ dst := some 54, op := Op.move (Operand.tmp 1), type := ρ.tI,
                                    pos := "zsortanyfunc.go:397", after := #[], guard := none },
                                  { dst := some 13, op := Op.assign (Operand.tmp 54), type := ρ.tI,
                                    pos := "zsortanyfunc.go:397",
                                    after := #[{ on := 0, ground := Ground.data }, { on := 0, ground := Ground.phase }],
                                    guard := none }]
                                false).seq
                            (Code.block 2
                              (((Code.region 9
                                          #[{ dst := some 55, op := Op.move (Operand.tmp 13), type := ρ.tI,
                                              pos := "zsortanyfunc.go:397", after := #[], guard := none },
                                            { dst := some 56, op := Op.move (Operand.tmp 10), type := ρ.tI,
                                              pos := "zsortanyfunc.go:397", after := #[], guard := none },
                                            { dst := some 57,
                                              op :=
                                                Op.binOp BinOp.sub (ρ.tI) (Operand.tmp 56)
                                                  (Operand.const (Value.int IntKind.i64 1)) (ρ.tI),
                                              type := ρ.tI, pos := "zsortanyfunc.go:397",
                                              after := #[{ on := 1, ground := Ground.data }], guard := none },
                                            { dst := some 58,
                                              op :=
                                                Op.binOp BinOp.lss (ρ.tI) (Operand.tmp 55) (Operand.tmp 57) (ρ.tI),
                                              type := ρ.tB, pos := "zsortanyfunc.go:397",
                                              after :=
                                                #[{ on := 0, ground := Ground.data },
                                                  { on := 2, ground := Ground.data }],
                                              guard := none }]
                                          false).seq
                                      (Code.cond (Operand.tmp 58) Code.skip (Code.exit 2))).seq
                                  ((Code.block 3
                                        (Code.region 11
                                          #[{ dst := some 61, op := Op.move (Operand.tmp 0), type := ρ.tS,
                                              pos := "zsortanyfunc.go:398", after := #[], guard := none },
                                            { dst := some 62, op := Op.move (Operand.tmp 13), type := ρ.tI,
                                              pos := "zsortanyfunc.go:398", after := #[], guard := none },
                                            { dst := some 63, op := Op.move (Operand.tmp 0), type := ρ.tS,
                                              pos := "zsortanyfunc.go:398",
                                              after := #[{ on := 15, ground := Ground.gcOnly Departure.lateStores }],
                                              guard := none },
                                            { dst := some 64, op := Op.move (Operand.tmp 13), type := ρ.tI,
                                              pos := "zsortanyfunc.go:398",
                                              after := #[{ on := 15, ground := Ground.gcOnly Departure.lateStores }],
                                              guard := none },
                                            { dst := some 65,
                                              op :=
                                                Op.binOp BinOp.add (ρ.tI) (Operand.tmp 64)
                                                  (Operand.const (Value.int IntKind.i64 1)) (ρ.tI),
                                              type := ρ.tI, pos := "zsortanyfunc.go:398",
                                              after :=
                                                #[{ on := 3, ground := Ground.data },
                                                  { on := 15, ground := Ground.gcOnly Departure.lateStores }],
                                              guard := none },
                                            { dst := some 66, op := Op.move (Operand.tmp 0), type := ρ.tS,
                                              pos := "zsortanyfunc.go:398", after := #[], guard := none },
                                            { dst := some 67, op := Op.move (Operand.tmp 13), type := ρ.tI,
                                              pos := "zsortanyfunc.go:398", after := #[], guard := none },
                                            { dst := some 68,
                                              op :=
                                                Op.binOp BinOp.add (ρ.tI) (Operand.tmp 67)
                                                  (Operand.const (Value.int IntKind.i64 1)) (ρ.tI),
                                              type := ρ.tI, pos := "zsortanyfunc.go:398",
                                              after := #[{ on := 6, ground := Ground.data }], guard := none },
                                            { dst := some 69,
                                              op := Op.indexAddr (ρ.tS) (Operand.tmp 66) (Operand.tmp 68),
                                              type := ρ.t0, pos := "zsortanyfunc.go:398",
                                              after :=
                                                #[{ on := 5, ground := Ground.data },
                                                  { on := 7, ground := Ground.data }],
                                              guard := none },
                                            { dst := some 70, op := Op.load (ρ.tE) (Operand.tmp 69), type := ρ.tE,
                                              pos := "zsortanyfunc.go:398",
                                              after := #[{ on := 8, ground := Ground.data }], guard := none },
                                            { dst := some 71, op := Op.move (Operand.tmp 0), type := ρ.tS,
                                              pos := "zsortanyfunc.go:398", after := #[], guard := none },
                                            { dst := some 72, op := Op.move (Operand.tmp 13), type := ρ.tI,
                                              pos := "zsortanyfunc.go:398", after := #[], guard := none },
                                            { dst := some 73,
                                              op := Op.indexAddr (ρ.tS) (Operand.tmp 71) (Operand.tmp 72),
                                              type := ρ.t0, pos := "zsortanyfunc.go:398",
                                              after :=
                                                #[{ on := 10, ground := Ground.data },
                                                  { on := 11, ground := Ground.data }],
                                              guard := none },
                                            { dst := some 74, op := Op.load (ρ.tE) (Operand.tmp 73), type := ρ.tE,
                                              pos := "zsortanyfunc.go:398",
                                              after := #[{ on := 12, ground := Ground.data }], guard := none },
                                            { dst := some 75,
                                              op := Op.indexAddr (ρ.tS) (Operand.tmp 61) (Operand.tmp 62),
                                              type := ρ.t0, pos := "zsortanyfunc.go:398",
                                              after :=
                                                #[{ on := 0, ground := Ground.data },
                                                  { on := 1, ground := Ground.data },
                                                  { on := 0, ground := Ground.phase },
                                                  { on := 1, ground := Ground.phase },
                                                  { on := 2, ground := Ground.textOnly Departure.lateStores },
                                                  { on := 3, ground := Ground.textOnly Departure.lateStores },
                                                  { on := 4, ground := Ground.textOnly Departure.lateStores },
                                                  { on := 5, ground := Ground.phase },
                                                  { on := 6, ground := Ground.phase },
                                                  { on := 7, ground := Ground.phase },
                                                  { on := 8, ground := Ground.phase },
                                                  { on := 9, ground := Ground.phase },
                                                  { on := 10, ground := Ground.textOnly Departure.lateStores },
                                                  { on := 11, ground := Ground.textOnly Departure.lateStores },
                                                  { on := 12, ground := Ground.textOnly Departure.lateStoresUnsure },
                                                  { on := 13, ground := Ground.phase }],
                                              guard := none },
                                            { dst := none, op := Op.store (ρ.tE) (Operand.tmp 75) (Operand.tmp 70),
                                              type := ρ.t0, pos := "zsortanyfunc.go:398",
                                              after :=
                                                #[{ on := 14, ground := Ground.data },
                                                  { on := 9, ground := Ground.data },
                                                  { on := 0, ground := Ground.phase },
                                                  { on := 1, ground := Ground.phase },
                                                  { on := 2, ground := Ground.textOnly Departure.lateStores },
                                                  { on := 3, ground := Ground.textOnly Departure.lateStores },
                                                  { on := 4, ground := Ground.textOnly Departure.lateStores },
                                                  { on := 5, ground := Ground.phase },
                                                  { on := 6, ground := Ground.phase },
                                                  { on := 7, ground := Ground.phase },
                                                  { on := 8, ground := Ground.phase },
                                                  { on := 9, ground := Ground.phase },
                                                  { on := 10, ground := Ground.textOnly Departure.lateStores },
                                                  { on := 11, ground := Ground.textOnly Departure.lateStores },
                                                  { on := 12, ground := Ground.textOnly Departure.lateStoresUnsure },
                                                  { on := 13, ground := Ground.phase }],
                                              guard := none },
                                            { dst := some 76,
                                              op := Op.indexAddr (ρ.tS) (Operand.tmp 63) (Operand.tmp 65),
                                              type := ρ.t0, pos := "zsortanyfunc.go:398",
                                              after :=
                                                #[{ on := 2, ground := Ground.data },
                                                  { on := 4, ground := Ground.data },
                                                  { on := 0, ground := Ground.phase },
                                                  { on := 1, ground := Ground.phase },
                                                  { on := 2, ground := Ground.phase },
                                                  { on := 3, ground := Ground.phase },
                                                  { on := 4, ground := Ground.phase },
                                                  { on := 5, ground := Ground.phase },
                                                  { on := 6, ground := Ground.phase },
                                                  { on := 7, ground := Ground.phase },
                                                  { on := 8, ground := Ground.phase },
                                                  { on := 9, ground := Ground.phase },
                                                  { on := 10, ground := Ground.phase },
                                                  { on := 11, ground := Ground.phase },
                                                  { on := 12, ground := Ground.phase },
                                                  { on := 13, ground := Ground.phase },
                                                  { on := 14, ground := Ground.phase },
                                                  { on := 15, ground := Ground.phase }],
                                              guard := none },
                                            { dst := none, op := Op.store (ρ.tE) (Operand.tmp 76) (Operand.tmp 74),
                                              type := ρ.t0, pos := "zsortanyfunc.go:398",
                                              after :=
                                                #[{ on := 16, ground := Ground.data },
                                                  { on := 13, ground := Ground.data },
                                                  { on := 15, ground := Ground.chain },
                                                  { on := 0, ground := Ground.phase },
                                                  { on := 1, ground := Ground.phase },
                                                  { on := 2, ground := Ground.phase },
                                                  { on := 3, ground := Ground.phase },
                                                  { on := 4, ground := Ground.phase },
                                                  { on := 5, ground := Ground.phase },
                                                  { on := 6, ground := Ground.phase },
                                                  { on := 7, ground := Ground.phase },
                                                  { on := 8, ground := Ground.phase },
                                                  { on := 9, ground := Ground.phase },
                                                  { on := 10, ground := Ground.phase },
                                                  { on := 11, ground := Ground.phase },
                                                  { on := 12, ground := Ground.phase },
                                                  { on := 13, ground := Ground.phase },
                                                  { on := 14, ground := Ground.phase },
                                                  { on := 15, ground := Ground.phase }],
                                              guard := none }]
                                          true)).seq
                                    (Code.region 10
                                      #[{ dst := some 59, op := Op.move (Operand.tmp 13), type := ρ.tI,
                                          pos := "zsortanyfunc.go:397", after := #[], guard := none },
                                        { dst := some 60,
                                          op :=
                                            Op.binOp BinOp.add (ρ.tI) (Operand.tmp 59)
                                              (Operand.const (Value.int IntKind.i64 1)) (ρ.tI),
                                          type := ρ.tI, pos := "zsortanyfunc.go:397",
                                          after := #[{ on := 0, ground := Ground.data }], guard := none },
                                        { dst := some 13, op := Op.assign (Operand.tmp 60), type := ρ.tI,
                                          pos := "zsortanyfunc.go:397",
                                          after :=
                                            #[{ on := 1, ground := Ground.data }, { on := 0, ground := Ground.phase },
                                              { on := 1, ground := Ground.phase }],
                                          guard := none }]
                                      false))).loop)).seq
                        Code.ret))))
                Code.skip)).seq
          (((Code.region 12
                    #[{ dst := some 77, op := Op.move (Operand.tmp 3), type := ρ.tI, pos := "zsortanyfunc.go:406",
                        after := #[], guard := none },
                      { dst := some 78, op := Op.move (Operand.tmp 2), type := ρ.tI, pos := "zsortanyfunc.go:406",
                        after := #[], guard := none },
                      { dst := some 79, op := Op.binOp BinOp.sub (ρ.tI) (Operand.tmp 77) (Operand.tmp 78) (ρ.tI),
                        type := ρ.tI, pos := "zsortanyfunc.go:406",
                        after := #[{ on := 0, ground := Ground.data }, { on := 1, ground := Ground.data }],
                        guard := none },
                      { dst := some 80,
                        op :=
                          Op.binOp BinOp.eql (ρ.tI) (Operand.tmp 79) (Operand.const (Value.int IntKind.i64 1)) (ρ.tI),
                        type := ρ.tB, pos := "zsortanyfunc.go:406", after := #[{ on := 2, ground := Ground.data }],
                        guard := none }]
                    false).seq
                (Code.cond (Operand.tmp 80)
                  ((Code.region 13
                        #[{ dst := some 81, op := Op.move (Operand.tmp 1), type := ρ.tI, pos := "zsortanyfunc.go:410",
                            after := #[], guard := none },
                          { dst := some 14, op := Op.assign (Operand.tmp 81), type := ρ.tI,
                            pos := "zsortanyfunc.go:410",
                            after := #[{ on := 0, ground := Ground.data }, { on := 0, ground := Ground.phase }],
                            guard := none }]
                        false).seq
                    ((Code.region 14
                          #[{ dst := some 82, op := Op.move (Operand.tmp 2), type := ρ.tI,
                              pos := "zsortanyfunc.go:411", after := #[], guard := none },
                            { dst := some 15, op := Op.assign (Operand.tmp 82), type := ρ.tI,
                              pos := "zsortanyfunc.go:411",
                              after := #[{ on := 0, ground := Ground.data }, { on := 0, ground := Ground.phase }],
                              guard := none }]
                          false).seq
                      ((Code.block 4
                            (((Code.region 15
                                        #[{ dst := some 83, op := Op.move (Operand.tmp 14), type := ρ.tI,
                                            pos := "zsortanyfunc.go:412", after := #[], guard := none },
                                          { dst := some 84, op := Op.move (Operand.tmp 15), type := ρ.tI,
                                            pos := "zsortanyfunc.go:412", after := #[], guard := none },
                                          { dst := some 85,
                                            op := Op.binOp BinOp.lss (ρ.tI) (Operand.tmp 83) (Operand.tmp 84) (ρ.tI),
                                            type := ρ.tB, pos := "zsortanyfunc.go:412",
                                            after :=
                                              #[{ on := 0, ground := Ground.data }, { on := 1, ground := Ground.data }],
                                            guard := none }]
                                        false).seq
                                    (Code.cond (Operand.tmp 85) Code.skip (Code.exit 4))).seq
                                (Code.block 5
                                  ((Code.region 16
                                        #[{ dst := some 86, op := Op.move (Operand.tmp 14), type := ρ.tI,
                                            pos := "zsortanyfunc.go:413", after := #[], guard := none },
                                          { dst := some 87, op := Op.move (Operand.tmp 15), type := ρ.tI,
                                            pos := "zsortanyfunc.go:413", after := #[], guard := none },
                                          { dst := some 88,
                                            op := Op.binOp BinOp.add (ρ.tI) (Operand.tmp 86) (Operand.tmp 87) (ρ.tI),
                                            type := ρ.tI, pos := "zsortanyfunc.go:413",
                                            after :=
                                              #[{ on := 0, ground := Ground.data }, { on := 1, ground := Ground.data }],
                                            guard := none },
                                          { dst := some 89, op := Op.convert (ρ.tI) (ρ.tU) (Operand.tmp 88),
                                            type := ρ.tU, pos := "zsortanyfunc.go:413",
                                            after := #[{ on := 2, ground := Ground.data }], guard := none },
                                          { dst := some 90,
                                            op :=
                                              Op.binOp BinOp.shr (ρ.tU) (Operand.tmp 89)
                                                (Operand.const (Value.int IntKind.u64 1)) (ρ.tU),
                                            type := ρ.tU, pos := "zsortanyfunc.go:413",
                                            after := #[{ on := 3, ground := Ground.data }], guard := none },
                                          { dst := some 91, op := Op.convert (ρ.tU) (ρ.tI) (Operand.tmp 90),
                                            type := ρ.tI, pos := "zsortanyfunc.go:413",
                                            after := #[{ on := 4, ground := Ground.data }], guard := none },
                                          { dst := some 16, op := Op.assign (Operand.tmp 91), type := ρ.tI,
                                            pos := "zsortanyfunc.go:413",
                                            after :=
                                              #[{ on := 5, ground := Ground.data }, { on := 0, ground := Ground.phase },
                                                { on := 1, ground := Ground.phase },
                                                { on := 2, ground := Ground.phase },
                                                { on := 3, ground := Ground.phase },
                                                { on := 4, ground := Ground.phase },
                                                { on := 5, ground := Ground.phase }],
                                            guard := none }]
                                        false).seq
                                    ((Code.region 17
                                          #[{ dst := some 92, op := Op.move (Operand.tmp 4), type := ρ.tC,
                                              pos := "zsortanyfunc.go:414", after := #[], guard := none },
                                            { dst := some 93, op := Op.move (Operand.tmp 0), type := ρ.tS,
                                              pos := "zsortanyfunc.go:414", after := #[], guard := none },
                                            { dst := some 94, op := Op.move (Operand.tmp 2), type := ρ.tI,
                                              pos := "zsortanyfunc.go:414", after := #[], guard := none },
                                            { dst := some 95,
                                              op := Op.indexAddr (ρ.tS) (Operand.tmp 93) (Operand.tmp 94),
                                              type := ρ.t0, pos := "zsortanyfunc.go:414",
                                              after :=
                                                #[{ on := 1, ground := Ground.data },
                                                  { on := 2, ground := Ground.data }],
                                              guard := none },
                                            { dst := some 96, op := Op.load (ρ.tE) (Operand.tmp 95), type := ρ.tE,
                                              pos := "zsortanyfunc.go:414",
                                              after := #[{ on := 3, ground := Ground.data }], guard := none },
                                            { dst := some 97, op := Op.move (Operand.tmp 0), type := ρ.tS,
                                              pos := "zsortanyfunc.go:414", after := #[], guard := none },
                                            { dst := some 98, op := Op.move (Operand.tmp 16), type := ρ.tI,
                                              pos := "zsortanyfunc.go:414", after := #[], guard := none },
                                            { dst := some 99,
                                              op := Op.indexAddr (ρ.tS) (Operand.tmp 97) (Operand.tmp 98),
                                              type := ρ.t0, pos := "zsortanyfunc.go:414",
                                              after :=
                                                #[{ on := 5, ground := Ground.data },
                                                  { on := 6, ground := Ground.data }],
                                              guard := none },
                                            { dst := some 100, op := Op.load (ρ.tE) (Operand.tmp 99), type := ρ.tE,
                                              pos := "zsortanyfunc.go:414",
                                              after := #[{ on := 7, ground := Ground.data }], guard := none },
                                            { dst := some 101,
                                              op :=
                                                Op.call
                                                  { callee := Callee.value (Operand.tmp 92),
                                                    args := #[Operand.tmp 96, Operand.tmp 100],
                                                    argTypes := #[ρ.tE, ρ.tE] },
                                              type := ρ.tI, pos := "zsortanyfunc.go:414",
                                              after :=
                                                #[{ on := 0, ground := Ground.data },
                                                  { on := 4, ground := Ground.data },
                                                  { on := 8, ground := Ground.data }],
                                              guard := none },
                                            { dst := some 102,
                                              op :=
                                                Op.binOp BinOp.lss (ρ.tI) (Operand.tmp 101)
                                                  (Operand.const (Value.int IntKind.i64 0)) (ρ.tI),
                                              type := ρ.tB, pos := "zsortanyfunc.go:414",
                                              after := #[{ on := 9, ground := Ground.data }], guard := none },
                                            { dst := some 103, op := Op.unOp UnOp.not (ρ.tB) (Operand.tmp 102),
                                              type := ρ.tB, pos := "zsortanyfunc.go:414",
                                              after := #[{ on := 10, ground := Ground.data }], guard := none }]
                                          true).seq
                                      (Code.cond (Operand.tmp 103)
                                        (Code.region 18
                                          #[{ dst := some 104, op := Op.move (Operand.tmp 16), type := ρ.tI,
                                              pos := "zsortanyfunc.go:415", after := #[], guard := none },
                                            { dst := some 105,
                                              op :=
                                                Op.binOp BinOp.add (ρ.tI) (Operand.tmp 104)
                                                  (Operand.const (Value.int IntKind.i64 1)) (ρ.tI),
                                              type := ρ.tI, pos := "zsortanyfunc.go:415",
                                              after := #[{ on := 0, ground := Ground.data }], guard := none },
                                            { dst := some 14, op := Op.assign (Operand.tmp 105), type := ρ.tI,
                                              pos := "zsortanyfunc.go:415",
                                              after :=
                                                #[{ on := 1, ground := Ground.data },
                                                  { on := 0, ground := Ground.phase },
                                                  { on := 1, ground := Ground.phase }],
                                              guard := none }]
                                          false)
                                        (Code.region 19
                                          #[{ dst := some 106, op := Op.move (Operand.tmp 16), type := ρ.tI,
                                              pos := "zsortanyfunc.go:417", after := #[], guard := none },
                                            { dst := some 15, op := Op.assign (Operand.tmp 106), type := ρ.tI,
                                              pos := "zsortanyfunc.go:417",
                                              after :=
                                                #[{ on := 0, ground := Ground.data },
                                                  { on := 0, ground := Ground.phase }],
                                              guard := none }]
                                          false)))))).loop).seq
                        (((Code.region 20
                                  #[{ dst := some 107, op := Op.move (Operand.tmp 2), type := ρ.tI,
                                      pos := "zsortanyfunc.go:421", after := #[], guard := none },
                                    { dst := some 17, op := Op.assign (Operand.tmp 107), type := ρ.tI,
                                      pos := "zsortanyfunc.go:421",
                                      after :=
                                        #[{ on := 0, ground := Ground.data }, { on := 0, ground := Ground.phase }],
                                      guard := none }]
                                  false).seq
                              (Code.block 6
                                (((Code.region 21
                                            #[{ dst := some 108, op := Op.move (Operand.tmp 17), type := ρ.tI,
                                                pos := "zsortanyfunc.go:421", after := #[], guard := none },
                                              { dst := some 109, op := Op.move (Operand.tmp 14), type := ρ.tI,
                                                pos := "zsortanyfunc.go:421", after := #[], guard := none },
                                              { dst := some 110,
                                                op :=
                                                  Op.binOp BinOp.gtr (ρ.tI) (Operand.tmp 108) (Operand.tmp 109)
                                                    (ρ.tI),
                                                type := ρ.tB, pos := "zsortanyfunc.go:421",
                                                after :=
                                                  #[{ on := 0, ground := Ground.data },
                                                    { on := 1, ground := Ground.data }],
                                                guard := none }]
                                            false).seq
                                        (Code.cond (Operand.tmp 110) Code.skip (Code.exit 6))).seq
                                    ((Code.block 7
                                          (Code.region 23
                                            #[{ dst := some 113, op := Op.move (Operand.tmp 0), type := ρ.tS,
                                                pos := "zsortanyfunc.go:422", after := #[], guard := none },
                                              { dst := some 114, op := Op.move (Operand.tmp 17), type := ρ.tI,
                                                pos := "zsortanyfunc.go:422", after := #[], guard := none },
                                              { dst := some 115, op := Op.move (Operand.tmp 0), type := ρ.tS,
                                                pos := "zsortanyfunc.go:422",
                                                after := #[{ on := 15, ground := Ground.gcOnly Departure.lateStores }],
                                                guard := none },
                                              { dst := some 116, op := Op.move (Operand.tmp 17), type := ρ.tI,
                                                pos := "zsortanyfunc.go:422",
                                                after := #[{ on := 15, ground := Ground.gcOnly Departure.lateStores }],
                                                guard := none },
                                              { dst := some 117,
                                                op :=
                                                  Op.binOp BinOp.sub (ρ.tI) (Operand.tmp 116)
                                                    (Operand.const (Value.int IntKind.i64 1)) (ρ.tI),
                                                type := ρ.tI, pos := "zsortanyfunc.go:422",
                                                after :=
                                                  #[{ on := 3, ground := Ground.data },
                                                    { on := 15, ground := Ground.gcOnly Departure.lateStores }],
                                                guard := none },
                                              { dst := some 118, op := Op.move (Operand.tmp 0), type := ρ.tS,
                                                pos := "zsortanyfunc.go:422", after := #[], guard := none },
                                              { dst := some 119, op := Op.move (Operand.tmp 17), type := ρ.tI,
                                                pos := "zsortanyfunc.go:422", after := #[], guard := none },
                                              { dst := some 120,
                                                op :=
                                                  Op.binOp BinOp.sub (ρ.tI) (Operand.tmp 119)
                                                    (Operand.const (Value.int IntKind.i64 1)) (ρ.tI),
                                                type := ρ.tI, pos := "zsortanyfunc.go:422",
                                                after := #[{ on := 6, ground := Ground.data }], guard := none },
                                              { dst := some 121,
                                                op := Op.indexAddr (ρ.tS) (Operand.tmp 118) (Operand.tmp 120),
                                                type := ρ.t0, pos := "zsortanyfunc.go:422",
                                                after :=
                                                  #[{ on := 5, ground := Ground.data },
                                                    { on := 7, ground := Ground.data }],
                                                guard := none },
                                              { dst := some 122, op := Op.load (ρ.tE) (Operand.tmp 121),
                                                type := ρ.tE, pos := "zsortanyfunc.go:422",
                                                after := #[{ on := 8, ground := Ground.data }], guard := none },
                                              { dst := some 123, op := Op.move (Operand.tmp 0), type := ρ.tS,
                                                pos := "zsortanyfunc.go:422", after := #[], guard := none },
                                              { dst := some 124, op := Op.move (Operand.tmp 17), type := ρ.tI,
                                                pos := "zsortanyfunc.go:422", after := #[], guard := none },
                                              { dst := some 125,
                                                op := Op.indexAddr (ρ.tS) (Operand.tmp 123) (Operand.tmp 124),
                                                type := ρ.t0, pos := "zsortanyfunc.go:422",
                                                after :=
                                                  #[{ on := 10, ground := Ground.data },
                                                    { on := 11, ground := Ground.data }],
                                                guard := none },
                                              { dst := some 126, op := Op.load (ρ.tE) (Operand.tmp 125),
                                                type := ρ.tE, pos := "zsortanyfunc.go:422",
                                                after := #[{ on := 12, ground := Ground.data }], guard := none },
                                              { dst := some 127,
                                                op := Op.indexAddr (ρ.tS) (Operand.tmp 113) (Operand.tmp 114),
                                                type := ρ.t0, pos := "zsortanyfunc.go:422",
                                                after :=
                                                  #[{ on := 0, ground := Ground.data },
                                                    { on := 1, ground := Ground.data },
                                                    { on := 0, ground := Ground.phase },
                                                    { on := 1, ground := Ground.phase },
                                                    { on := 2, ground := Ground.textOnly Departure.lateStores },
                                                    { on := 3, ground := Ground.textOnly Departure.lateStores },
                                                    { on := 4, ground := Ground.textOnly Departure.lateStores },
                                                    { on := 5, ground := Ground.phase },
                                                    { on := 6, ground := Ground.phase },
                                                    { on := 7, ground := Ground.phase },
                                                    { on := 8, ground := Ground.phase },
                                                    { on := 9, ground := Ground.phase },
                                                    { on := 10, ground := Ground.textOnly Departure.lateStores },
                                                    { on := 11, ground := Ground.textOnly Departure.lateStores },
                                                    { on := 12, ground := Ground.textOnly Departure.lateStoresUnsure },
                                                    { on := 13, ground := Ground.phase }],
                                                guard := none },
                                              { dst := none,
                                                op := Op.store (ρ.tE) (Operand.tmp 127) (Operand.tmp 122),
                                                type := ρ.t0, pos := "zsortanyfunc.go:422",
                                                after :=
                                                  #[{ on := 14, ground := Ground.data },
                                                    { on := 9, ground := Ground.data },
                                                    { on := 0, ground := Ground.phase },
                                                    { on := 1, ground := Ground.phase },
                                                    { on := 2, ground := Ground.textOnly Departure.lateStores },
                                                    { on := 3, ground := Ground.textOnly Departure.lateStores },
                                                    { on := 4, ground := Ground.textOnly Departure.lateStores },
                                                    { on := 5, ground := Ground.phase },
                                                    { on := 6, ground := Ground.phase },
                                                    { on := 7, ground := Ground.phase },
                                                    { on := 8, ground := Ground.phase },
                                                    { on := 9, ground := Ground.phase },
                                                    { on := 10, ground := Ground.textOnly Departure.lateStores },
                                                    { on := 11, ground := Ground.textOnly Departure.lateStores },
                                                    { on := 12, ground := Ground.textOnly Departure.lateStoresUnsure },
                                                    { on := 13, ground := Ground.phase }],
                                                guard := none },
                                              { dst := some 128,
                                                op := Op.indexAddr (ρ.tS) (Operand.tmp 115) (Operand.tmp 117),
                                                type := ρ.t0, pos := "zsortanyfunc.go:422",
                                                after :=
                                                  #[{ on := 2, ground := Ground.data },
                                                    { on := 4, ground := Ground.data },
                                                    { on := 0, ground := Ground.phase },
                                                    { on := 1, ground := Ground.phase },
                                                    { on := 2, ground := Ground.phase },
                                                    { on := 3, ground := Ground.phase },
                                                    { on := 4, ground := Ground.phase },
                                                    { on := 5, ground := Ground.phase },
                                                    { on := 6, ground := Ground.phase },
                                                    { on := 7, ground := Ground.phase },
                                                    { on := 8, ground := Ground.phase },
                                                    { on := 9, ground := Ground.phase },
                                                    { on := 10, ground := Ground.phase },
                                                    { on := 11, ground := Ground.phase },
                                                    { on := 12, ground := Ground.phase },
                                                    { on := 13, ground := Ground.phase },
                                                    { on := 14, ground := Ground.phase },
                                                    { on := 15, ground := Ground.phase }],
                                                guard := none },
                                              { dst := none,
                                                op := Op.store (ρ.tE) (Operand.tmp 128) (Operand.tmp 126),
                                                type := ρ.t0, pos := "zsortanyfunc.go:422",
                                                after :=
                                                  #[{ on := 16, ground := Ground.data },
                                                    { on := 13, ground := Ground.data },
                                                    { on := 15, ground := Ground.chain },
                                                    { on := 0, ground := Ground.phase },
                                                    { on := 1, ground := Ground.phase },
                                                    { on := 2, ground := Ground.phase },
                                                    { on := 3, ground := Ground.phase },
                                                    { on := 4, ground := Ground.phase },
                                                    { on := 5, ground := Ground.phase },
                                                    { on := 6, ground := Ground.phase },
                                                    { on := 7, ground := Ground.phase },
                                                    { on := 8, ground := Ground.phase },
                                                    { on := 9, ground := Ground.phase },
                                                    { on := 10, ground := Ground.phase },
                                                    { on := 11, ground := Ground.phase },
                                                    { on := 12, ground := Ground.phase },
                                                    { on := 13, ground := Ground.phase },
                                                    { on := 14, ground := Ground.phase },
                                                    { on := 15, ground := Ground.phase }],
                                                guard := none }]
                                            true)).seq
                                      (Code.region 22
                                        #[{ dst := some 111, op := Op.move (Operand.tmp 17), type := ρ.tI,
                                            pos := "zsortanyfunc.go:421", after := #[], guard := none },
                                          { dst := some 112,
                                            op :=
                                              Op.binOp BinOp.sub (ρ.tI) (Operand.tmp 111)
                                                (Operand.const (Value.int IntKind.i64 1)) (ρ.tI),
                                            type := ρ.tI, pos := "zsortanyfunc.go:421",
                                            after := #[{ on := 0, ground := Ground.data }], guard := none },
                                          { dst := some 17, op := Op.assign (Operand.tmp 112), type := ρ.tI,
                                            pos := "zsortanyfunc.go:421",
                                            after :=
                                              #[{ on := 1, ground := Ground.data }, { on := 0, ground := Ground.phase },
                                                { on := 1, ground := Ground.phase }],
                                            guard := none }]
                                        false))).loop)).seq
                          Code.ret))))
                  Code.skip)).seq
            ((Code.region 24
                  #[{ dst := some 129, op := Op.move (Operand.tmp 1), type := ρ.tI, pos := "zsortanyfunc.go:427",
                      after := #[], guard := none },
                    { dst := some 130, op := Op.move (Operand.tmp 3), type := ρ.tI, pos := "zsortanyfunc.go:427",
                      after := #[], guard := none },
                    { dst := some 131, op := Op.binOp BinOp.add (ρ.tI) (Operand.tmp 129) (Operand.tmp 130) (ρ.tI),
                      type := ρ.tI, pos := "zsortanyfunc.go:427",
                      after := #[{ on := 0, ground := Ground.data }, { on := 1, ground := Ground.data }],
                      guard := none },
                    { dst := some 132, op := Op.convert (ρ.tI) (ρ.tU) (Operand.tmp 131), type := ρ.tU,
                      pos := "zsortanyfunc.go:427", after := #[{ on := 2, ground := Ground.data }], guard := none },
                    { dst := some 133,
                      op :=
                        Op.binOp BinOp.shr (ρ.tU) (Operand.tmp 132) (Operand.const (Value.int IntKind.u64 1))
                          (ρ.tU),
                      type := ρ.tU, pos := "zsortanyfunc.go:427", after := #[{ on := 3, ground := Ground.data }],
                      guard := none },
                    { dst := some 134, op := Op.convert (ρ.tU) (ρ.tI) (Operand.tmp 133), type := ρ.tI,
                      pos := "zsortanyfunc.go:427", after := #[{ on := 4, ground := Ground.data }], guard := none },
                    { dst := some 18, op := Op.assign (Operand.tmp 134), type := ρ.tI, pos := "zsortanyfunc.go:427",
                      after :=
                        #[{ on := 5, ground := Ground.data }, { on := 0, ground := Ground.phase },
                          { on := 1, ground := Ground.phase }, { on := 2, ground := Ground.phase },
                          { on := 3, ground := Ground.phase }, { on := 4, ground := Ground.phase },
                          { on := 5, ground := Ground.phase }],
                      guard := none }]
                  false).seq
              ((Code.region 25
                    #[{ dst := some 135, op := Op.move (Operand.tmp 18), type := ρ.tI, pos := "zsortanyfunc.go:428",
                        after := #[], guard := none },
                      { dst := some 136, op := Op.move (Operand.tmp 2), type := ρ.tI, pos := "zsortanyfunc.go:428",
                        after := #[], guard := none },
                      { dst := some 137, op := Op.binOp BinOp.add (ρ.tI) (Operand.tmp 135) (Operand.tmp 136) (ρ.tI),
                        type := ρ.tI, pos := "zsortanyfunc.go:428",
                        after := #[{ on := 0, ground := Ground.data }, { on := 1, ground := Ground.data }],
                        guard := none },
                      { dst := some 19, op := Op.assign (Operand.tmp 137), type := ρ.tI, pos := "zsortanyfunc.go:428",
                        after :=
                          #[{ on := 2, ground := Ground.data }, { on := 0, ground := Ground.phase },
                            { on := 1, ground := Ground.phase }, { on := 2, ground := Ground.phase }],
                        guard := none }]
                    false).seq
                ((Code.region 26
                      #[{ dst := some 20, op := Op.assign (Operand.const (Value.int IntKind.i64 0)), type := ρ.tI,
                          pos := "zsortanyfunc.go:429", after := #[], guard := none },
                        { dst := some 21, op := Op.assign (Operand.const (Value.int IntKind.i64 0)), type := ρ.tI,
                          pos := "zsortanyfunc.go:429", after := #[{ on := 0, ground := Ground.chain }],
                          guard := none }]
                      false).seq
                  (((Code.region 27
                            #[{ dst := some 138, op := Op.move (Operand.tmp 2), type := ρ.tI,
                                pos := "zsortanyfunc.go:430", after := #[], guard := none },
                              { dst := some 139, op := Op.move (Operand.tmp 18), type := ρ.tI,
                                pos := "zsortanyfunc.go:430", after := #[], guard := none },
                              { dst := some 140,
                                op := Op.binOp BinOp.gtr (ρ.tI) (Operand.tmp 138) (Operand.tmp 139) (ρ.tI),
                                type := ρ.tB, pos := "zsortanyfunc.go:430",
                                after := #[{ on := 0, ground := Ground.data }, { on := 1, ground := Ground.data }],
                                guard := none }]
                            false).seq
                        (Code.cond (Operand.tmp 140)
                          ((Code.region 28
                                #[{ dst := some 141, op := Op.move (Operand.tmp 19), type := ρ.tI,
                                    pos := "zsortanyfunc.go:431", after := #[], guard := none },
                                  { dst := some 142, op := Op.move (Operand.tmp 3), type := ρ.tI,
                                    pos := "zsortanyfunc.go:431", after := #[], guard := none },
                                  { dst := some 143,
                                    op := Op.binOp BinOp.sub (ρ.tI) (Operand.tmp 141) (Operand.tmp 142) (ρ.tI),
                                    type := ρ.tI, pos := "zsortanyfunc.go:431",
                                    after := #[{ on := 0, ground := Ground.data }, { on := 1, ground := Ground.data }],
                                    guard := none },
                                  { dst := some 20, op := Op.assign (Operand.tmp 143), type := ρ.tI,
                                    pos := "zsortanyfunc.go:431",
                                    after :=
                                      #[{ on := 2, ground := Ground.data }, { on := 0, ground := Ground.phase },
                                        { on := 1, ground := Ground.phase }, { on := 2, ground := Ground.phase }],
                                    guard := none }]
                                false).seq
                            (Code.region 29
                              #[{ dst := some 144, op := Op.move (Operand.tmp 18), type := ρ.tI,
                                  pos := "zsortanyfunc.go:432", after := #[], guard := none },
                                { dst := some 21, op := Op.assign (Operand.tmp 144), type := ρ.tI,
                                  pos := "zsortanyfunc.go:432",
                                  after := #[{ on := 0, ground := Ground.data }, { on := 0, ground := Ground.phase }],
                                  guard := none }]
                              false))
                          ((Code.region 30
                                #[{ dst := some 145, op := Op.move (Operand.tmp 1), type := ρ.tI,
                                    pos := "zsortanyfunc.go:434", after := #[], guard := none },
                                  { dst := some 20, op := Op.assign (Operand.tmp 145), type := ρ.tI,
                                    pos := "zsortanyfunc.go:434",
                                    after := #[{ on := 0, ground := Ground.data }, { on := 0, ground := Ground.phase }],
                                    guard := none }]
                                false).seq
                            (Code.region 31
                              #[{ dst := some 146, op := Op.move (Operand.tmp 2), type := ρ.tI,
                                  pos := "zsortanyfunc.go:435", after := #[], guard := none },
                                { dst := some 21, op := Op.assign (Operand.tmp 146), type := ρ.tI,
                                  pos := "zsortanyfunc.go:435",
                                  after := #[{ on := 0, ground := Ground.data }, { on := 0, ground := Ground.phase }],
                                  guard := none }]
                              false)))).seq
                    ((Code.region 32
                          #[{ dst := some 147, op := Op.move (Operand.tmp 19), type := ρ.tI,
                              pos := "zsortanyfunc.go:437", after := #[], guard := none },
                            { dst := some 148,
                              op :=
                                Op.binOp BinOp.sub (ρ.tI) (Operand.tmp 147) (Operand.const (Value.int IntKind.i64 1))
                                  (ρ.tI),
                              type := ρ.tI, pos := "zsortanyfunc.go:437",
                              after := #[{ on := 0, ground := Ground.data }], guard := none },
                            { dst := some 22, op := Op.assign (Operand.tmp 148), type := ρ.tI,
                              pos := "zsortanyfunc.go:437",
                              after :=
                                #[{ on := 1, ground := Ground.data }, { on := 0, ground := Ground.phase },
                                  { on := 1, ground := Ground.phase }],
                              guard := none }]
                          false).seq
                      ((Code.block 8
                            (((Code.region 33
                                        #[{ dst := some 149, op := Op.move (Operand.tmp 20), type := ρ.tI,
                                            pos := "zsortanyfunc.go:439", after := #[], guard := none },
                                          { dst := some 150, op := Op.move (Operand.tmp 21), type := ρ.tI,
                                            pos := "zsortanyfunc.go:439", after := #[], guard := none },
                                          { dst := some 151,
                                            op :=
                                              Op.binOp BinOp.lss (ρ.tI) (Operand.tmp 149) (Operand.tmp 150) (ρ.tI),
                                            type := ρ.tB, pos := "zsortanyfunc.go:439",
                                            after :=
                                              #[{ on := 0, ground := Ground.data }, { on := 1, ground := Ground.data }],
                                            guard := none }]
                                        false).seq
                                    (Code.cond (Operand.tmp 151) Code.skip (Code.exit 8))).seq
                                (Code.block 9
                                  ((Code.region 34
                                        #[{ dst := some 152, op := Op.move (Operand.tmp 20), type := ρ.tI,
                                            pos := "zsortanyfunc.go:440", after := #[], guard := none },
                                          { dst := some 153, op := Op.move (Operand.tmp 21), type := ρ.tI,
                                            pos := "zsortanyfunc.go:440", after := #[], guard := none },
                                          { dst := some 154,
                                            op :=
                                              Op.binOp BinOp.add (ρ.tI) (Operand.tmp 152) (Operand.tmp 153) (ρ.tI),
                                            type := ρ.tI, pos := "zsortanyfunc.go:440",
                                            after :=
                                              #[{ on := 0, ground := Ground.data }, { on := 1, ground := Ground.data }],
                                            guard := none },
                                          { dst := some 155, op := Op.convert (ρ.tI) (ρ.tU) (Operand.tmp 154),
                                            type := ρ.tU, pos := "zsortanyfunc.go:440",
                                            after := #[{ on := 2, ground := Ground.data }], guard := none },
                                          { dst := some 156,
                                            op :=
                                              Op.binOp BinOp.shr (ρ.tU) (Operand.tmp 155)
                                                (Operand.const (Value.int IntKind.u64 1)) (ρ.tU),
                                            type := ρ.tU, pos := "zsortanyfunc.go:440",
                                            after := #[{ on := 3, ground := Ground.data }], guard := none },
                                          { dst := some 157, op := Op.convert (ρ.tU) (ρ.tI) (Operand.tmp 156),
                                            type := ρ.tI, pos := "zsortanyfunc.go:440",
                                            after := #[{ on := 4, ground := Ground.data }], guard := none },
                                          { dst := some 23, op := Op.assign (Operand.tmp 157), type := ρ.tI,
                                            pos := "zsortanyfunc.go:440",
                                            after :=
                                              #[{ on := 5, ground := Ground.data }, { on := 0, ground := Ground.phase },
                                                { on := 1, ground := Ground.phase },
                                                { on := 2, ground := Ground.phase },
                                                { on := 3, ground := Ground.phase },
                                                { on := 4, ground := Ground.phase },
                                                { on := 5, ground := Ground.phase }],
                                            guard := none }]
                                        false).seq
                                    ((Code.region 35
                                          #[{ dst := some 158, op := Op.move (Operand.tmp 4), type := ρ.tC,
                                              pos := "zsortanyfunc.go:441", after := #[], guard := none },
                                            { dst := some 159, op := Op.move (Operand.tmp 0), type := ρ.tS,
                                              pos := "zsortanyfunc.go:441", after := #[], guard := none },
                                            { dst := some 160, op := Op.move (Operand.tmp 22), type := ρ.tI,
                                              pos := "zsortanyfunc.go:441", after := #[], guard := none },
                                            { dst := some 161, op := Op.move (Operand.tmp 23), type := ρ.tI,
                                              pos := "zsortanyfunc.go:441", after := #[], guard := none },
                                            { dst := some 162,
                                              op :=
                                                Op.binOp BinOp.sub (ρ.tI) (Operand.tmp 160) (Operand.tmp 161) (ρ.tI),
                                              type := ρ.tI, pos := "zsortanyfunc.go:441",
                                              after :=
                                                #[{ on := 2, ground := Ground.data },
                                                  { on := 3, ground := Ground.data }],
                                              guard := none },
                                            { dst := some 163,
                                              op := Op.indexAddr (ρ.tS) (Operand.tmp 159) (Operand.tmp 162),
                                              type := ρ.t0, pos := "zsortanyfunc.go:441",
                                              after :=
                                                #[{ on := 1, ground := Ground.data },
                                                  { on := 4, ground := Ground.data }],
                                              guard := none },
                                            { dst := some 164, op := Op.load (ρ.tE) (Operand.tmp 163), type := ρ.tE,
                                              pos := "zsortanyfunc.go:441",
                                              after := #[{ on := 5, ground := Ground.data }], guard := none },
                                            { dst := some 165, op := Op.move (Operand.tmp 0), type := ρ.tS,
                                              pos := "zsortanyfunc.go:441", after := #[], guard := none },
                                            { dst := some 166, op := Op.move (Operand.tmp 23), type := ρ.tI,
                                              pos := "zsortanyfunc.go:441", after := #[], guard := none },
                                            { dst := some 167,
                                              op := Op.indexAddr (ρ.tS) (Operand.tmp 165) (Operand.tmp 166),
                                              type := ρ.t0, pos := "zsortanyfunc.go:441",
                                              after :=
                                                #[{ on := 7, ground := Ground.data },
                                                  { on := 8, ground := Ground.data }],
                                              guard := none },
                                            { dst := some 168, op := Op.load (ρ.tE) (Operand.tmp 167), type := ρ.tE,
                                              pos := "zsortanyfunc.go:441",
                                              after := #[{ on := 9, ground := Ground.data }], guard := none },
                                            { dst := some 169,
                                              op :=
                                                Op.call
                                                  { callee := Callee.value (Operand.tmp 158),
                                                    args := #[Operand.tmp 164, Operand.tmp 168],
                                                    argTypes := #[ρ.tE, ρ.tE] },
                                              type := ρ.tI, pos := "zsortanyfunc.go:441",
                                              after :=
                                                #[{ on := 0, ground := Ground.data },
                                                  { on := 6, ground := Ground.data },
                                                  { on := 10, ground := Ground.data }],
                                              guard := none },
                                            { dst := some 170,
                                              op :=
                                                Op.binOp BinOp.lss (ρ.tI) (Operand.tmp 169)
                                                  (Operand.const (Value.int IntKind.i64 0)) (ρ.tI),
                                              type := ρ.tB, pos := "zsortanyfunc.go:441",
                                              after := #[{ on := 11, ground := Ground.data }], guard := none },
                                            { dst := some 171, op := Op.unOp UnOp.not (ρ.tB) (Operand.tmp 170),
                                              type := ρ.tB, pos := "zsortanyfunc.go:441",
                                              after := #[{ on := 12, ground := Ground.data }], guard := none }]
                                          true).seq
                                      (Code.cond (Operand.tmp 171)
                                        (Code.region 36
                                          #[{ dst := some 172, op := Op.move (Operand.tmp 23), type := ρ.tI,
                                              pos := "zsortanyfunc.go:442", after := #[], guard := none },
                                            { dst := some 173,
                                              op :=
                                                Op.binOp BinOp.add (ρ.tI) (Operand.tmp 172)
                                                  (Operand.const (Value.int IntKind.i64 1)) (ρ.tI),
                                              type := ρ.tI, pos := "zsortanyfunc.go:442",
                                              after := #[{ on := 0, ground := Ground.data }], guard := none },
                                            { dst := some 20, op := Op.assign (Operand.tmp 173), type := ρ.tI,
                                              pos := "zsortanyfunc.go:442",
                                              after :=
                                                #[{ on := 1, ground := Ground.data },
                                                  { on := 0, ground := Ground.phase },
                                                  { on := 1, ground := Ground.phase }],
                                              guard := none }]
                                          false)
                                        (Code.region 37
                                          #[{ dst := some 174, op := Op.move (Operand.tmp 23), type := ρ.tI,
                                              pos := "zsortanyfunc.go:444", after := #[], guard := none },
                                            { dst := some 21, op := Op.assign (Operand.tmp 174), type := ρ.tI,
                                              pos := "zsortanyfunc.go:444",
                                              after :=
                                                #[{ on := 0, ground := Ground.data },
                                                  { on := 0, ground := Ground.phase }],
                                              guard := none }]
                                          false)))))).loop).seq
                        ((Code.region 38
                              #[{ dst := some 175, op := Op.move (Operand.tmp 19), type := ρ.tI,
                                  pos := "zsortanyfunc.go:448", after := #[], guard := none },
                                { dst := some 176, op := Op.move (Operand.tmp 20), type := ρ.tI,
                                  pos := "zsortanyfunc.go:448", after := #[], guard := none },
                                { dst := some 177,
                                  op := Op.binOp BinOp.sub (ρ.tI) (Operand.tmp 175) (Operand.tmp 176) (ρ.tI),
                                  type := ρ.tI, pos := "zsortanyfunc.go:448",
                                  after := #[{ on := 0, ground := Ground.data }, { on := 1, ground := Ground.data }],
                                  guard := none },
                                { dst := some 24, op := Op.assign (Operand.tmp 177), type := ρ.tI,
                                  pos := "zsortanyfunc.go:448",
                                  after :=
                                    #[{ on := 2, ground := Ground.data }, { on := 0, ground := Ground.phase },
                                      { on := 1, ground := Ground.phase }, { on := 2, ground := Ground.phase }],
                                  guard := none }]
                              false).seq
                          (((Code.region 39
                                    #[{ dst := some 178, op := Op.move (Operand.tmp 20), type := ρ.tI,
                                        pos := "zsortanyfunc.go:449", after := #[], guard := none },
                                      { dst := some 179, op := Op.move (Operand.tmp 2), type := ρ.tI,
                                        pos := "zsortanyfunc.go:449", after := #[], guard := none },
                                      { dst := some 180,
                                        op := Op.binOp BinOp.lss (ρ.tI) (Operand.tmp 178) (Operand.tmp 179) (ρ.tI),
                                        type := ρ.tB, pos := "zsortanyfunc.go:449",
                                        after :=
                                          #[{ on := 0, ground := Ground.data }, { on := 1, ground := Ground.data }],
                                        guard := none },
                                      { dst := some 181, op := Op.move (Operand.tmp 180), type := ρ.tB,
                                        pos := "zsortanyfunc.go:449", after := #[{ on := 2, ground := Ground.data }],
                                        guard := none },
                                      { dst := some 182, op := Op.move (Operand.tmp 2), type := ρ.tI,
                                        pos := "zsortanyfunc.go:449", after := #[{ on := 3, ground := Ground.guard }],
                                        guard := some (3, true) },
                                      { dst := some 183, op := Op.move (Operand.tmp 24), type := ρ.tI,
                                        pos := "zsortanyfunc.go:449", after := #[{ on := 3, ground := Ground.guard }],
                                        guard := some (3, true) },
                                      { dst := some 184,
                                        op := Op.binOp BinOp.lss (ρ.tI) (Operand.tmp 182) (Operand.tmp 183) (ρ.tI),
                                        type := ρ.tB, pos := "zsortanyfunc.go:449",
                                        after :=
                                          #[{ on := 4, ground := Ground.data }, { on := 5, ground := Ground.data },
                                            { on := 3, ground := Ground.guard }],
                                        guard := some (3, true) },
                                      { dst := some 185,
                                        op :=
                                          Op.pick (Operand.tmp 181) (Operand.tmp 184)
                                            (Operand.const (Value.bool false)),
                                        type := ρ.tB, pos := "zsortanyfunc.go:449",
                                        after :=
                                          #[{ on := 3, ground := Ground.data }, { on := 6, ground := Ground.data }],
                                        guard := none }]
                                    false).seq
                                (Code.cond (Operand.tmp 185)
                                  (Code.region 40
                                    #[{ dst := some 186, op := Op.move (Operand.tmp 0), type := ρ.tS,
                                        pos := "zsortanyfunc.go:450", after := #[], guard := none },
                                      { dst := some 187, op := Op.move (Operand.tmp 20), type := ρ.tI,
                                        pos := "zsortanyfunc.go:450", after := #[], guard := none },
                                      { dst := some 188, op := Op.move (Operand.tmp 2), type := ρ.tI,
                                        pos := "zsortanyfunc.go:450", after := #[], guard := none },
                                      { dst := some 189, op := Op.move (Operand.tmp 24), type := ρ.tI,
                                        pos := "zsortanyfunc.go:450", after := #[], guard := none },
                                      { dst := some 190, op := Op.move (Operand.tmp 4), type := ρ.tC,
                                        pos := "zsortanyfunc.go:450", after := #[], guard := none },
                                      { dst := some 191,
                                        op :=
                                          Op.call
                                            { callee := Callee.value (Operand.func (ρ.fr)),
                                              args :=
                                                #[Operand.tmp 186, Operand.tmp 187, Operand.tmp 188, Operand.tmp 189,
                                                  Operand.tmp 190],
                                              argTypes := #[ρ.tS, ρ.tI, ρ.tI, ρ.tI, ρ.tC] },
                                        type := ρ.t0, pos := "zsortanyfunc.go:450",
                                        after :=
                                          #[{ on := 0, ground := Ground.data }, { on := 1, ground := Ground.data },
                                            { on := 2, ground := Ground.data }, { on := 3, ground := Ground.data },
                                            { on := 4, ground := Ground.data }],
                                        guard := none }]
                                    false)
                                  Code.skip)).seq
                            (((Code.region 41
                                      #[{ dst := some 192, op := Op.move (Operand.tmp 1), type := ρ.tI,
                                          pos := "zsortanyfunc.go:452", after := #[], guard := none },
                                        { dst := some 193, op := Op.move (Operand.tmp 20), type := ρ.tI,
                                          pos := "zsortanyfunc.go:452", after := #[], guard := none },
                                        { dst := some 194,
                                          op := Op.binOp BinOp.lss (ρ.tI) (Operand.tmp 192) (Operand.tmp 193) (ρ.tI),
                                          type := ρ.tB, pos := "zsortanyfunc.go:452",
                                          after :=
                                            #[{ on := 0, ground := Ground.data }, { on := 1, ground := Ground.data }],
                                          guard := none },
                                        { dst := some 195, op := Op.move (Operand.tmp 194), type := ρ.tB,
                                          pos := "zsortanyfunc.go:452", after := #[{ on := 2, ground := Ground.data }],
                                          guard := none },
                                        { dst := some 196, op := Op.move (Operand.tmp 20), type := ρ.tI,
                                          pos := "zsortanyfunc.go:452", after := #[{ on := 3, ground := Ground.guard }],
                                          guard := some (3, true) },
                                        { dst := some 197, op := Op.move (Operand.tmp 18), type := ρ.tI,
                                          pos := "zsortanyfunc.go:452", after := #[{ on := 3, ground := Ground.guard }],
                                          guard := some (3, true) },
                                        { dst := some 198,
                                          op := Op.binOp BinOp.lss (ρ.tI) (Operand.tmp 196) (Operand.tmp 197) (ρ.tI),
                                          type := ρ.tB, pos := "zsortanyfunc.go:452",
                                          after :=
                                            #[{ on := 4, ground := Ground.data }, { on := 5, ground := Ground.data },
                                              { on := 3, ground := Ground.guard }],
                                          guard := some (3, true) },
                                        { dst := some 199,
                                          op :=
                                            Op.pick (Operand.tmp 195) (Operand.tmp 198)
                                              (Operand.const (Value.bool false)),
                                          type := ρ.tB, pos := "zsortanyfunc.go:452",
                                          after :=
                                            #[{ on := 3, ground := Ground.data }, { on := 6, ground := Ground.data }],
                                          guard := none }]
                                      false).seq
                                  (Code.cond (Operand.tmp 199)
                                    (Code.region 42
                                      #[{ dst := some 200, op := Op.move (Operand.tmp 0), type := ρ.tS,
                                          pos := "zsortanyfunc.go:453", after := #[], guard := none },
                                        { dst := some 201, op := Op.move (Operand.tmp 1), type := ρ.tI,
                                          pos := "zsortanyfunc.go:453", after := #[], guard := none },
                                        { dst := some 202, op := Op.move (Operand.tmp 20), type := ρ.tI,
                                          pos := "zsortanyfunc.go:453", after := #[], guard := none },
                                        { dst := some 203, op := Op.move (Operand.tmp 18), type := ρ.tI,
                                          pos := "zsortanyfunc.go:453", after := #[], guard := none },
                                        { dst := some 204, op := Op.move (Operand.tmp 4), type := ρ.tC,
                                          pos := "zsortanyfunc.go:453", after := #[], guard := none },
                                        { dst := some 205,
                                          op :=
                                            Op.call
                                              { callee := Callee.value (Operand.func (ρ.fm)),
                                                args :=
                                                  #[Operand.tmp 200, Operand.tmp 201, Operand.tmp 202, Operand.tmp 203,
                                                    Operand.tmp 204],
                                                argTypes := #[ρ.tS, ρ.tI, ρ.tI, ρ.tI, ρ.tC] },
                                          type := ρ.t0, pos := "zsortanyfunc.go:453",
                                          after :=
                                            #[{ on := 0, ground := Ground.data }, { on := 1, ground := Ground.data },
                                              { on := 2, ground := Ground.data }, { on := 3, ground := Ground.data },
                                              { on := 4, ground := Ground.data }],
                                          guard := none }]
                                      false)
                                    Code.skip)).seq
                              ((Code.region 43
                                    #[{ dst := some 206, op := Op.move (Operand.tmp 18), type := ρ.tI,
                                        pos := "zsortanyfunc.go:455", after := #[], guard := none },
                                      { dst := some 207, op := Op.move (Operand.tmp 24), type := ρ.tI,
                                        pos := "zsortanyfunc.go:455", after := #[], guard := none },
                                      { dst := some 208,
                                        op := Op.binOp BinOp.lss (ρ.tI) (Operand.tmp 206) (Operand.tmp 207) (ρ.tI),
                                        type := ρ.tB, pos := "zsortanyfunc.go:455",
                                        after :=
                                          #[{ on := 0, ground := Ground.data }, { on := 1, ground := Ground.data }],
                                        guard := none },
                                      { dst := some 209, op := Op.move (Operand.tmp 208), type := ρ.tB,
                                        pos := "zsortanyfunc.go:455", after := #[{ on := 2, ground := Ground.data }],
                                        guard := none },
                                      { dst := some 210, op := Op.move (Operand.tmp 24), type := ρ.tI,
                                        pos := "zsortanyfunc.go:455", after := #[{ on := 3, ground := Ground.guard }],
                                        guard := some (3, true) },
                                      { dst := some 211, op := Op.move (Operand.tmp 3), type := ρ.tI,
                                        pos := "zsortanyfunc.go:455", after := #[{ on := 3, ground := Ground.guard }],
                                        guard := some (3, true) },
                                      { dst := some 212,
                                        op := Op.binOp BinOp.lss (ρ.tI) (Operand.tmp 210) (Operand.tmp 211) (ρ.tI),
                                        type := ρ.tB, pos := "zsortanyfunc.go:455",
                                        after :=
                                          #[{ on := 4, ground := Ground.data }, { on := 5, ground := Ground.data },
                                            { on := 3, ground := Ground.guard }],
                                        guard := some (3, true) },
                                      { dst := some 213,
                                        op :=
                                          Op.pick (Operand.tmp 209) (Operand.tmp 212)
                                            (Operand.const (Value.bool false)),
                                        type := ρ.tB, pos := "zsortanyfunc.go:455",
                                        after :=
                                          #[{ on := 3, ground := Ground.data }, { on := 6, ground := Ground.data }],
                                        guard := none }]
                                    false).seq
                                (Code.cond (Operand.tmp 213)
                                  (Code.region 44
                                    #[{ dst := some 214, op := Op.move (Operand.tmp 0), type := ρ.tS,
                                        pos := "zsortanyfunc.go:456", after := #[], guard := none },
                                      { dst := some 215, op := Op.move (Operand.tmp 18), type := ρ.tI,
                                        pos := "zsortanyfunc.go:456", after := #[], guard := none },
                                      { dst := some 216, op := Op.move (Operand.tmp 24), type := ρ.tI,
                                        pos := "zsortanyfunc.go:456", after := #[], guard := none },
                                      { dst := some 217, op := Op.move (Operand.tmp 3), type := ρ.tI,
                                        pos := "zsortanyfunc.go:456", after := #[], guard := none },
                                      { dst := some 218, op := Op.move (Operand.tmp 4), type := ρ.tC,
                                        pos := "zsortanyfunc.go:456", after := #[], guard := none },
                                      { dst := some 219,
                                        op :=
                                          Op.call
                                            { callee := Callee.value (Operand.func (ρ.fm)),
                                              args :=
                                                #[Operand.tmp 214, Operand.tmp 215, Operand.tmp 216, Operand.tmp 217,
                                                  Operand.tmp 218],
                                              argTypes := #[ρ.tS, ρ.tI, ρ.tI, ρ.tI, ρ.tC] },
                                        type := ρ.t0, pos := "zsortanyfunc.go:456",
                                        after :=
                                          #[{ on := 0, ground := Ground.data }, { on := 1, ground := Ground.data },
                                            { on := 2, ground := Ground.data }, { on := 3, ground := Ground.data },
                                            { on := 4, ground := Ground.data }],
                                        guard := none }]
                                    false)
                                  Code.skip))))))))))))),
    norace := false, file := "slices/zsortanyfunc.go", endLine := 458,
    met := [Departure.mixedOrders, Departure.lateStoresUnsure, Departure.lateStores],
    tmpNames :=
      ((["data", "a", "m", "b", "cmp", "data", "a", "m", "b", "cmp", "i", "j", "h", "k", "i", "j", "h", "k", "mid", "n",
                  "start", "r", "p", "c", "end", "", "", "", "", "", "", "", "", "", "", "", "", "", "", "", "", "", "",
                  "", "", "", "", "", "", "", "", "", "", "", ""].append
              ["", "", "", "", "", "", "", "", "", "", "", "", "", "", "", "", "", "", "", "", "", "", "", "", "", "",
                "", "", "", "", "", "", "", "", "", "", "", "", "", "", "", "", "", "", "", "", "", "", "", "", "", "",
                "", "", ""]).append
          (["", "", "", "", "", "", "", "", "", "", "", "", "", "", "", "", "", "", "", "", "", "", "", "", "", "", "",
                "", "", "", "", "", "", "", "", "", "", "", "", "", "", "", "", "", "", "", "", "", "", "", "", "", "",
                "", ""].append
            ["", "", "", "", "", "", "", "", "", "", "", "", "", "", "", "", "", "", "", "", "", "", "", "", "", "", "",
              "", "", "", "", "", "", "", "", "", "", "", "", "", "", "", "", "", "", "", "", "", "", "", "", "", "",
              "", ""])).toArray }
def staB (ρ : Nms) : Func :=
  { name := "", origin := "slices.stableCmpFunc", targs := #[ρ.tE],
    params := #[ρ.tS, ρ.tI, ρ.tC], resultTypes := #[], nfree := 0, ntmps := 63, results := #[],
    body :=
      some
        ((Code.region 0
              #[{ dst := some 6, op := Op.assign (Operand.const (Value.int IntKind.i64 20)), type := ρ.tI,
                  pos := "zsortanyfunc.go:336", after := #[], guard := none }]
              false).seq
          ((Code.region 1
                #[{ dst := some 10, op := Op.move (Operand.tmp 6), type := ρ.tI, pos := "zsortanyfunc.go:337",
                    after := #[{ on := 1, ground := Ground.gcOnly Departure.lateStores }], guard := none },
                  { dst := some 7, op := Op.assign (Operand.const (Value.int IntKind.i64 0)), type := ρ.tI,
                    pos := "zsortanyfunc.go:337",
                    after := #[{ on := 0, ground := Ground.textOnly Departure.lateStores }], guard := none },
                  { dst := some 8, op := Op.assign (Operand.tmp 10), type := ρ.tI, pos := "zsortanyfunc.go:337",
                    after :=
                      #[{ on := 0, ground := Ground.data }, { on := 1, ground := Ground.chain },
                        { on := 0, ground := Ground.phase }, { on := 1, ground := Ground.phase }],
                    guard := none }]
                false).seq
            ((Code.block 0
                  (((Code.region 2
                              #[{ dst := some 11, op := Op.move (Operand.tmp 8), type := ρ.tI,
                                  pos := "zsortanyfunc.go:338", after := #[], guard := none },
                                { dst := some 12, op := Op.move (Operand.tmp 1), type := ρ.tI,
                                  pos := "zsortanyfunc.go:338", after := #[], guard := none },
                                { dst := some 13,
                                  op := Op.binOp BinOp.leq (ρ.tI) (Operand.tmp 11) (Operand.tmp 12) (ρ.tI),
                                  type := ρ.tB, pos := "zsortanyfunc.go:338",
                                  after := #[{ on := 0, ground := Ground.data }, { on := 1, ground := Ground.data }],
                                  guard := none }]
                              false).seq
                          (Code.cond (Operand.tmp 13) Code.skip (Code.exit 0))).seq
                      (Code.block 1
                        ((Code.region 3
                              #[{ dst := some 14, op := Op.move (Operand.tmp 0), type := ρ.tS,
                                  pos := "zsortanyfunc.go:339", after := #[], guard := none },
                                { dst := some 15, op := Op.move (Operand.tmp 7), type := ρ.tI,
                                  pos := "zsortanyfunc.go:339", after := #[], guard := none },
                                { dst := some 16, op := Op.move (Operand.tmp 8), type := ρ.tI,
                                  pos := "zsortanyfunc.go:339", after := #[], guard := none },
                                { dst := some 17, op := Op.move (Operand.tmp 2), type := ρ.tC,
                                  pos := "zsortanyfunc.go:339", after := #[], guard := none },
                                { dst := some 18,
                                  op :=
                                    Op.call
                                      { callee := Callee.value (Operand.func (ρ.fi)),
                                        args := #[Operand.tmp 14, Operand.tmp 15, Operand.tmp 16, Operand.tmp 17],
                                        argTypes := #[ρ.tS, ρ.tI, ρ.tI, ρ.tC] },
                                  type := ρ.t0, pos := "zsortanyfunc.go:339",
                                  after :=
                                    #[{ on := 0, ground := Ground.data }, { on := 1, ground := Ground.data },
                                      { on := 2, ground := Ground.data }, { on := 3, ground := Ground.data }],
                                  guard := none }]
                              false).seq
                          ((Code.region 4
                                #[{ dst := some 19, op := Op.move (Operand.tmp 8), type := ρ.tI,
                                    pos := "zsortanyfunc.go:340", after := #[], guard := none },
                                  { dst := some 7, op := Op.assign (Operand.tmp 19), type := ρ.tI,
                                    pos := "zsortanyfunc.go:340",
                                    after := #[{ on := 0, ground := Ground.data }, { on := 0, ground := Ground.phase }],
                                    guard := none }]
                                false).seq
                            (Code.region 5
                              #[{ dst := some 20, op := Op.move (Operand.tmp 8), type := ρ.tI,
                                  pos := "zsortanyfunc.go:341", after := #[], guard := none },
                                { dst := some 21, op := Op.move (Operand.tmp 6), type := ρ.tI,
                                  pos := "zsortanyfunc.go:341", after := #[], guard := none },
                                { dst := some 22,
                                  op := Op.binOp BinOp.add (ρ.tI) (Operand.tmp 20) (Operand.tmp 21) (ρ.tI),
                                  type := ρ.tI, pos := "zsortanyfunc.go:341",
                                  after := #[{ on := 0, ground := Ground.data }, { on := 1, ground := Ground.data }],
                                  guard := none },
                                { dst := some 8, op := Op.assign (Operand.tmp 22), type := ρ.tI,
                                  pos := "zsortanyfunc.go:341",
                                  after :=
                                    #[{ on := 2, ground := Ground.data }, { on := 0, ground := Ground.phase },
                                      { on := 1, ground := Ground.phase }, { on := 2, ground := Ground.phase }],
                                  guard := none }]
                              false))))).loop).seq
              ((Code.region 6
                    #[{ dst := some 23, op := Op.move (Operand.tmp 0), type := ρ.tS, pos := "zsortanyfunc.go:343",
                        after := #[], guard := none },
                      { dst := some 24, op := Op.move (Operand.tmp 7), type := ρ.tI, pos := "zsortanyfunc.go:343",
                        after := #[], guard := none },
                      { dst := some 25, op := Op.move (Operand.tmp 1), type := ρ.tI, pos := "zsortanyfunc.go:343",
                        after := #[], guard := none },
                      { dst := some 26, op := Op.move (Operand.tmp 2), type := ρ.tC, pos := "zsortanyfunc.go:343",
                        after := #[], guard := none },
                      { dst := some 27,
                        op :=
                          Op.call
                            { callee := Callee.value (Operand.func (ρ.fi)),
                              args := #[Operand.tmp 23, Operand.tmp 24, Operand.tmp 25, Operand.tmp 26],
                              argTypes := #[ρ.tS, ρ.tI, ρ.tI, ρ.tC] },
                        type := ρ.t0, pos := "zsortanyfunc.go:343",
                        after :=
                          #[{ on := 0, ground := Ground.data }, { on := 1, ground := Ground.data },
                            { on := 2, ground := Ground.data }, { on := 3, ground := Ground.data }],
                        guard := none }]
                    false).seq
                (Code.block 2
                  (((Code.region 7
                              #[{ dst := some 28, op := Op.move (Operand.tmp 6), type := ρ.tI,
                                  pos := "zsortanyfunc.go:345", after := #[], guard := none },
                                { dst := some 29, op := Op.move (Operand.tmp 1), type := ρ.tI,
                                  pos := "zsortanyfunc.go:345", after := #[], guard := none },
                                { dst := some 30,
                                  op := Op.binOp BinOp.lss (ρ.tI) (Operand.tmp 28) (Operand.tmp 29) (ρ.tI),
                                  type := ρ.tB, pos := "zsortanyfunc.go:345",
                                  after := #[{ on := 0, ground := Ground.data }, { on := 1, ground := Ground.data }],
                                  guard := none }]
                              false).seq
                          (Code.cond (Operand.tmp 30) Code.skip (Code.exit 2))).seq
                      (Code.block 3
                        ((Code.region 8
                              #[{ dst := some 31, op := Op.move (Operand.tmp 6), type := ρ.tI,
                                  pos := "zsortanyfunc.go:346",
                                  after := #[{ on := 2, ground := Ground.gcOnly Departure.lateStores }],
                                  guard := none },
                                { dst := some 32,
                                  op :=
                                    Op.binOp BinOp.mul (ρ.tI) (Operand.const (Value.int IntKind.i64 2))
                                      (Operand.tmp 31) (ρ.tI),
                                  type := ρ.tI, pos := "zsortanyfunc.go:346",
                                  after :=
                                    #[{ on := 0, ground := Ground.data },
                                      { on := 2, ground := Ground.gcOnly Departure.lateStores }],
                                  guard := none },
                                { dst := some 7, op := Op.assign (Operand.const (Value.int IntKind.i64 0)),
                                  type := ρ.tI, pos := "zsortanyfunc.go:346",
                                  after :=
                                    #[{ on := 0, ground := Ground.textOnly Departure.lateStores },
                                      { on := 1, ground := Ground.textOnly Departure.lateStores }],
                                  guard := none },
                                { dst := some 8, op := Op.assign (Operand.tmp 32), type := ρ.tI,
                                  pos := "zsortanyfunc.go:346",
                                  after :=
                                    #[{ on := 1, ground := Ground.data }, { on := 2, ground := Ground.chain },
                                      { on := 0, ground := Ground.phase }, { on := 1, ground := Ground.phase },
                                      { on := 2, ground := Ground.phase }],
                                  guard := none }]
                              false).seq
                          ((Code.block 4
                                (((Code.region 9
                                            #[{ dst := some 33, op := Op.move (Operand.tmp 8), type := ρ.tI,
                                                pos := "zsortanyfunc.go:347", after := #[], guard := none },
                                              { dst := some 34, op := Op.move (Operand.tmp 1), type := ρ.tI,
                                                pos := "zsortanyfunc.go:347", after := #[], guard := none },
                                              { dst := some 35,
                                                op :=
                                                  Op.binOp BinOp.leq (ρ.tI) (Operand.tmp 33) (Operand.tmp 34) (ρ.tI),
                                                type := ρ.tB, pos := "zsortanyfunc.go:347",
                                                after :=
                                                  #[{ on := 0, ground := Ground.data },
                                                    { on := 1, ground := Ground.data }],
                                                guard := none }]
                                            false).seq
                                        (Code.cond (Operand.tmp 35) Code.skip (Code.exit 4))).seq
                                    (Code.block 5
                                      ((Code.region 10
                                            #[{ dst := some 36, op := Op.move (Operand.tmp 0), type := ρ.tS,
                                                pos := "zsortanyfunc.go:348", after := #[], guard := none },
                                              { dst := some 37, op := Op.move (Operand.tmp 7), type := ρ.tI,
                                                pos := "zsortanyfunc.go:348", after := #[], guard := none },
                                              { dst := some 38, op := Op.move (Operand.tmp 7), type := ρ.tI,
                                                pos := "zsortanyfunc.go:348", after := #[], guard := none },
                                              { dst := some 39, op := Op.move (Operand.tmp 6), type := ρ.tI,
                                                pos := "zsortanyfunc.go:348", after := #[], guard := none },
                                              { dst := some 40,
                                                op :=
                                                  Op.binOp BinOp.add (ρ.tI) (Operand.tmp 38) (Operand.tmp 39) (ρ.tI),
                                                type := ρ.tI, pos := "zsortanyfunc.go:348",
                                                after :=
                                                  #[{ on := 2, ground := Ground.data },
                                                    { on := 3, ground := Ground.data }],
                                                guard := none },
                                              { dst := some 41, op := Op.move (Operand.tmp 8), type := ρ.tI,
                                                pos := "zsortanyfunc.go:348", after := #[], guard := none },
                                              { dst := some 42, op := Op.move (Operand.tmp 2), type := ρ.tC,
                                                pos := "zsortanyfunc.go:348", after := #[], guard := none },
                                              { dst := some 43,
                                                op :=
                                                  Op.call
                                                    { callee := Callee.value (Operand.func (ρ.fm)),
                                                      args :=
                                                        #[Operand.tmp 36, Operand.tmp 37, Operand.tmp 40,
                                                          Operand.tmp 41, Operand.tmp 42],
                                                      argTypes := #[ρ.tS, ρ.tI, ρ.tI, ρ.tI, ρ.tC] },
                                                type := ρ.t0, pos := "zsortanyfunc.go:348",
                                                after :=
                                                  #[{ on := 0, ground := Ground.data },
                                                    { on := 1, ground := Ground.data },
                                                    { on := 4, ground := Ground.data },
                                                    { on := 5, ground := Ground.data },
                                                    { on := 6, ground := Ground.data }],
                                                guard := none }]
                                            false).seq
                                        ((Code.region 11
                                              #[{ dst := some 44, op := Op.move (Operand.tmp 8), type := ρ.tI,
                                                  pos := "zsortanyfunc.go:349", after := #[], guard := none },
                                                { dst := some 7, op := Op.assign (Operand.tmp 44), type := ρ.tI,
                                                  pos := "zsortanyfunc.go:349",
                                                  after :=
                                                    #[{ on := 0, ground := Ground.data },
                                                      { on := 0, ground := Ground.phase }],
                                                  guard := none }]
                                              false).seq
                                          (Code.region 12
                                            #[{ dst := some 45, op := Op.move (Operand.tmp 8), type := ρ.tI,
                                                pos := "zsortanyfunc.go:350", after := #[], guard := none },
                                              { dst := some 46, op := Op.move (Operand.tmp 6), type := ρ.tI,
                                                pos := "zsortanyfunc.go:350", after := #[], guard := none },
                                              { dst := some 47,
                                                op :=
                                                  Op.binOp BinOp.mul (ρ.tI) (Operand.const (Value.int IntKind.i64 2))
                                                    (Operand.tmp 46) (ρ.tI),
                                                type := ρ.tI, pos := "zsortanyfunc.go:350",
                                                after := #[{ on := 1, ground := Ground.data }], guard := none },
                                              { dst := some 48,
                                                op :=
                                                  Op.binOp BinOp.add (ρ.tI) (Operand.tmp 45) (Operand.tmp 47) (ρ.tI),
                                                type := ρ.tI, pos := "zsortanyfunc.go:350",
                                                after :=
                                                  #[{ on := 0, ground := Ground.data },
                                                    { on := 2, ground := Ground.data }],
                                                guard := none },
                                              { dst := some 8, op := Op.assign (Operand.tmp 48), type := ρ.tI,
                                                pos := "zsortanyfunc.go:350",
                                                after :=
                                                  #[{ on := 3, ground := Ground.data },
                                                    { on := 0, ground := Ground.phase },
                                                    { on := 1, ground := Ground.phase },
                                                    { on := 2, ground := Ground.phase },
                                                    { on := 3, ground := Ground.phase }],
                                                guard := none }]
                                            false))))).loop).seq
                            (((Code.region 13
                                      #[{ dst := some 49, op := Op.move (Operand.tmp 7), type := ρ.tI,
                                          pos := "zsortanyfunc.go:352", after := #[], guard := none },
                                        { dst := some 50, op := Op.move (Operand.tmp 6), type := ρ.tI,
                                          pos := "zsortanyfunc.go:352", after := #[], guard := none },
                                        { dst := some 51,
                                          op := Op.binOp BinOp.add (ρ.tI) (Operand.tmp 49) (Operand.tmp 50) (ρ.tI),
                                          type := ρ.tI, pos := "zsortanyfunc.go:352",
                                          after :=
                                            #[{ on := 0, ground := Ground.data }, { on := 1, ground := Ground.data }],
                                          guard := none },
                                        { dst := some 9, op := Op.assign (Operand.tmp 51), type := ρ.tI,
                                          pos := "zsortanyfunc.go:352",
                                          after :=
                                            #[{ on := 2, ground := Ground.data }, { on := 0, ground := Ground.phase },
                                              { on := 1, ground := Ground.phase }, { on := 2, ground := Ground.phase }],
                                          guard := none }]
                                      false).seq
                                  ((Code.region 14
                                        #[{ dst := some 52, op := Op.move (Operand.tmp 9), type := ρ.tI,
                                            pos := "zsortanyfunc.go:352", after := #[], guard := none },
                                          { dst := some 53, op := Op.move (Operand.tmp 1), type := ρ.tI,
                                            pos := "zsortanyfunc.go:352", after := #[], guard := none },
                                          { dst := some 54,
                                            op := Op.binOp BinOp.lss (ρ.tI) (Operand.tmp 52) (Operand.tmp 53) (ρ.tI),
                                            type := ρ.tB, pos := "zsortanyfunc.go:352",
                                            after :=
                                              #[{ on := 0, ground := Ground.data }, { on := 1, ground := Ground.data }],
                                            guard := none }]
                                        false).seq
                                    (Code.cond (Operand.tmp 54)
                                      (Code.region 15
                                        #[{ dst := some 55, op := Op.move (Operand.tmp 0), type := ρ.tS,
                                            pos := "zsortanyfunc.go:353", after := #[], guard := none },
                                          { dst := some 56, op := Op.move (Operand.tmp 7), type := ρ.tI,
                                            pos := "zsortanyfunc.go:353", after := #[], guard := none },
                                          { dst := some 57, op := Op.move (Operand.tmp 9), type := ρ.tI,
                                            pos := "zsortanyfunc.go:353", after := #[], guard := none },
                                          { dst := some 58, op := Op.move (Operand.tmp 1), type := ρ.tI,
                                            pos := "zsortanyfunc.go:353", after := #[], guard := none },
                                          { dst := some 59, op := Op.move (Operand.tmp 2), type := ρ.tC,
                                            pos := "zsortanyfunc.go:353", after := #[], guard := none },
                                          { dst := some 60,
                                            op :=
                                              Op.call
                                                { callee := Callee.value (Operand.func (ρ.fm)),
                                                  args :=
                                                    #[Operand.tmp 55, Operand.tmp 56, Operand.tmp 57, Operand.tmp 58,
                                                      Operand.tmp 59],
                                                  argTypes := #[ρ.tS, ρ.tI, ρ.tI, ρ.tI, ρ.tC] },
                                            type := ρ.t0, pos := "zsortanyfunc.go:353",
                                            after :=
                                              #[{ on := 0, ground := Ground.data }, { on := 1, ground := Ground.data },
                                                { on := 2, ground := Ground.data }, { on := 3, ground := Ground.data },
                                                { on := 4, ground := Ground.data }],
                                            guard := none }]
                                        false)
                                      Code.skip))).seq
                              (Code.region 16
                                #[{ dst := some 61, op := Op.move (Operand.tmp 6), type := ρ.tI,
                                    pos := "zsortanyfunc.go:355", after := #[], guard := none },
                                  { dst := some 62,
                                    op :=
                                      Op.binOp BinOp.mul (ρ.tI) (Operand.tmp 61)
                                        (Operand.const (Value.int IntKind.i64 2)) (ρ.tI),
                                    type := ρ.tI, pos := "zsortanyfunc.go:355",
                                    after := #[{ on := 0, ground := Ground.data }], guard := none },
                                  { dst := some 6, op := Op.assign (Operand.tmp 62), type := ρ.tI,
                                    pos := "zsortanyfunc.go:355",
                                    after :=
                                      #[{ on := 1, ground := Ground.data }, { on := 0, ground := Ground.phase },
                                        { on := 1, ground := Ground.phase }],
                                    guard := none }]
                                false)))))).loop))))),
    norace := false, file := "slices/zsortanyfunc.go", endLine := 357,
    met := [Departure.mixedOrders, Departure.lateStores],
    tmpNames :=
      #["data", "n", "cmp", "data", "n", "cmp", "blockSize", "a", "b", "m", "", "", "", "", "", "", "", "", "", "", "",
        "", "", "", "", "", "", "", "", "", "", "", "", "", "", "", "", "", "", "", "", "", "", "", "", "", "", "", "",
        "", "", "", "", "", "", "", "", "", "", "", "", "", ""] }
end Ss
end Go.Proofs.YtehgnbgbmicheaaGreatDoor
end S1

section S2
namespace Go.Proofs.YtehgnbgbmicheaaGreatDoor
open Go.Shelf Go.RowKit Go.Lib Go.Sort
namespace Ss
variable {P : Program} {α : Type} [Inhabited α]
/-- What the sort is told of the program's types. -/
structure Ld (P : Program) (ρ : Nms) (k : Nat) : Prop where
  mixed : P.follows .mixedOrders = true
  t0 : P.underlying ρ.t0 = some (TypeDesc.tuple #[])
  a0 : ∀ w, (isAgg ρ.t0).run P w = .ok false w
  z0 : ∀ w, (Go.sizeOf ρ.t0).run P w = .ok 1 w
  v0 : ∀ w, (zeroValue ρ.t0).run P w = .ok (Value.tuple #[]) w
  t3 : P.underlying ρ.tI = some (TypeDesc.int IntKind.i64)
  a3 : ∀ w, (isAgg ρ.tI).run P w = .ok false w
  z3 : ∀ w, (Go.sizeOf ρ.tI).run P w = .ok 1 w
  v3 : ∀ w, (zeroValue ρ.tI).run P w = .ok (Value.int IntKind.i64 0) w
  t4 : P.underlying ρ.tB = some (TypeDesc.bool)
  a4 : ∀ w, (isAgg ρ.tB).run P w = .ok false w
  z4 : ∀ w, (Go.sizeOf ρ.tB).run P w = .ok 1 w
  v4 : ∀ w, (zeroValue ρ.tB).run P w = .ok (Value.bool false) w
  t5 : P.underlying ρ.tU = some (TypeDesc.int IntKind.u64)
  a5 : ∀ w, (isAgg ρ.tU).run P w = .ok false w
  z5 : ∀ w, (Go.sizeOf ρ.tU).run P w = .ok 1 w
  v5 : ∀ w, (zeroValue ρ.tU).run P w = .ok (Value.int IntKind.u64 0) w
  t22 : P.underlying ρ.tS = some (TypeDesc.slice ρ.tE)
  a22 : ∀ w, (isAgg ρ.tS).run P w = .ok false w
  z22 : ∀ w, (Go.sizeOf ρ.tS).run P w = .ok 1 w
  v22 : ∀ w, (zeroValue ρ.tS).run P w = .ok (Value.slice none 0 0) w
  t25 : P.underlying ρ.tC = some (TypeDesc.func #[ρ.tE, ρ.tE] #[ρ.tI] false)
  a25 : ∀ w, (isAgg ρ.tC).run P w = .ok false w
  z25 : ∀ w, (Go.sizeOf ρ.tC).run P w = .ok 1 w
  v25 : ∀ w, (zeroValue ρ.tC).run P w = .ok (Value.nilFunc) w
  aE : ∀ w, (isAgg ρ.tE).run P w = .ok true w
  zE : ∀ w, (Go.sizeOf ρ.tE).run P w = .ok k w
theorem wrap_in {x : Int} (h : 0 ≤ x) (h2 : x < 4611686018427387904) : wrap64 x = x := by
  unfold wrap64; omega
theorem swapB_ntmps (ρ : Nms) : (swapB ρ).ntmps = 38 := rfl
theorem rotB_ntmps (ρ : Nms) : (rotB ρ).ntmps = 58 := rfl
set_option maxHeartbeats 4000000 in
set_option maxRecDepth 1000000 in
theorem swapRange_any (ρ : Nms) (k : Nat) (L : Ld P ρ k) (FB : Bears P ρ.fs (swapB ρ)) (enc : α → List Value) (g : Nat) (cb : Array Value) (blk off cap a b n : Nat) (d0 d : Array α) (w0 w : World)
    (R : RowK enc k w0 blk off d0) (hs : d0.size = d.size) (S : SWK enc k w0 blk off d w) (hab : a + n ≤ b) (hb : b + n ≤ d.size) (hsz : d.size < 4611686018427387904) :
    Calls P ρ.fs #[.slice (some ⟨blk, off, none⟩) d.size cap, .int .i64 a, .int .i64 b, .int .i64 n, .func (.func g) #[] cb] w fun e w' => e = .returned (.tuple #[]) ∧ SWK enc k w0 blk off (swr d a b n) w' := by
  have mixed := L.mixed; have t0 := L.t0; have a0 := L.a0; have z0 := L.z0; have v0 := L.v0; have t3 := L.t3; have a3 := L.a3; have z3 := L.z3; have v3 := L.v3; have t4 := L.t4; have a4 := L.a4; have z4 := L.z4; have v4 := L.v4; have t22 := L.t22; have a22 := L.a22; have z22 := L.z22; have v22 := L.v22; have t25 := L.t25; have a25 := L.a25; have z25 := L.z25; have v25 := L.v25
  have aE := L.aE; have zE := L.zE
  have u22 := run_underlying L.t22
  obtain ⟨_, _, FG⟩ := FB
  have S0 : Aside (SWK enc k w0 blk off d w) := S
  clear S
  go_enter FG, swapB_ntmps ρ
  go_wp2
  go_loopg [10] n (fun kx s8 wr => ∃ (i : Nat), s8 = .int .i64 i ∧ i ≤ n ∧ kx = n - i ∧ Aside (SWK enc k w0 blk off (swr d a b i) wr))
  case atStart => exact ⟨0, rfl, Nat.zero_le _, rfl, S0⟩
  case round =>
    clear S0
    obtain ⟨i, rfl, hi, hkx, S1⟩ := hrel
    by_cases hlt : i < n
    · have hlt' : (i : Int) < (n : Int) := by omega
      obtain ⟨dk, hdk⟩ : ∃ dk, dk = swr d a b i := ⟨_, rfl⟩
      have hds : dk.size = d.size := by rw [hdk, swr_size]
      rw [← hdk] at S1
      go_wp2_with fail
      have ea : ((a : Int) + (i : Int)).toNat = a + i := by omega
      have pa : (0 : Int) ≤ (a : Int) + (i : Int) := by omega
      have ba : (a : Int) + (i : Int) < (d.size : Int) := by omega
      have ra : IntKind.i64.wrap ((a : Int) + (i : Int)) = (a : Int) + (i : Int) := by rw [IntKind.wrap_i64]; omega
      have ec : ((b : Int) + (i : Int)).toNat = b + i := by omega
      have pc : (0 : Int) ≤ (b : Int) + (i : Int) := by omega
      have bc : (b : Int) + (i : Int) < (d.size : Int) := by omega
      have rc : IntKind.i64.wrap ((b : Int) + (i : Int)) = (b : Int) + (i : Int) := by rw [IntKind.wrap_i64]; omega
      have S2 : Aside (SWK enc k w0 blk off (swp dk (a + i) (b + i)) ((wr.drew.setCells blk (off + (a + i) * k) (enc dk[b + i]!)).setCells blk (off + (b + i) * k) (enc dk[a + i]!))) := S1.out.swapped R (a + i) (b + i) (by omega) (by omega)
      have l44a := S1.out.ld1 R (by omega) P (a + i) (by omega)
      have l44b := S1.out.ld1 R (by omega) P (b + i) (by omega)
      have s44a := S1.out.st1 R (by omega) P (a + i) (by omega) dk[b + i]!
      have s44b := S1.out.st2 R (by omega) P (a + i) (b + i) (by omega) (by omega) dk[b + i]! dk[a + i]!
      have n44a : (enc dk[a + i]!).length = k := R.hk _
      have n44b : (enc dk[b + i]!).length = k := R.hk _
      generalize enc dk[a + i]! = cI44 at S2 l44a s44b n44a
      generalize enc dk[b + i]! = cJ44 at S2 l44b s44a s44b n44b
      clear S1
      go_wp2_with fail
      go_big_region_o
      clear l44a l44b s44a s44b
      generalize (wr.drew.setCells blk (off + (a + i) * k) cJ44).setCells blk (off + (b + i) * k) cI44 = w2 at S2 ⊢
      have E2 : Aside (swp dk (a + i) (b + i) = swr d a b (i + 1)) := (show _ = _ by rw [hdk]; rfl)
      clear hdk
      go_wp2
      go_roundg (n - (i + 1))
      case measure => omega
      case rel => exact ⟨i + 1, by go_num, by omega, rfl, (show SWK enc k w0 blk off _ _ from by have q := S2.out; rw [E2.out] at q; exact q)⟩
    · have e : i = n := by omega
      subst e
      go_wp2
      go_end0
      exact ⟨rfl, S1.out⟩
set_option maxHeartbeats 4000000 in
set_option maxRecDepth 1000000 in
theorem rotate_any (ρ : Nms) (k : Nat) (L : Ld P ρ k) (FB : Bears P ρ.fr (rotB ρ)) (FS : Bears P ρ.fs (swapB ρ)) (enc : α → List Value) (g : Nat) (cb : Array Value) (blk off cap a m b : Nat) (d0 d : Array α) (w0 w : World)
    (R : RowK enc k w0 blk off d0) (hs : d0.size = d.size) (S : SWK enc k w0 blk off d w) (ham : a < m) (hmb : m < b) (hb : b ≤ d.size) (hsz : d.size < 4611686018427387904) :
    Calls P ρ.fr #[.slice (some ⟨blk, off, none⟩) d.size cap, .int .i64 a, .int .i64 m, .int .i64 b, .func (.func g) #[] cb] w fun e w' => e = .returned (.tuple #[]) ∧ ∃ d', Rot d d' m (m - a) (b - m) ∧ SWK enc k w0 blk off d' w' := by
  have mixed := L.mixed; have t0 := L.t0; have a0 := L.a0; have z0 := L.z0; have v0 := L.v0; have t3 := L.t3; have a3 := L.a3; have z3 := L.z3; have v3 := L.v3; have t4 := L.t4; have a4 := L.a4; have z4 := L.z4; have v4 := L.v4; have t22 := L.t22; have a22 := L.a22; have z22 := L.z22; have v22 := L.v22; have t25 := L.t25; have a25 := L.a25; have z25 := L.z25; have v25 := L.v25
  have u22 := run_underlying L.t22
  have SW := Lib.hid (fun (x y n : Nat) (dk : Array α) (W : World) (hd : d.size = dk.size) (T : SWK enc k w0 blk off dk W) (h1 : x + n ≤ y) (h2 : y + n ≤ dk.size) => swapRange_any ρ k L FS enc g cb blk off cap x y n d0 dk w0 W R (hs.trans hd) T h1 h2 (by omega))
  have eS : ∀ args W, (callFunc ρ.fs args).run P W = .ok (.enter ρ.fs args) W := FS.enters rfl
  obtain ⟨_, _, FG⟩ := FB
  have S0 : Aside (SWK enc k w0 blk off d w) := S
  have b62 : b < 4611686018427387904 := by omega
  clear S L FS
  obtain ⟨i0, hi0⟩ : ∃ i, i = m - a := ⟨_, rfl⟩
  obtain ⟨j0, hj0⟩ : ∃ j, j = b - m := ⟨_, rfl⟩
  rw [← hi0, ← hj0]
  have ei : (m : Int) - (a : Int) = (i0 : Int) := by omega
  have ej : (b : Int) - (m : Int) = (j0 : Int) := by omega
  have wi : IntKind.i64.wrap ((m : Int) - (a : Int)) = (i0 : Int) := by rw [ei, IntKind.wrap_i64]; omega
  have wj : IntKind.i64.wrap ((b : Int) - (m : Int)) = (j0 : Int) := by rw [ej, IntKind.wrap_i64]; omega
  have pi : 0 < i0 ∧ i0 ≤ m ∧ 0 < j0 ∧ m + j0 ≤ d.size := by omega
  have PI := Lib.hid pi
  clear pi hi0 hj0
  go_enter FG, rotB_ntmps ρ
  go_wp2_with fail
  clear ei ej wi wj
  go_loopg [10, 11] (i0 + j0) (fun kx s8 s9 wr => ∃ (i j : Nat) (dk : Array α), s8 = .int .i64 i ∧ s9 = .int .i64 j ∧ kx = i + j ∧ Aside ((0 < i ∧ i ≤ m ∧ 0 < j ∧ m + j ≤ d.size) ∧ dk.size = d.size ∧ SWK enc k w0 blk off dk wr ∧ ∀ d', Rot dk d' m i j → Rot d d' m i0 j0))
  case atStart => exact ⟨i0, j0, d, rfl, rfl, rfl, ⟨PI.out, rfl, S0.out, fun _ h => h⟩⟩
  case round =>
    clear S0
    obtain ⟨i, j, dk, rfl, rfl, hkx, S1⟩ := hrel
    obtain ⟨x, hx⟩ : ∃ x, x = m - i := ⟨_, rfl⟩
    have ex : (m : Int) - (i : Int) = (x : Int) := by have := S1.out.1; omega
    have wx : IntKind.i64.wrap ((m : Int) - (i : Int)) = (x : Int) := by rw [ex, IntKind.wrap_i64]; have := S1.out.1; omega
    have HX := Lib.hid hx
    have HK := Lib.hid hkx
    clear hx hkx
    by_cases hne : i = j
    · subst hne
      have CS := Lib.hid (SW.out x m i dk wr S1.out.2.1.symm S1.out.2.2.1 (by have := S1.out.1; have := HX.out; omega) (by have := S1.out.1; have := S1.out.2.1; omega))
      rw [S1.out.2.1] at CS
      have gd : ((i : Int) == (i : Int)) = true := beq_self_eq_true _
      have gd2 : ((i : Int) != (i : Int)) = false := bne_self_eq_false _
      go_wp2_with fail
      refine CS.out.mono ?_
      rintro e w2 ⟨rfl, T2⟩
      have T3 := Lib.hid T2
      clear T2 CS
      go_wp2_with fail
      go_end0
      refine ⟨rfl, _, S1.out.2.2.2 _ (rot_end dk m i (by have := S1.out.1; omega) (by have := S1.out.1; have := S1.out.2.1; omega)), ?_⟩
      rw [← HX.out]; exact T3.out
    · have gd : ((i : Int) == (j : Int)) = false := by rw [beq_eq_false_iff_ne]; omega
      have gd2 : ((i : Int) != (j : Int)) = true := by rw [bne_iff_ne]; omega
      by_cases hgt : j < i
      · have gg : decide ((i : Int) > (j : Int)) = true := decide_eq_true (by omega)
        have CS := Lib.hid (SW.out x m j dk wr S1.out.2.1.symm S1.out.2.2.1 (by have := S1.out.1; have := HX.out; omega) (by have := S1.out.1; have := S1.out.2.1; omega))
        rw [S1.out.2.1] at CS
        obtain ⟨i', hi'⟩ : ∃ i', i' = i - j := ⟨_, rfl⟩
        have e2 : (i : Int) - (j : Int) = (i' : Int) := by omega
        have w2' : IntKind.i64.wrap ((i : Int) - (j : Int)) = (i' : Int) := by rw [e2, IntKind.wrap_i64]; have := S1.out.1; omega
        have WI : Hid (wrap64 (i' : Int) = (i' : Int)) := Lib.hid (wrap_in (by omega) (by have := S1.out.1; omega))
        have HI := Lib.hid hi'
        have HG := Lib.hid hgt
        clear hi' hgt hne
        go_wp2_with fail
        refine CS.out.mono ?_
        rintro e w2 ⟨rfl, T2⟩
        have T3 := Lib.hid T2
        clear T2 CS
        go_wp2_with fail
        go_roundg (i' + j)
        case measure => have := HK.out; have := HI.out; have := S1.out.1; have := HG.out; omega
        case rel => exact ⟨i', j, _, by first | rfl | rw [WI.out], rfl, rfl, ⟨by have := S1.out.1; have := HI.out; have := HG.out; omega, by rw [swr_size]; exact S1.out.2.1, T3.out, fun d' h => S1.out.2.2.2 d' (rot_gt HG.out (by have := S1.out.1; omega) (by have := S1.out.1; have := S1.out.2.1; omega) (by rw [← HX.out, ← HI.out]; exact h))⟩⟩
      · have gg : decide ((i : Int) > (j : Int)) = false := decide_eq_false (by omega)
        obtain ⟨y, hy⟩ : ∃ y, y = m + j - i := ⟨_, rfl⟩
        have ey : (m : Int) + (j : Int) - (i : Int) = (y : Int) := by have := S1.out.1; omega
        have wmj : IntKind.i64.wrap ((m : Int) + (j : Int)) = (m : Int) + (j : Int) := by rw [IntKind.wrap_i64]; have := S1.out.1; omega
        have wy : IntKind.i64.wrap ((m : Int) + (j : Int) - (i : Int)) = (y : Int) := by rw [ey, IntKind.wrap_i64]; have := S1.out.1; omega
        have y62 : y < 4611686018427387904 := by have := S1.out.1; omega
        have WY : Hid (wrap64 (y : Int) = (y : Int)) := Lib.hid (wrap_in (by omega) (by omega))
        clear y62
        have hij : i < j := by omega
        have CS := Lib.hid (SW.out x y i dk wr S1.out.2.1.symm S1.out.2.2.1 (by have := S1.out.1; have := HX.out; omega) (by have := S1.out.1; have := S1.out.2.1; omega))
        rw [S1.out.2.1] at CS
        obtain ⟨j', hj'⟩ : ∃ j', j' = j - i := ⟨_, rfl⟩
        have e2 : (j : Int) - (i : Int) = (j' : Int) := by omega
        have w2' : IntKind.i64.wrap ((j : Int) - (i : Int)) = (j' : Int) := by rw [e2, IntKind.wrap_i64]; have := S1.out.1; omega
        have WJ : Hid (wrap64 (j' : Int) = (j' : Int)) := Lib.hid (wrap_in (by omega) (by have := S1.out.1; omega))
        have HJ := Lib.hid hj'
        have HG := Lib.hid hij
        have HY := Lib.hid hy
        clear hj' hgt hne hij hy
        go_wp2_with fail
        rw [WY.out]
        refine CS.out.mono ?_
        rintro e w2 ⟨rfl, T2⟩
        have T3 := Lib.hid T2
        clear T2 CS
        go_wp2_with fail
        go_roundg (i + j')
        case measure => have := HK.out; have := HJ.out; have := S1.out.1; have := HG.out; omega
        case rel => exact ⟨i, j', _, rfl, by first | rfl | rw [WJ.out], rfl, ⟨by have := S1.out.1; have := HJ.out; have := HG.out; omega, by rw [swr_size]; exact S1.out.2.1, T3.out, fun d' h => S1.out.2.2.2 d' (rot_lt HG.out (by have := S1.out.1; omega) (by have := S1.out.1; have := S1.out.2.1; omega) (by rw [← HX.out, ← HJ.out, ← HY.out]; exact h))⟩⟩
end Ss
end Go.Proofs.YtehgnbgbmicheaaGreatDoor
end S2

section S3
namespace Go.Proofs.YtehgnbgbmicheaaGreatDoor
open Go.Sort
namespace Ss
section
variable {α : Type}
/-- x stands ahead of y. -/
def Rx (lt : α → α → Bool) (t : α → Nat) (x y : α) : Prop := lt y x = false ∧ (lt x y = true ∨ t x < t y)
section
variable {lt : α → α → Bool} {t : α → Nat}
theorem rx_trans (hS : SWO lt) {x y z : α} (h1 : Rx lt t x y) (h2 : Rx lt t y z) : Rx lt t x z := by
  refine ⟨hS.ntrans _ _ _ h2.1 h1.1, ?_⟩
  cases e : lt x z with
  | true => exact Or.inl rfl
  | false =>
    right
    rcases h1.2 with h | h
    · rw [hS.ntrans _ _ _ e h2.1] at h; cases h
    · rcases h2.2 with g | g
      · rw [hS.ntrans _ _ _ h1.1 e] at g; cases g
      · omega
theorem rx_no {x y : α} (h : t x < t y) (hn : lt y x = false) : Rx lt t x y := ⟨hn, Or.inr h⟩
theorem rx_yes (hS : SWO lt) {x y : α} (h : lt x y = true) : Rx lt t x y := ⟨hS.asymmA h, Or.inl h⟩
end
end
variable {α : Type} [Inhabited α]
section
variable {lt : α → α → Bool} {t : α → Nat}
/-- Rising from a up to b. -/
def Rg (lt : α → α → Bool) (t : α → Nat) (a b : Nat) (d : Array α) : Prop := ∀ i j, a ≤ i → i < j → j < b → Rx lt t d[i]! d[j]!
theorem Rg.part {a b a' b' : Nat} {d : Array α} (h : Rg lt t a b d) (ha : a ≤ a') (hb : b' ≤ b) : Rg lt t a' b' d := fun i j h1 h2 h3 => h i j (by omega) h2 (by omega)
theorem Rg.one (a b : Nat) (d : Array α) (h : b ≤ a + 1) : Rg lt t a b d := fun i j h1 h2 h3 => by omega
theorem Rg.le (hS : SWO lt) {a b : Nat} {d : Array α} (h : Rg lt t a b d) {i j : Nat} (h1 : a ≤ i) (h2 : i ≤ j) (h3 : j < b) : lt d[j]! d[i]! = false := by
  by_cases e : i = j
  · subst e; exact hS.irrefl _
  · exact (h i j h1 (by omega) h3).1
theorem Rg.of {a b : Nat} {d d' : Array α} {o o' : Nat} (h : Rg lt t a b d) (e : ∀ x, a + o ≤ x → x < b + o → d'[x]! = d[x - o]!) (ho : o' = o) : Rg lt t (a + o') (b + o) d' := by
  subst ho
  intro i j h1 h2 h3
  rw [e i h1 (by omega), e j (by omega) h3]
  exact h _ _ (by omega) (by omega) (by omega)
/-- All of the left stands (by tags) ahead of all of the right. -/
def Lr (t : α → Nat) (a m b : Nat) (d : Array α) : Prop := ∀ i j, a ≤ i → i < m → m ≤ j → j < b → t d[i]! < t d[j]!
/-- One element going up. -/
def bub (d : Array α) (a : Nat) : Nat → Array α
  | 0 => d
  | n + 1 => swp (bub d a n) (a + n) (a + n + 1)
theorem bub_size (d : Array α) (a n : Nat) : (bub d a n).size = d.size := by
  induction n with
  | zero => rfl
  | succ n ih => rw [bub, swp_size, ih]
theorem bub_get (d : Array α) (a n : Nat) (h : a + n < d.size) (x : Nat) : (bub d a n)[x]! = if a ≤ x ∧ x < a + n then d[x + 1]! else if x = a + n then d[a]! else d[x]! := by
  induction n generalizing x with
  | zero =>
    rw [bub, if_neg (by omega)]
    by_cases e : x = a + 0
    · rw [if_pos e, e]; rfl
    · rw [if_neg e]
  | succ n ih =>
    have q := fun y => ih (by omega) y
    rw [bub, swp_get _ (by rw [bub_size]; omega) (by rw [bub_size]; omega)]
    by_cases h1 : x = a + n + 1
    · rw [if_pos h1, q, if_neg (by omega), if_pos rfl, if_neg (by omega), if_pos (by omega)]
    · rw [if_neg h1]
      by_cases h2 : x = a + n
      · rw [if_pos h2, q, if_neg (by omega), if_neg (by omega), if_pos (by omega)]
        congr 1; omega
      · rw [if_neg h2, q]
        by_cases h3 : a ≤ x ∧ x < a + n
        · rw [if_pos h3, if_pos (by omega)]
        · rw [if_neg h3, if_neg h2, if_neg (by omega), if_neg (by omega)]
theorem bub_perm (d : Array α) (a n x y : Nat) (hx : x ≤ a) (hy : a + n < y) (hb : y ≤ d.size) : PermIn x y d (bub d a n) := by
  induction n with
  | zero => exact permIn_refl d x y
  | succ n ih => exact permIn_trans _ _ _ _ _ (ih (by omega)) (swp_permIn _ x y _ _ (by omega) (by omega) (by omega) (by omega) (by rw [bub_size]; exact hb))
/-- One element going down. -/
def bud (d : Array α) (m : Nat) : Nat → Array α
  | 0 => d
  | n + 1 => swp (bud d m n) (m - n) (m - n - 1)
theorem bud_size (d : Array α) (m n : Nat) : (bud d m n).size = d.size := by
  induction n with
  | zero => rfl
  | succ n ih => rw [bud, swp_size, ih]
theorem bud_get (d : Array α) (m n : Nat) (hn : n ≤ m) (h : m < d.size) (x : Nat) : (bud d m n)[x]! = if m - n < x ∧ x ≤ m then d[x - 1]! else if x = m - n then d[m]! else d[x]! := by
  induction n generalizing x with
  | zero =>
    rw [bud, if_neg (by omega)]
    by_cases e : x = m - 0
    · rw [if_pos e, e]; rfl
    · rw [if_neg e]
  | succ n ih =>
    have q := fun y => ih (by omega) y
    rw [bud, swp_get _ (by rw [bud_size]; omega) (by rw [bud_size]; omega)]
    by_cases h1 : x = m - n - 1
    · rw [if_pos h1, q, if_neg (by omega), if_pos rfl, if_neg (by omega), if_pos (by omega)]
    · rw [if_neg h1]
      by_cases h2 : x = m - n
      · rw [if_pos h2, q, if_neg (by omega), if_neg (by omega), if_pos (by omega)]
        congr 1; omega
      · rw [if_neg h2, q]
        by_cases h3 : m - n < x ∧ x ≤ m
        · rw [if_pos h3, if_pos (by omega)]
        · rw [if_neg h3, if_neg h2, if_neg (by omega), if_neg (by omega)]
theorem bud_perm (d : Array α) (m n x y : Nat) (hx : x + n ≤ m) (hy : m < y) (hb : y ≤ d.size) : PermIn x y d (bud d m n) := by
  induction n with
  | zero => exact permIn_refl d x y
  | succ n ih => exact permIn_trans _ _ _ _ _ (ih (by omega)) (swp_permIn _ x y _ _ (by omega) (by omega) (by omega) (by omega) (by rw [bud_size]; exact hb))
/-- What merging leaves. -/
def Mg (lt : α → α → Bool) (t : α → Nat) (a b : Nat) (d d' : Array α) : Prop := PermIn a b d d' ∧ Rg lt t a b d'
/-- One element on the left. -/
theorem mg_left (hS : SWO lt) {a b i : Nat} {d : Array α} (hi : a + 1 ≤ i) (hib : i ≤ b) (hb : b ≤ d.size) (hR : Rg lt t (a + 1) b d) (hL : Lr t a (a + 1) b d) (hlo : ∀ h, a + 1 ≤ h → h < i → lt d[h]! d[a]! = true) (hhi : ∀ h, i ≤ h → h < b → lt d[h]! d[a]! = false) : Mg lt t a b d (bub d a (i - 1 - a)) := by
  have q := bub_get d a (i - 1 - a) (by omega)
  refine ⟨bub_perm d a _ a b (Nat.le_refl _) (by omega) hb, fun x y h1 h2 h3 => ?_⟩
  rw [q x, q y]
  by_cases ex : x < i - 1
  · rw [if_pos (by omega)]
    by_cases ey : y < i - 1
    · rw [if_pos (by omega)]; exact hR _ _ (by omega) (by omega) (by omega)
    · rw [if_neg (by omega)]
      by_cases ez : y = i - 1
      · rw [if_pos (by omega)]; exact rx_yes hS (hlo _ (by omega) (by omega))
      · rw [if_neg (by omega)]; exact hR _ _ (by omega) (by omega) (by omega)
  · rw [if_neg (show ¬ (a ≤ x ∧ x < a + (i - 1 - a)) by omega), if_neg (show ¬ (a ≤ y ∧ y < a + (i - 1 - a)) by omega), if_neg (show ¬ y = a + (i - 1 - a) by omega)]
    by_cases ez : x = i - 1
    · rw [if_pos (by omega)]; exact rx_no (hL a y (Nat.le_refl _) (by omega) (by omega) h3) (hhi y (by omega) h3)
    · rw [if_neg (by omega)]; exact hR _ _ (by omega) (by omega) (by omega)
/-- One element on the right. -/
theorem mg_right (hS : SWO lt) {a m i : Nat} {d : Array α} (hi : a ≤ i) (him : i ≤ m) (hb : m + 1 ≤ d.size) (hR : Rg lt t a m d) (hL : Lr t a m (m + 1) d) (hlo : ∀ h, a ≤ h → h < i → lt d[m]! d[h]! = false) (hhi : ∀ h, i ≤ h → h < m → lt d[m]! d[h]! = true) : Mg lt t a (m + 1) d (bud d m (m - i)) := by
  have q := bud_get d m (m - i) (by omega) (by omega)
  refine ⟨bud_perm d m _ a (m + 1) (by omega) (by omega) hb, fun x y h1 h2 h3 => ?_⟩
  rw [q x, q y]
  by_cases ey : i < y
  · rw [if_pos (show m - (m - i) < y ∧ y ≤ m by omega)]
    by_cases ex : i < x
    · rw [if_pos (by omega)]; exact hR _ _ (by omega) (by omega) (by omega)
    · rw [if_neg (by omega)]
      by_cases ez : x = i
      · rw [if_pos (by omega)]; exact rx_yes hS (hhi _ (by omega) (by omega))
      · rw [if_neg (by omega)]; exact hR _ _ (by omega) (by omega) (by omega)
  · rw [if_neg (show ¬ (m - (m - i) < x ∧ x ≤ m) by omega), if_neg (show ¬ (m - (m - i) < y ∧ y ≤ m) by omega), if_neg (show ¬ x = m - (m - i) by omega)]
    by_cases ez : y = i
    · rw [if_pos (by omega)]; exact rx_no (hL x m h1 (by omega) (Nat.le_refl _) (by omega)) (hlo x h1 (by omega))
    · rw [if_neg (by omega)]; exact hR _ _ (by omega) (by omega) (by omega)
/-- The left's searches: what is told at one place is told of all on its side. -/
theorem bs1_yes (hS : SWO lt) {a b h : Nat} {d : Array α} {v : α} (hR : Rg lt t a b d) (hh : h < b) (he : lt d[h]! v = true) (x : Nat) (h1 : a ≤ x) (h2 : x < h + 1) : lt d[x]! v = true := by
  cases e : lt d[x]! v with
  | true => rfl
  | false => rw [hS.ntrans _ _ _ (hR.le hS h1 (show x ≤ h by omega) hh) e] at he; cases he
theorem bs1_no (hS : SWO lt) {a b h : Nat} {d : Array α} {v : α} (hR : Rg lt t a b d) (ha : a ≤ h) (he : lt d[h]! v = false) (x : Nat) (h1 : h ≤ x) (h2 : x < b) : lt d[x]! v = false := hS.ntrans _ _ _ (hR.le hS ha h1 h2) he
theorem bs2_no (hS : SWO lt) {a m h : Nat} {d : Array α} {v : α} (hR : Rg lt t a m d) (hh : h < m) (he : lt v d[h]! = false) (x : Nat) (h1 : a ≤ x) (h2 : x < h + 1) : lt v d[x]! = false := hS.ntrans _ _ _ he (hR.le hS h1 (show x ≤ h by omega) hh)
theorem bs2_yes (hS : SWO lt) {a m h : Nat} {d : Array α} {v : α} (hR : Rg lt t a m d) (ha : a ≤ h) (he : lt v d[h]! = true) (x : Nat) (h1 : h ≤ x) (h2 : x < m) : lt v d[x]! = true := by
  cases e : lt v d[x]! with
  | true => rfl
  | false => rw [hS.ntrans _ _ _ e (hR.le hS ha h1 h2)] at he; cases he
theorem bs3_no (hS : SWO lt) {a m b p c : Nat} {d : Array α} (hA : Rg lt t a m d) (hB : Rg lt t m b d) (hc : c < m) (hp : m + c ≤ p) (he : lt d[p - c]! d[c]! = false) (x : Nat) (h1 : a ≤ x) (h2 : x < c + 1) (h3 : p - x < b) : lt d[p - x]! d[x]! = false :=
  hS.ntrans _ _ _ (hS.ntrans _ _ _ (hB.le hS (show m ≤ p - c by omega) (show p - c ≤ p - x by omega) h3) he) (hA.le hS h1 (show x ≤ c by omega) hc)
theorem bs3_yes (hS : SWO lt) {a m b p c : Nat} {d : Array α} (hA : Rg lt t a m d) (hB : Rg lt t m b d) (ha : a ≤ c) (hp : p - c < b) (he : lt d[p - c]! d[c]! = true) (x : Nat) (h1 : c ≤ x) (h2 : x < m) (h3 : m + x ≤ p) : lt d[p - x]! d[x]! = true := by
  cases e : lt d[p - x]! d[x]! with
  | true => rfl
  | false =>
    rw [hS.ntrans _ _ _ (hS.ntrans _ _ _ (hB.le hS (show m ≤ p - x by omega) (show p - x ≤ p - c by omega) hp) e) (hA.le hS ha h1 h2)] at he; cases he
theorem rot_none (d : Array α) (m i j : Nat) (h : i = 0 ∨ j = 0) : Rot d d m i j := by
  refine ⟨rfl, fun x => ?_, permIn_refl d _ _⟩
  by_cases h1 : m - i ≤ x ∧ x < m - i + j
  · rw [if_pos h1]
    obtain rfl : i = 0 := by omega
    rfl
  · rw [if_neg h1]
    by_cases h2 : m - i + j ≤ x ∧ x < m + j
    · rw [if_pos h2]
      obtain rfl : j = 0 := by omega
      rfl
    · rw [if_neg h2]
/-- Behind the search and the rotation: two halves, each of two rising parts, the left all ahead of the right. -/
structure Hv (lt : α → α → Bool) (t : α → Nat) (a st mid en b : Nat) (d d' : Array α) : Prop where
  perm : PermIn a b d d'
  r1 : Rg lt t a st d'
  r2 : Rg lt t st mid d'
  l1 : Lr t a st mid d'
  r3 : Rg lt t mid en d'
  r4 : Rg lt t en b d'
  l2 : Lr t mid en b d'
  across : ∀ i j, a ≤ i → i < mid → mid ≤ j → j < b → Rx lt t d'[i]! d'[j]!
theorem hv_of (hS : SWO lt) {a st m mid en b : Nat} {d d' : Array α} (h1 : a ≤ st) (h2 : st ≤ m) (h3 : m ≤ en) (h4 : en ≤ b) (he : st + en = mid + m) (hb : b ≤ d.size) (hA : Rg lt t a m d) (hB : Rg lt t m b d) (hL : Lr t a m b d)
    (hlo : a < st → en < b → lt d[en]! d[st - 1]! = false) (hhi : st < m → m < en → lt d[en - 1]! d[st]! = true) (hr : Rot d d' m (m - st) (en - m)) : Hv lt t a st mid en b d d' := by
  have g1 : ∀ x, x < st → d'[x]! = d[x]! := fun x hx => by rw [hr.get x, if_neg (by omega), if_neg (by omega)]
  have g2 : ∀ x, st ≤ x → x < mid → d'[x]! = d[x + (m - st)]! := fun x hx hy => by rw [hr.get x, if_pos (by omega)]
  have g3 : ∀ x, mid ≤ x → x < en → d'[x]! = d[x - (en - m)]! := fun x hx hy => by rw [hr.get x, if_neg (by omega), if_pos (by omega)]
  have g4 : ∀ x, en ≤ x → d'[x]! = d[x]! := fun x hx => by rw [hr.get x, if_neg (by omega), if_neg (by omega)]
  refine ⟨permIn_mono _ _ _ _ a b (by omega) (by omega) hb hr.perm, fun i j i1 i2 i3 => ?_, fun i j i1 i2 i3 => ?_, fun i j i1 i2 i3 i4 => ?_, fun i j i1 i2 i3 => ?_, fun i j i1 i2 i3 => ?_, fun i j i1 i2 i3 i4 => ?_, fun i j i1 i2 i3 i4 => ?_⟩
  · rw [g1 i (by omega), g1 j i3]; exact hA _ _ (by omega) (by omega) (by omega)
  · rw [g2 i i1 (by omega), g2 j (by omega) i3]; exact hB _ _ (by omega) (by omega) (by omega)
  · rw [g1 i i2, g2 j i3 i4]; exact hL _ _ (by omega) (by omega) (by omega) (by omega)
  · rw [g3 i i1 (by omega), g3 j (by omega) i3]; exact hA _ _ (by omega) (by omega) (by omega)
  · rw [g4 i i1, g4 j (by omega)]; exact hB _ _ (by omega) (by omega) (by omega)
  · rw [g3 i i1 i2, g4 j i3]; exact hL _ _ (by omega) (by omega) (by omega) (by omega)
  · by_cases c1 : i < st
    · rw [g1 i c1]
      by_cases c2 : j < en
      · rw [g3 j i3 c2]; exact hA _ _ i1 (by omega) (by omega)
      · rw [g4 j (by omega)]
        refine rx_no (hL _ _ i1 (by omega) (by omega) i4) ?_
        exact hS.ntrans _ _ _ (hS.ntrans _ _ _ (hB.le hS (show m ≤ en by omega) (show en ≤ j by omega) i4) (hlo (by omega) (by omega))) (hA.le hS i1 (show i ≤ st - 1 by omega) (by omega))
    · rw [g2 i (by omega) i2]
      by_cases c2 : j < en
      · rw [g3 j i3 c2]
        refine rx_yes hS ?_
        have k1 := hB.le hS (show m ≤ i + (m - st) by omega) (show i + (m - st) ≤ en - 1 by omega) (by omega)
        have k2 := hA.le hS (show a ≤ st by omega) (show st ≤ j - (en - m) by omega) (by omega)
        have k3 := hhi (by omega) (by omega)
        cases e : lt d[i + (m - st)]! d[j - (en - m)]! with
        | true => rfl
        | false => rw [hS.ntrans _ _ _ (hS.ntrans _ _ _ k1 e) k2] at k3; cases k3
      · rw [g4 j (by omega)]; exact hB _ _ (by omega) (by omega) i4
/-- Both halves merged: all is merged. -/
theorem mg_join {a st mid en b : Nat} {d d' d1 d2 : Array α} (hm : a ≤ mid) (hm2 : mid ≤ b) (hb : b ≤ d.size) (h : Hv lt t a st mid en b d d') (h1 : Mg lt t a mid d' d1) (h2 : Mg lt t mid b d1 d2) : Mg lt t a b d d2 := by
  have z' : d'.size = d.size := h.perm.1
  have z1 : d1.size = d'.size := h1.1.1
  refine ⟨permIn_trans _ _ _ _ _ h.perm (permIn_trans _ _ _ _ _ (permIn_mono _ _ _ _ a b (Nat.le_refl _) hm2 (by omega) h1.1) (permIn_mono _ _ _ _ a b hm (Nat.le_refl _) (by omega) h2.1)), fun i j i1 i2 i3 => ?_⟩
  have e1 : ∀ x, mid ≤ x → d1[x]! = d'[x]! := fun x hx => h1.1.2.1 x (Or.inr hx)
  have e2 : ∀ x, x < mid → d2[x]! = d1[x]! := fun x hx => h2.1.2.1 x (Or.inl hx)
  have k1 := permIn_all d' d1 a mid (fun e => ∀ y, mid ≤ y → y < b → Rx lt t e d'[y]!) (by omega) h1.1 (fun x hx hx2 y hy hy2 => h.across x y hx hx2 hy hy2)
  have k2 := permIn_all d1 d2 mid b (fun e => ∀ x, a ≤ x → x < mid → Rx lt t d1[x]! e) (by omega) h2.1 (fun y hy hy2 x hx hx2 => by rw [e1 y hy]; exact k1 x hx hx2 y hy hy2)
  by_cases c1 : i < mid
  · by_cases c2 : j < mid
    · rw [e2 i c1, e2 j c2]; exact h1.2 i j i1 i2 c2
    · rw [e2 i c1]; exact k2 j (by omega) i3 i i1 c1
  · exact h2.2 i j (by omega) i2 i3
theorem mg_same {a b : Nat} {d : Array α} (h : Rg lt t a b d) : Mg lt t a b d d := ⟨permIn_refl d a b, h⟩
/-- What the right half was told is not touched by the left's merge. -/
theorem Hv.right {a st mid en b : Nat} {d d' d1 : Array α} (h : Hv lt t a st mid en b d d') (hme : mid ≤ en) (h1 : Mg lt t a mid d' d1) : Rg lt t mid en d1 ∧ Rg lt t en b d1 ∧ Lr t mid en b d1 := by
  have e1 : ∀ x, mid ≤ x → d1[x]! = d'[x]! := fun x hx => h1.1.2.1 x (Or.inr hx)
  refine ⟨fun i j i1 i2 i3 => ?_, fun i j i1 i2 i3 => ?_, fun i j i1 i2 i3 i4 => ?_⟩
  · rw [e1 i i1, e1 j (by omega)]; exact h.r3 i j i1 i2 i3
  · rw [e1 i (by omega), e1 j (by omega)]; exact h.r4 i j i1 i2 i3
  · rw [e1 i i1, e1 j (by omega)]; exact h.l2 i j i1 i2 i3 i4
/-- The insertion sort's inner loop, with tags. -/
structure InX (lt : α → α → Bool) (t : α → Nat) (a j i : Nat) (d : Array α) : Prop where
  rest : ∀ p q, a ≤ p → p < q → q ≤ i → p ≠ j → q ≠ j → Rx lt t d[p]! d[q]!
  right : ∀ q, j < q → q ≤ i → lt d[j]! d[q]! = true
  tags : ∀ p, a ≤ p → p ≤ i → p ≠ j → t d[p]! < t d[j]!
theorem InX.stop (hS : SWO lt) {a j i : Nat} {d : Array α} (hji : j ≤ i) (h : InX lt t a j i d) (hs : j ≤ a ∨ lt d[j]! d[j - 1]! = false) : Rg lt t a (i + 1) d := by
  intro p q hap hpq hqi
  by_cases hq : q = j
  · subst hq
    rcases hs with hs | hs
    · omega
    · have k := rx_no (lt := lt) (h.tags (q - 1) (by omega) (by omega) (by omega)) hs
      by_cases hp : p = q - 1
      · subst hp; exact k
      · exact rx_trans hS (h.rest p (q - 1) hap (by omega) (by omega) (by omega) (by omega)) k
  · by_cases hp : p = j
    · subst hp; exact rx_yes hS (h.right q hpq (by omega))
    · exact h.rest p q hap hpq (by omega) hp hq
theorem InX.step {a j i : Nat} {d : Array α} (h : InX lt t a (j + 1) i d) (hl : lt d[j + 1]! d[j]! = true) (haj : a ≤ j) (hji : j + 1 ≤ i) (hsz : j + 1 < d.size) : InX lt t a j i (swp d (j + 1) j) := by
  have g := swp_get d hsz (show j < d.size by omega)
  refine ⟨fun p q hap hpq hqi hp hq => ?_, fun q hjq hqi => ?_, fun p hap hpi hp => ?_⟩
  · rw [g, g, if_neg hp, if_neg hq]
    by_cases hq1 : q = j + 1
    · rw [if_pos hq1, if_neg (show ¬ p = j + 1 by omega)]
      exact h.rest p j hap (by omega) (by omega) (by omega) (by omega)
    · rw [if_neg hq1]
      by_cases hp1 : p = j + 1
      · rw [if_pos hp1]; exact h.rest j q haj (by omega) hqi (by omega) hq1
      · rw [if_neg hp1]; exact h.rest p q hap hpq hqi hp1 hq1
  · rw [g, g, if_pos rfl, if_neg (show ¬ q = j by omega)]
    by_cases hq1 : q = j + 1
    · rw [if_pos hq1]; exact hl
    · rw [if_neg hq1]; exact h.right q (by omega) hqi
  · rw [g, g, if_pos rfl, if_neg hp]
    by_cases hp1 : p = j + 1
    · rw [if_pos hp1]; exact h.tags j haj (by omega) (by omega)
    · rw [if_neg hp1]; exact h.tags p hap hpi hp1
theorem inX_inner (hS : SWO lt) (a i : Nat) : ∀ (j : Nat) (d : Array α), a ≤ j → j ≤ i → i < d.size → InX lt t a j i d → PermIn a (i + 1) d (insInner lt a j d) ∧ Rg lt t a (i + 1) (insInner lt a j d)
  | 0, d, _, _, _, hI => by
    unfold insInner
    exact ⟨permIn_refl d a (i + 1), hI.stop hS (Nat.zero_le _) (Or.inl (Nat.zero_le _))⟩
  | j + 1, d, haj, hji, hb, hI => by
    unfold insInner
    split
    · rename_i hc
      simp only [Bool.and_eq_true, decide_eq_true_eq] at hc
      have ih := inX_inner hS a i j (swp d (j + 1) j) (by omega) (by omega) (by rw [swp_size]; exact hb) (hI.step hc.2 (by omega) hji (by omega))
      exact ⟨permIn_trans _ _ _ _ _ (swp_permIn d a (i + 1) (j + 1) j haj (by omega) (by omega) (by omega) hb) ih.1, ih.2⟩
    · rename_i hc
      simp only [Bool.and_eq_true, decide_eq_true_eq, not_and, Bool.not_eq_true] at hc
      refine ⟨permIn_refl d a (i + 1), hI.stop hS hji ?_⟩
      by_cases h : j + 1 > a
      · exact Or.inr (hc h)
      · exact Or.inl (by omega)
/-- The tags rise from i on, over all that lies ahead. -/
def Tg (t : α → Nat) (a i b : Nat) (d : Array α) : Prop := ∀ p q, a ≤ p → p < q → i ≤ q → q < b → t d[p]! < t d[q]!
theorem inX_outer (hS : SWO lt) (a b : Nat) : ∀ (n i : Nat) (d : Array α), b - i = n → a < i → i ≤ b → b ≤ d.size → Rg lt t a i d → Tg t a i b d → PermIn a b d (insOuter lt a b i d) ∧ Rg lt t a b (insOuter lt a b i d)
  | 0, i, d, hn, _, hib, _, hs, _ => by
    obtain rfl : i = b := by omega
    rw [insOuter, if_neg (by omega)]
    exact ⟨permIn_refl d a i, hs⟩
  | n + 1, i, d, hn, hai, hib, hb, hs, ht => by
    have hlt : i < b := by omega
    rw [insOuter, if_pos hlt]
    have h1 := inX_inner (t := t) hS a i i d (by omega) (Nat.le_refl _) (by omega) ⟨fun p q hap hpq hqi _ hq => hs p q hap hpq (by omega), fun q h1 h2 => by omega, fun p hap hpi hp => ht p i hap (by omega) (Nat.le_refl _) hlt⟩
    have ho : ∀ x, i + 1 ≤ x → (insInner lt a i d)[x]! = d[x]! := fun x hx => h1.1.2.1 x (Or.inr hx)
    have hq : Tg t a (i + 1) b (insInner lt a i d) := by
      intro p q hap hpq hiq hqb
      rw [ho q hiq]
      by_cases c : p < i + 1
      · exact permIn_all d _ a (i + 1) (fun e => t e < t d[q]!) (by omega) h1.1 (fun x hx hx2 => ht x q hx (by omega) (by omega) hqb) p hap c
      · rw [ho p (by omega)]; exact ht p q hap hpq (by omega) hqb
    have h2 := inX_outer hS a b n (i + 1) (insInner lt a i d) (by omega) (by omega) (by omega) (by rw [h1.1.1]; exact hb) h1.2 hq
    exact ⟨permIn_trans _ _ _ _ _ (permIn_mono _ _ _ _ a b (Nat.le_refl _) (by omega) hb h1.1) h2.1, h2.2⟩
/-- The insertion sort is stable. -/
theorem ins_rg (hS : SWO lt) {a b : Nat} {d : Array α} (hab : a ≤ b) (hb : b ≤ d.size) (ht : Tg t a a b d) : Mg lt t a b d (insertionSort lt d a b) := by
  unfold insertionSort
  by_cases h : a = b
  · subst h
    rw [insOuter, if_neg (by omega)]
    exact ⟨permIn_refl d a a, Rg.one _ _ _ (by omega)⟩
  · exact inX_outer hS a b (b - (a + 1)) (a + 1) d rfl (by omega) (by omega) hb (Rg.one _ _ _ (by omega)) (fun p q h1 h2 h3 h4 => ht p q h1 h2 (by omega) h4)
end
end Ss
end Go.Proofs.YtehgnbgbmicheaaGreatDoor
end S3

section S4
namespace Go.Proofs.YtehgnbgbmicheaaGreatDoor
open Go.Shelf Go.RowKit Go.Lib Go.Sort
namespace Ss
variable {P : Program} {α : Type} [Inhabited α]
theorem merB_ntmps (ρ : Nms) : (merB ρ).ntmps = 220 := rfl
set_option maxHeartbeats 4000000 in
set_option maxRecDepth 1000000 in
theorem mer_left (ρ : Nms) (k : Nat) (L : Ld P ρ k) (FB : Bears P ρ.fm (merB ρ)) (enc : α → List Value) (cf : α → α → Int) (t : α → Nat) (hS : SWO (ltOf cf)) (g : Nat) (cb : Array Value) (eg : ∀ args w, (callFunc g args).run P w = .ok (.enter g args) w) (blk off cap a b : Nat) (d0 d : Array α) (w0 w : World)
    (R : RowK enc k w0 blk off d0) (hs : d0.size = d.size) (hC : CmpLays P g cb enc k cf blk off d0.size w0) (S : SWK enc k w0 blk off d w) (hab : a + 1 ≤ b) (hb : b ≤ d.size) (hsz : d.size < 4611686018427387904) (hR : Rg (ltOf cf) t (a + 1) b d) (hL : Lr t a (a + 1) b d) :
    Calls P ρ.fm #[.slice (some ⟨blk, off, none⟩) d.size cap, .int .i64 a, .int .i64 (a + 1 : Nat), .int .i64 b, .func (.func g) #[] cb] w fun e w' => e = .returned (.tuple #[]) ∧ ∃ d', Mg (ltOf cf) t a b d d' ∧ SWK enc k w0 blk off d' w' := by
  have mixed := L.mixed; have t0 := L.t0; have a0 := L.a0; have z0 := L.z0; have v0 := L.v0; have t3 := L.t3; have a3 := L.a3; have z3 := L.z3; have v3 := L.v3; have t4 := L.t4; have a4 := L.a4; have z4 := L.z4; have v4 := L.v4; have t5 := L.t5; have a5 := L.a5; have z5 := L.z5; have v5 := L.v5; have t22 := L.t22; have a22 := L.a22; have z22 := L.z22; have v22 := L.v22; have t25 := L.t25; have a25 := L.a25; have z25 := L.z25; have v25 := L.v25
  have aE := L.aE; have zE := L.zE
  have u22 := run_underlying L.t22
  obtain ⟨_, _, FG⟩ := FB
  have S0 : Aside (SWK enc k w0 blk off d w) := S
  have HC : Aside (CmpLays P g cb enc k cf blk off d0.size w0) := hC
  have HO : Aside (SWO (ltOf cf) ∧ Rg (ltOf cf) t (a + 1) b d ∧ Lr t a (a + 1) b d) := ⟨hS, hR, hL⟩
  clear S hC hS hR hL
  have hm : IntKind.i64.wrap (((a + 1 : Nat) : Int) - (a : Int)) = 1 := by rw [IntKind.wrap_i64]; omega
  have hm2 : wrap64 (((a + 1 : Nat) : Int) - (a : Int)) = 1 := by unfold wrap64; omega
  obtain ⟨m, em⟩ : ∃ m, m = a + 1 := ⟨_, rfl⟩
  rw [← em] at hm hm2 ⊢
  have hm3 : (m : Int) - (a : Int) = 1 := by omega
  have hma : a < m ∧ m ≤ b := by omega
  have EM : Aside (m = a + 1) := em
  clear em hab
  go_enter FG, merB_ntmps ρ
  go_wp2
  clear hm hm2 hm3
  go_loopg [10, 11, 12] (b - m) (fun kx si sj sh wr => ∃ (i j : Nat), si = .int .i64 i ∧ sj = .int .i64 j ∧ (m ≤ i ∧ i ≤ j ∧ j ≤ b) ∧ kx = j - i ∧ Aside (SWK enc k w0 blk off d wr ∧ (∀ h, m ≤ h → h < i → ltOf cf d[h]! d[a]! = true) ∧ ∀ h, j ≤ h → h < b → ltOf cf d[h]! d[a]! = false))
  case atStart => exact ⟨m, b, rfl, rfl, ⟨by omega, by omega, by omega⟩, rfl, S0.out, fun h h1 h2 => by omega, fun h h1 h2 => by omega⟩
  case round =>
    clear S0
    obtain ⟨i, j, rfl, rfl, hij, hkx, S1⟩ := hrel
    by_cases hlt : i < j
    · have hlt' : (i : Int) < (j : Int) := by omega
      go_wp2_with fail
      obtain ⟨h, hh⟩ : ∃ h, h = (i + j) / 2 := ⟨_, rfl⟩
      have EH : ((i : Int) + (j : Int)) / 2 = (h : Int) := by omega
      rw [EH]
      have hb2 : i ≤ h ∧ h < j := by omega
      clear EH hh
      have bh : (h : Int) < (d.size : Int) := by omega
      have ba : (a : Int) < (d.size : Int) := by omega
      obtain ⟨xh, hxh⟩ : ∃ x, x = d[h]! := ⟨_, rfl⟩
      obtain ⟨xa, hxa⟩ : ∃ x, x = d[a]! := ⟨_, rfl⟩
      have lh := S1.out.1.ld R (by omega) P h (by omega)
      have la := S1.out.1.ld R (by omega) P a (by omega)
      rw [← hxh] at lh
      rw [← hxa] at la
      have hcg := S1.out.1.cmp HC.out (by omega) xh xa
      have S2 : Aside (∀ n os, SWK enc k w0 blk off d (grow (wr.drewN n) os)) := fun n os => S1.out.1.grown n os
      have S3 : Aside ((∀ h, m ≤ h → h < i → ltOf cf d[h]! d[a]! = true) ∧ ∀ h, j ≤ h → h < b → ltOf cf d[h]! d[a]! = false) := S1.out.2
      have HX : Aside (xh = d[h]! ∧ xa = d[a]!) := ⟨hxh, hxa⟩
      clear hxh hxa S1
      by_cases hlv : cf xh xa < 0
      · have hd : decide (cf xh xa < 0) = true := decide_eq_true hlv
        go_quiet_grown (first | (go_at_fn g; refine Calls.grown_of (hcg _ _)))
        have S4 : Aside (SWK enc k w0 blk off d (grow (wr.drewN nq) osq)) := S2.out nq osq
        clear lh la hcg S2
        generalize grow (wr.drewN nq) osq = wv at S4 ⊢
        clear nq osq
        go_wp2
        go_roundg (j - (h + 1))
        case measure => omega
        case rel => exact ⟨h + 1, j, by go_num, rfl, ⟨by omega, by omega, by omega⟩, rfl, S4.out, fun x h1 h2 => bs1_yes HO.out.1 (HO.out.2.1.part (show a + 1 ≤ m by have := EM.out; omega) (Nat.le_refl _)) (show h < b by omega) (by rw [← HX.out.1, ← HX.out.2]; exact hd) x h1 h2, S3.out.2⟩
      · have hd : decide (cf xh xa < 0) = false := decide_eq_false hlv
        go_quiet_grown (first | (go_at_fn g; refine Calls.grown_of (hcg _ _)))
        have S4 : Aside (SWK enc k w0 blk off d (grow (wr.drewN nq) osq)) := S2.out nq osq
        clear lh la hcg S2
        generalize grow (wr.drewN nq) osq = wv at S4 ⊢
        clear nq osq
        go_wp2
        go_roundg (h - i)
        case measure => omega
        case rel => exact ⟨i, h, rfl, rfl, ⟨by omega, by omega, by omega⟩, rfl, S4.out, S3.out.1, fun x h1 h2 => bs1_no HO.out.1 HO.out.2.1 (show a + 1 ≤ h by omega) (by rw [← HX.out.1, ← HX.out.2]; exact hd) x h1 h2⟩
    · obtain rfl : i = j := by omega
      have S5 : Aside (SWK enc k w0 blk off d wr) := S1.out.1
      have MG : Aside (Mg (ltOf cf) t a b d (bub d a (i - 1 - a))) := mg_left HO.out.1 (show a + 1 ≤ i by omega) hij.2.2 hb HO.out.2.1 HO.out.2.2 (fun h h1 h2 => S1.out.2.1 h (by have := EM.out; omega) h2) S1.out.2.2
      clear S1 HO HC
      obtain ⟨n, hn⟩ : ∃ n, n = i - 1 - a := ⟨_, rfl⟩
      obtain ⟨i', hi'⟩ : ∃ i', i = i' + 1 := ⟨i - 1, by omega⟩
      rw [← hn] at MG
      subst hi'
      go_wp2
      go_loopg [13] n (fun kx sy wr => ∃ (x y : Nat), sy = .int .i64 y ∧ y = a + x ∧ x ≤ n ∧ kx = n - x ∧ Aside (SWK enc k w0 blk off (bub d a x) wr))
      case atStart => exact ⟨0, a, rfl, rfl, Nat.zero_le _, rfl, S5.out⟩
      case round =>
        clear S5
        obtain ⟨x, y, rfl, hy, hxn, hkx2, S6⟩ := hrel
        by_cases hlt2 : x < n
        · have hlt3 : (y : Int) < (i' : Int) := by omega
          have hyd : y + 1 < d.size := by omega
          have HY : Aside (y = a + x) := hy
          clear hy
          obtain ⟨dk, hdk⟩ : ∃ dk, dk = bub d a x := ⟨_, rfl⟩
          have hds : dk.size = d.size := by rw [hdk, bub_size]
          rw [← hdk] at S6
          go_wp2_with fail
          have S7 : Aside (SWK enc k w0 blk off (swp dk y (y + 1)) ((wr.drew.setCells blk (off + y * k) (enc dk[y + 1]!)).setCells blk (off + (y + 1) * k) (enc dk[y]!))) := S6.out.swapped R y (y + 1) (by omega) (by omega)
          have ba : (y : Int) < (d.size : Int) := by omega
          have bc : (y : Int) + 1 < (d.size : Int) := by omega
          have pc : (0 : Int) ≤ (y : Int) + 1 := by omega
          have ec : ((y : Int) + 1).toNat = y + 1 := by omega
          have rc : IntKind.i64.wrap ((y : Int) + 1) = (y : Int) + 1 := by rw [IntKind.wrap_i64]; omega
          have l44a := S6.out.ld1 R (by omega) P y (by omega)
          have l44b := S6.out.ld1 R (by omega) P (y + 1) (by omega)
          have s44a := S6.out.st1 R (by omega) P y (by omega) dk[y + 1]!
          have s44b := S6.out.st2 R (by omega) P y (y + 1) (by omega) (by omega) dk[y + 1]! dk[y]!
          have n44a : (enc dk[y]!).length = k := R.hk _
          have n44b : (enc dk[y + 1]!).length = k := R.hk _
          generalize enc dk[y]! = cI44 at S7 l44a s44b n44a
          generalize enc dk[y + 1]! = cJ44 at S7 l44b s44a s44b n44b
          clear S6
          go_big_region_o
          clear l44a l44b s44a s44b
          generalize (wr.drew.setCells blk (off + y * k) cJ44).setCells blk (off + (y + 1) * k) cI44 = w2 at S7 ⊢
          have E2 : Aside (swp dk y (y + 1) = bub d a (x + 1)) := (show _ = _ by rw [hdk, HY.out]; rfl)
          clear hdk
          go_wp2
          go_roundg (n - (x + 1))
          case measure => omega
          case rel => exact ⟨x + 1, y + 1, by go_num, by have := HY.out; omega, by omega, rfl, (show SWK enc k w0 blk off _ _ from by have q := S7.out; rw [E2.out] at q; exact q)⟩
        · obtain rfl : x = n := by omega
          have hlt3 : ¬ (y : Int) < (i' : Int) := by omega
          go_wp2
          refine bodyPost_ret (results_none rfl _ _ _) rfl ?_
          exact ⟨rfl, _, MG.out, S6.out⟩
end Ss
end Go.Proofs.YtehgnbgbmicheaaGreatDoor
end S4

section S5
namespace Go.Proofs.YtehgnbgbmicheaaGreatDoor
open Go.Shelf Go.RowKit Go.Lib Go.Sort
namespace Ss
variable {P : Program} {α : Type} [Inhabited α]
set_option maxHeartbeats 4000000 in
set_option maxRecDepth 1000000 in
theorem mer_right (ρ : Nms) (k : Nat) (L : Ld P ρ k) (FB : Bears P ρ.fm (merB ρ)) (enc : α → List Value) (cf : α → α → Int) (t : α → Nat) (hS : SWO (ltOf cf)) (g : Nat) (cb : Array Value) (eg : ∀ args w, (callFunc g args).run P w = .ok (.enter g args) w) (blk off cap a m : Nat) (d0 d : Array α) (w0 w : World)
    (R : RowK enc k w0 blk off d0) (hs : d0.size = d.size) (hC : CmpLays P g cb enc k cf blk off d0.size w0) (S : SWK enc k w0 blk off d w) (hab : a + 1 < m) (hb : m + 1 ≤ d.size) (hsz : d.size < 4611686018427387904) (hR : Rg (ltOf cf) t a m d) (hL : Lr t a m (m + 1) d) :
    Calls P ρ.fm #[.slice (some ⟨blk, off, none⟩) d.size cap, .int .i64 a, .int .i64 m, .int .i64 (m + 1 : Nat), .func (.func g) #[] cb] w fun e w' => e = .returned (.tuple #[]) ∧ ∃ d', Mg (ltOf cf) t a (m + 1) d d' ∧ SWK enc k w0 blk off d' w' := by
  have mixed := L.mixed; have t0 := L.t0; have a0 := L.a0; have z0 := L.z0; have v0 := L.v0; have t3 := L.t3; have a3 := L.a3; have z3 := L.z3; have v3 := L.v3; have t4 := L.t4; have a4 := L.a4; have z4 := L.z4; have v4 := L.v4; have t5 := L.t5; have a5 := L.a5; have z5 := L.z5; have v5 := L.v5; have t22 := L.t22; have a22 := L.a22; have z22 := L.z22; have v22 := L.v22; have t25 := L.t25; have a25 := L.a25; have z25 := L.z25; have v25 := L.v25
  have aE := L.aE; have zE := L.zE
  have u22 := run_underlying L.t22
  obtain ⟨_, _, FG⟩ := FB
  have S0 : Aside (SWK enc k w0 blk off d w) := S
  have HC : Aside (CmpLays P g cb enc k cf blk off d0.size w0) := hC
  have HO : Aside (SWO (ltOf cf) ∧ Rg (ltOf cf) t a m d ∧ Lr t a m (m + 1) d) := ⟨hS, hR, hL⟩
  clear S hC hS hR hL
  have hm : IntKind.i64.wrap (((m + 1 : Nat) : Int) - (m : Int)) = 1 := by rw [IntKind.wrap_i64]; omega
  have hm2 : wrap64 (((m + 1 : Nat) : Int) - (m : Int)) = 1 := by unfold wrap64; omega
  have hn1 : ¬ (m : Int) - (a : Int) = 1 := by omega
  have hn2 : ((m : Int) - (a : Int) == 1) = false := by simp; omega
  obtain ⟨b, em⟩ : ∃ b, b = m + 1 := ⟨_, rfl⟩
  rw [← em] at hm hm2
  rw [show (.int .i64 ((m + 1 : Nat) : Int) : Value) = .int .i64 (b : Int) by rw [em]]
  have hm3 : (b : Int) - (m : Int) = 1 := by omega
  have hma : a < m ∧ m < b ∧ b ≤ d.size := by omega
  have EM : Aside (b = m + 1) := em
  clear em hab
  go_enter FG, merB_ntmps ρ
  go_wp2
  clear hm hm2 hm3 hn1 hn2
  go_loopg [14, 15, 16] (m - a) (fun kx si sj sh wr => ∃ (i j : Nat), si = .int .i64 i ∧ sj = .int .i64 j ∧ (a ≤ i ∧ i ≤ j ∧ j ≤ m) ∧ kx = j - i ∧ Aside (SWK enc k w0 blk off d wr ∧ (∀ h, a ≤ h → h < i → ltOf cf d[m]! d[h]! = false) ∧ ∀ h, j ≤ h → h < m → ltOf cf d[m]! d[h]! = true))
  case atStart => exact ⟨a, m, rfl, rfl, ⟨by omega, by omega, by omega⟩, rfl, S0.out, fun h h1 h2 => by omega, fun h h1 h2 => by omega⟩
  case round =>
    clear S0
    obtain ⟨i, j, rfl, rfl, hij, hkx, S1⟩ := hrel
    by_cases hlt : i < j
    · have hlt' : (i : Int) < (j : Int) := by omega
      go_wp2_with fail
      obtain ⟨h, hh⟩ : ∃ h, h = (i + j) / 2 := ⟨_, rfl⟩
      have EH : ((i : Int) + (j : Int)) / 2 = (h : Int) := by omega
      rw [EH]
      have hb2 : i ≤ h ∧ h < j := by omega
      clear EH hh
      have bh : (h : Int) < (d.size : Int) := by omega
      have ba : (m : Int) < (d.size : Int) := by omega
      obtain ⟨xh, hxh⟩ : ∃ x, x = d[h]! := ⟨_, rfl⟩
      obtain ⟨xa, hxa⟩ : ∃ x, x = d[m]! := ⟨_, rfl⟩
      have lh := S1.out.1.ld R (by omega) P h (by omega)
      have la := S1.out.1.ld R (by omega) P m (by omega)
      rw [← hxh] at lh
      rw [← hxa] at la
      have hcg := S1.out.1.cmp HC.out (by omega) xa xh
      have S2 : Aside (∀ n os, SWK enc k w0 blk off d (grow (wr.drewN n) os)) := fun n os => S1.out.1.grown n os
      have S3 : Aside ((∀ h, a ≤ h → h < i → ltOf cf d[m]! d[h]! = false) ∧ ∀ h, j ≤ h → h < m → ltOf cf d[m]! d[h]! = true) := S1.out.2
      have HX : Aside (xh = d[h]! ∧ xa = d[m]!) := ⟨hxh, hxa⟩
      clear hxh hxa S1
      by_cases hlv : cf xa xh < 0
      · have hd : decide (cf xa xh < 0) = true := decide_eq_true hlv
        go_quiet_grown (first | (go_at_fn g; refine Calls.grown_of (hcg _ _)))
        have S4 : Aside (SWK enc k w0 blk off d (grow (wr.drewN nq) osq)) := S2.out nq osq
        clear lh la hcg S2
        generalize grow (wr.drewN nq) osq = wv at S4 ⊢
        clear nq osq
        go_wp2
        go_roundg (h - i)
        case measure => omega
        case rel => exact ⟨i, h, rfl, rfl, ⟨by omega, by omega, by omega⟩, rfl, S4.out, S3.out.1, fun x h1 h2 => bs2_yes HO.out.1 HO.out.2.1 (show a ≤ h by omega) (by rw [← HX.out.1, ← HX.out.2]; exact hd) x h1 h2⟩
      · have hd : decide (cf xa xh < 0) = false := decide_eq_false hlv
        go_quiet_grown (first | (go_at_fn g; refine Calls.grown_of (hcg _ _)))
        have S4 : Aside (SWK enc k w0 blk off d (grow (wr.drewN nq) osq)) := S2.out nq osq
        clear lh la hcg S2
        generalize grow (wr.drewN nq) osq = wv at S4 ⊢
        clear nq osq
        go_wp2
        go_roundg (j - (h + 1))
        case measure => omega
        case rel => exact ⟨h + 1, j, by go_num, rfl, ⟨by omega, by omega, by omega⟩, rfl, S4.out, fun x h1 h2 => bs2_no HO.out.1 HO.out.2.1 (show h < m by omega) (by rw [← HX.out.1, ← HX.out.2]; exact hd) x h1 h2, S3.out.2⟩
    · obtain rfl : i = j := by omega
      have S5 : Aside (SWK enc k w0 blk off d wr) := S1.out.1
      have MG : Aside (Mg (ltOf cf) t a (m + 1) d (bud d m (m - i))) := mg_right HO.out.1 hij.1 hij.2.2 hb HO.out.2.1 HO.out.2.2 S1.out.2.1 S1.out.2.2
      clear S1 HO HC
      obtain ⟨n, hn⟩ : ∃ n, n = m - i := ⟨_, rfl⟩
      rw [← hn] at MG
      go_wp2
      go_loopg [17] n (fun kx sy wr => ∃ (x y : Nat), sy = .int .i64 y ∧ y = m - x ∧ x ≤ n ∧ kx = n - x ∧ Aside (SWK enc k w0 blk off (bud d m x) wr))
      case atStart => exact ⟨0, m, rfl, rfl, Nat.zero_le _, rfl, S5.out⟩
      case round =>
        clear S5
        obtain ⟨x, y, rfl, hy, hxn, hkx2, S6⟩ := hrel
        by_cases hlt2 : x < n
        · obtain ⟨z, rfl⟩ : ∃ z, y = z + 1 := ⟨y - 1, by omega⟩
          have hlt3 : (i : Int) < (z : Int) + 1 := by omega
          have hyd : z + 1 < d.size := by omega
          have HY : Aside (z + 1 = m - x) := hy
          clear hy
          obtain ⟨dk, hdk⟩ : ∃ dk, dk = bud d m x := ⟨_, rfl⟩
          have hds : dk.size = d.size := by rw [hdk, bud_size]
          rw [← hdk] at S6
          go_wp2_with fail
          have S7 : Aside (SWK enc k w0 blk off (swp dk (z + 1) z) ((wr.drew.setCells blk (off + (z + 1) * k) (enc dk[z]!)).setCells blk (off + z * k) (enc dk[z + 1]!))) := S6.out.swapped R (z + 1) z (by omega) (by omega)
          have ba : (z : Int) < (d.size : Int) := by omega
          have bc : (z : Int) + 1 < (d.size : Int) := by omega
          have pc : (0 : Int) ≤ (z : Int) + 1 := by omega
          have ec : ((z : Int) + 1).toNat = z + 1 := by omega
          have rc : IntKind.i64.wrap (z : Int) = (z : Int) := by rw [IntKind.wrap_i64]; omega
          have l44a := S6.out.ld1 R (by omega) P (z + 1) (by omega)
          have l44b := S6.out.ld1 R (by omega) P z (by omega)
          have s44a := S6.out.st1 R (by omega) P (z + 1) (by omega) dk[z]!
          have s44b := S6.out.st2 R (by omega) P (z + 1) z (by omega) (by omega) dk[z]! dk[z + 1]!
          have n44a : (enc dk[z + 1]!).length = k := R.hk _
          have n44b : (enc dk[z]!).length = k := R.hk _
          generalize enc dk[z + 1]! = cI44 at S7 l44a s44b n44a
          generalize enc dk[z]! = cJ44 at S7 l44b s44a s44b n44b
          clear S6
          go_big_region_o
          clear l44a l44b s44a s44b
          generalize (wr.drew.setCells blk (off + (z + 1) * k) cJ44).setCells blk (off + z * k) cI44 = w2 at S7 ⊢
          have E2 : Aside (swp dk (z + 1) z = bud d m (x + 1)) := (show _ = _ by rw [hdk, bud, ← HY.out]; rfl)
          clear hdk
          go_wp2
          go_roundg (n - (x + 1))
          case measure => omega
          case rel => exact ⟨x + 1, z, by first | rfl | go_num, by have := HY.out; omega, by omega, rfl, (show SWK enc k w0 blk off _ _ from by have q := S7.out; rw [E2.out] at q; exact q)⟩
        · obtain rfl : x = n := by omega
          have hlt3 : ¬ (i : Int) < (y : Int) := by omega
          go_wp2
          refine bodyPost_ret (results_none rfl _ _ _) rfl ?_
          exact ⟨rfl, _, MG.out, S6.out⟩
end Ss
end Go.Proofs.YtehgnbgbmicheaaGreatDoor
end S5

section S6
namespace Go.Proofs.YtehgnbgbmicheaaGreatDoor
open Go.Shelf Go.RowKit Go.Lib Go.Sort
namespace Ss
variable {P : Program} {α : Type} [Inhabited α]
/-- What a merge of [a, m) and [m, b) is asked. -/
def MerC (P : Program) (ρ : Nms) (enc : α → List Value) (k : Nat) (cf : α → α → Int) (t : α → Nat) (g : Nat) (cb : Array Value) (blk off cap : Nat) (w0 : World) (n0 a m b : Nat) : Prop :=
  ∀ (d : Array α) (w : World), d.size = n0 → SWK enc k w0 blk off d w → Rg (ltOf cf) t a m d → Rg (ltOf cf) t m b d → Lr t a m b d →
    Calls P ρ.fm #[.slice (some ⟨blk, off, none⟩) n0 cap, .int .i64 a, .int .i64 m, .int .i64 b, .func (.func g) #[] cb] w fun e w' => e = .returned (.tuple #[]) ∧ ∃ d', Mg (ltOf cf) t a b d d' ∧ SWK enc k w0 blk off d' w'
end Ss
end Go.Proofs.YtehgnbgbmicheaaGreatDoor
end S6

section S7
namespace Go.Proofs.YtehgnbgbmicheaaGreatDoor
open Go.Sort
namespace Ss
variable {α : Type} [Inhabited α] {lt : α → α → Bool} {t : α → Nat}
/-- A block's border. -/
def Mul (s q : Nat) : Prop := ∃ c, q = c * s
theorem Mul.zero (s : Nat) : Mul s 0 := ⟨0, by omega⟩
theorem Mul.next {s q : Nat} (h : Mul s q) : Mul s (q + s) := by obtain ⟨c, rfl⟩ := h; exact ⟨c + 1, by rw [Nat.add_mul, Nat.one_mul]⟩
theorem Mul.twice {s q : Nat} (h : Mul (2 * s) q) : Mul s q := by obtain ⟨c, rfl⟩ := h; exact ⟨c * 2, by rw [Nat.mul_assoc]⟩
theorem Mul.gap {s a q : Nat} (ha : Mul s a) (hq : Mul s q) : q ≤ a ∨ a + s ≤ q := by
  obtain ⟨c, rfl⟩ := ha
  obtain ⟨e, rfl⟩ := hq
  by_cases h : e ≤ c
  · exact Or.inl (Nat.mul_le_mul_right s h)
  · right
    have := Nat.mul_le_mul_right s (show c + 1 ≤ e by omega)
    rw [Nat.add_mul, Nat.one_mul] at this
    exact this
/-- The tags to the left of q are below those to its right. -/
def Oq (t : α → Nat) (n q : Nat) (d : Array α) : Prop := ∀ i j, i < q → q ≤ j → j < n → t d[i]! < t d[j]!
theorem Oq.perm {n q a b : Nat} {d d' : Array α} (h : Oq t n q d) (hp : PermIn a b d d') (hb : b ≤ n) (hn : n ≤ d.size) (hq : q ≤ a ∨ b ≤ q) : Oq t n q d' := by
  intro i j h1 h2 h3
  rcases hq with hq | hq
  · rw [hp.2.1 i (Or.inl (by omega))]
    by_cases c : a ≤ j ∧ j < b
    · exact permIn_all d d' a b (fun e => t d[i]! < t e) (by omega) hp (fun x hx hx2 => h i x h1 (by omega) (by omega)) j c.1 c.2
    · rw [hp.2.1 j (by omega)]; exact h i j h1 h2 h3
  · rw [hp.2.1 j (Or.inr (by omega))]
    by_cases c : a ≤ i ∧ i < b
    · exact permIn_all d d' a b (fun e => t e < t d[j]!) (by omega) hp (fun x hx hx2 => h x j (by omega) h2 h3) i c.1 c.2
    · rw [hp.2.1 i (by omega)]; exact h i j h1 h2 h3
/-- What stands in one block rises. -/
def Sb (lt : α → α → Bool) (t : α → Nat) (s x y : Nat) (d : Array α) : Prop := ∀ i j, x ≤ i → i < j → j < y → (∀ q, Mul s q → q ≤ i ∨ j < q) → Rx lt t d[i]! d[j]!
theorem Sb.rg {s a x y n : Nat} {d : Array α} (h : Sb lt t s x n d) (ha : Mul s a) (hx : x ≤ a) (hy : y ≤ n) (hs : y ≤ a + s) : Rg lt t a y d := fun i j h1 h2 h3 => h i j (by omega) h2 (by omega) (fun q hq => by rcases ha.gap hq with g | g <;> omega)
/-- The state between two rounds: all blocks of s. -/
structure Bl (lt : α → α → Bool) (t : α → Nat) (s n : Nat) (d0 d : Array α) : Prop where
  perm : PermIn 0 n d0 d
  ord : ∀ q, Mul s q → Oq t n q d
  srt : Sb lt t s 0 n d
/-- The insertion's state: blocks up to a are done, the rest is as it was. -/
structure Bi (lt : α → α → Bool) (t : α → Nat) (s n a : Nat) (d0 d : Array α) : Prop where
  perm : PermIn 0 n d0 d
  ord : ∀ q, Mul s q → Oq t n q d
  srt : Sb lt t s 0 a d
  rest : ∀ x, a ≤ x → d[x]! = d0[x]!
  mul : Mul s a
theorem Bi.start (s n : Nat) (d0 : Array α) (h0 : ∀ i j, i < j → j < n → t d0[i]! < t d0[j]!) : Bi lt t s n 0 d0 d0 :=
  ⟨permIn_refl d0 0 n, fun q _ i j h1 h2 h3 => h0 i j (by omega) h3, fun i j h1 h2 h3 => by omega, fun _ _ => rfl, Mul.zero s⟩
theorem Bi.tg {s n a b : Nat} {d0 d : Array α} (h : Bi lt t s n a d0 d) (h0 : ∀ i j, i < j → j < n → t d0[i]! < t d0[j]!) (hb : b ≤ n) : Tg t a a b d := fun p q h1 h2 h3 h4 => by
  rw [h.rest p h1, h.rest q (by omega)]; exact h0 p q h2 (by omega)
theorem Bi.put {s n a b : Nat} {d0 d d' : Array α} (h : Bi lt t s n a d0 d) (hm : Mg lt t a b d d') (hab : a ≤ b) (hb : b ≤ n) (hn : n ≤ d.size) (hq : ∀ q, Mul s q → q ≤ a ∨ b ≤ q ∨ n ≤ q) :
    PermIn 0 n d0 d' ∧ (∀ q, Mul s q → Oq t n q d') ∧ Sb lt t s 0 b d' ∧ ∀ x, b ≤ x → d'[x]! = d0[x]! := by
  refine ⟨permIn_trans _ _ _ _ _ h.perm (permIn_mono _ _ _ _ 0 n (Nat.zero_le _) hb hn hm.1), fun q mq => ?_, fun i j h1 h2 h3 h4 => ?_, fun x hx => ?_⟩
  · rcases hq q mq with g | g | g
    · exact (h.ord q mq).perm hm.1 hb hn (Or.inl g)
    · exact (h.ord q mq).perm hm.1 hb hn (Or.inr g)
    · exact fun i j h1 h2 h3 => by omega
  · by_cases c : j < a
    · rw [hm.1.2.1 i (Or.inl (by omega)), hm.1.2.1 j (Or.inl c)]; exact h.srt i j h1 h2 c h4
    · rcases h4 a h.mul with g | g
      · exact hm.2 i j g h2 h3
      · omega
  · rw [hm.1.2.1 x (Or.inr hx)]; exact h.rest x (by omega)
theorem Bi.round {s n a : Nat} {d0 d d' : Array α} (h : Bi lt t s n a d0 d) (hm : Mg lt t a (a + s) d d') (hb : a + s ≤ n) (hn : n ≤ d.size) : Bi lt t s n (a + s) d0 d' := by
  have q := h.put hm (by omega) hb hn (fun q mq => by rcases h.mul.gap mq with g | g <;> omega)
  exact ⟨q.1, q.2.1, q.2.2.1, q.2.2.2, h.mul.next⟩
theorem Bi.last {s n a : Nat} {d0 d d' : Array α} (h : Bi lt t s n a d0 d) (hm : Mg lt t a n d d') (han : a ≤ n) (hb : n ≤ a + s) (hn : n ≤ d.size) : Bl lt t s n d0 d' := by
  have q := h.put hm han (Nat.le_refl _) hn (fun q mq => by rcases h.mul.gap mq with g | g <;> omega)
  exact ⟨q.1, q.2.1, q.2.2.1⟩
/-- The merge's state: up to a blocks of 2s, behind it blocks of s. -/
structure Bm (lt : α → α → Bool) (t : α → Nat) (s n a : Nat) (d0 d : Array α) : Prop where
  perm : PermIn 0 n d0 d
  ord2 : ∀ q, Mul (2 * s) q → Oq t n q d
  ord1 : ∀ q, Mul s q → a ≤ q → Oq t n q d
  left : Sb lt t (2 * s) 0 a d
  right : Sb lt t s a n d
  mul : Mul (2 * s) a
theorem Bm.start {s n : Nat} {d0 d : Array α} (h : Bl lt t s n d0 d) : Bm lt t s n 0 d0 d :=
  ⟨h.perm, fun q hq => h.ord q hq.twice, fun q hq _ => h.ord q hq, fun i j h1 h2 h3 => by omega, h.srt, Mul.zero _⟩
theorem Bm.asks {s n a b : Nat} {d0 d : Array α} (h : Bm lt t s n a d0 d) (hm : a + s < b) (hb : b ≤ n) (hb2 : b ≤ a + 2 * s) : Rg lt t a (a + s) d ∧ Rg lt t (a + s) b d ∧ Lr t a (a + s) b d :=
  ⟨h.right.rg h.mul.twice (Nat.le_refl _) (by omega) (Nat.le_refl _), h.right.rg h.mul.twice.next (by omega) hb (by omega), fun i j h1 h2 h3 h4 => h.ord1 _ h.mul.twice.next (by omega) i j h2 h3 (by omega)⟩
theorem Bm.put {s n a b : Nat} {d0 d d' : Array α} (h : Bm lt t s n a d0 d) (hm : Mg lt t a b d d') (hab : a ≤ b) (hb : b ≤ n) (hn : n ≤ d.size) (hq : ∀ q, Mul (2 * s) q → q ≤ a ∨ b ≤ q ∨ n ≤ q) :
    PermIn 0 n d0 d' ∧ (∀ q, Mul (2 * s) q → Oq t n q d') ∧ (∀ q, Mul s q → b ≤ q → Oq t n q d') ∧ Sb lt t (2 * s) 0 b d' ∧ Sb lt t s b n d' := by
  refine ⟨permIn_trans _ _ _ _ _ h.perm (permIn_mono _ _ _ _ 0 n (Nat.zero_le _) hb hn hm.1), fun q mq => ?_, fun q mq hbq => (h.ord1 q mq (by omega)).perm hm.1 hb hn (Or.inr hbq), fun i j h1 h2 h3 h4 => ?_, fun i j h1 h2 h3 h4 => ?_⟩
  · rcases hq q mq with g | g | g
    · exact (h.ord2 q mq).perm hm.1 hb hn (Or.inl g)
    · exact (h.ord2 q mq).perm hm.1 hb hn (Or.inr g)
    · exact fun i j h1 h2 h3 => by omega
  · by_cases c : j < a
    · rw [hm.1.2.1 i (Or.inl (by omega)), hm.1.2.1 j (Or.inl c)]; exact h.left i j h1 h2 c h4
    · rcases h4 a h.mul with g | g
      · exact hm.2 i j g h2 h3
      · omega
  · rw [hm.1.2.1 i (Or.inr h1), hm.1.2.1 j (Or.inr (by omega))]; exact h.right i j (by omega) h2 h3 h4
theorem Bm.round {s n a : Nat} {d0 d d' : Array α} (h : Bm lt t s n a d0 d) (hm : Mg lt t a (a + 2 * s) d d') (hb : a + 2 * s ≤ n) (hn : n ≤ d.size) : Bm lt t s n (a + 2 * s) d0 d' := by
  have q := h.put hm (by omega) hb hn (fun q mq => by rcases h.mul.gap mq with g | g <;> omega)
  exact ⟨q.1, q.2.1, q.2.2.1, q.2.2.2.1, q.2.2.2.2, h.mul.next⟩
theorem Bm.last {s n a : Nat} {d0 d d' : Array α} (h : Bm lt t s n a d0 d) (hm : Mg lt t a n d d') (han : a ≤ n) (hb : n < a + 2 * s) (hn : n ≤ d.size) : Bl lt t (2 * s) n d0 d' := by
  have q := h.put hm han (Nat.le_refl _) hn (fun q mq => by rcases h.mul.gap mq with g | g <;> omega)
  exact ⟨q.1, q.2.1, q.2.2.2.1⟩
theorem Bm.none {s n a : Nat} {d0 d : Array α} (h : Bm lt t s n a d0 d) (h0 : 0 < s) (han : a ≤ n) (hb : n ≤ a + s) (hn : n ≤ d.size) : Bl lt t (2 * s) n d0 d :=
  h.last (mg_same (h.right.rg h.mul.twice (Nat.le_refl _) (Nat.le_refl _) hb)) han (by omega) hn
theorem Bl.done {s n : Nat} {d0 d : Array α} (h : Bl lt t s n d0 d) (hs : n ≤ s) : Mg lt t 0 n d0 d := ⟨h.perm, h.srt.rg (Mul.zero s) (Nat.le_refl _) (Nat.le_refl _) (by omega)⟩
end Ss
end Go.Proofs.YtehgnbgbmicheaaGreatDoor
end S7

section S8
namespace Go.Proofs.YtehgnbgbmicheaaGreatDoor
open Go.Shelf Go.RowKit Go.Lib Go.Sort
namespace Ss
variable {P : Program} {α : Type} [Inhabited α]
theorem staB_ntmps (ρ : Nms) : (staB ρ).ntmps = 63 := rfl
set_option maxHeartbeats 4000000 in
set_option maxRecDepth 1000000 in
theorem stable_any (ρ : Nms) (ft : FuncId) (k : Nat) (L : Ld P ρ k) (FT : Bears P ft (staB ρ)) (enc : α → List Value) (cf : α → α → Int) (t : α → Nat) (hS : SWO (ltOf cf)) (g : Nat) (cb : Array Value) (blk off cap n : Nat) (d0 : Array α) (w0 : World)
    (hs : d0.size = n) (hsz : n < 1152921504606846976) (h0 : ∀ i j, i < j → j < n → t d0[i]! < t d0[j]!)
    (ei : ∀ args w, (callFunc ρ.fi args).run P w = .ok (.enter ρ.fi args) w) (em : ∀ args w, (callFunc ρ.fm args).run P w = .ok (.enter ρ.fm args) w)
    (IS : ∀ (a b : Nat) (d : Array α) (w : World), d.size = n → SWK enc k w0 blk off d w → a ≤ b → b ≤ n →
      Calls P ρ.fi #[.slice (some ⟨blk, off, none⟩) n cap, .int .i64 a, .int .i64 b, .func (.func g) #[] cb] w fun e w' => e = .returned (.tuple #[]) ∧ SWK enc k w0 blk off (Sort.insertionSort (ltOf cf) d a b) w')
    (MS : ∀ a m b, a < m → m < b → b ≤ n → MerC P ρ enc k cf t g cb blk off cap w0 n a m b) (w : World) (S : SWK enc k w0 blk off d0 w) :
    Calls P ft #[.slice (some ⟨blk, off, none⟩) n cap, .int .i64 n, .func (.func g) #[] cb] w fun e w' => e = .returned (.tuple #[]) ∧ ∃ d', Mg (ltOf cf) t 0 n d0 d' ∧ SWK enc k w0 blk off d' w' := by
  have mixed := L.mixed; have t0 := L.t0; have a0 := L.a0; have z0 := L.z0; have v0 := L.v0; have t3 := L.t3; have a3 := L.a3; have z3 := L.z3; have v3 := L.v3; have t4 := L.t4; have a4 := L.a4; have z4 := L.z4; have v4 := L.v4; have t22 := L.t22; have a22 := L.a22; have z22 := L.z22; have v22 := L.v22; have t25 := L.t25; have a25 := L.a25; have z25 := L.z25; have v25 := L.v25
  have u22 := run_underlying L.t22
  obtain ⟨_, _, FG⟩ := FT
  have HI : Hid (∀ (a b : Nat) (d : Array α) (w : World), d.size = n → SWK enc k w0 blk off d w → a ≤ b → b ≤ n →
      Calls P ρ.fi #[.slice (some ⟨blk, off, none⟩) n cap, .int .i64 a, .int .i64 b, .func (.func g) #[] cb] w fun e w' => e = .returned (.tuple #[]) ∧ SWK enc k w0 blk off (Sort.insertionSort (ltOf cf) d a b) w') := Lib.hid IS
  have HM : Hid (∀ a m b, a < m → m < b → b ≤ n → MerC P ρ enc k cf t g cb blk off cap w0 n a m b) := Lib.hid MS
  have S0 := Lib.hid (show SWK enc k w0 blk off d0 w from S)
  have H0 := Lib.hid (show (∀ i j, i < j → j < n → t d0[i]! < t d0[j]!) ∧ d0.size = n ∧ SWO (ltOf cf) from ⟨h0, hs, hS⟩)
  clear S IS MS h0 hs hS L
  go_enter FG, staB_ntmps ρ
  go_wp2_with fail
  go_loopg [7, 8] n (fun kx sa sb wr => ∃ (a b : Nat) (d : Array α), sa = .int .i64 a ∧ sb = .int .i64 b ∧ Hid (b = a + 20) ∧ a ≤ n ∧ kx = n - a ∧ Hid (d.size = n ∧ SWK enc k w0 blk off d wr ∧ Bi (ltOf cf) t 20 n a d0 d))
  case atStart => exact ⟨0, 20, d0, rfl, rfl, Lib.hid rfl, Nat.zero_le _, rfl, Lib.hid ⟨H0.out.2.1, S0.out, Bi.start 20 n d0 H0.out.1⟩⟩
  case round =>
    clear S0
    obtain ⟨a, b, d, rfl, rfl, hab, han, hkx, S1⟩ := hrel
    by_cases hlt : b ≤ n
    · have hlt' : (b : Int) ≤ (n : Int) := by omega
      have CI := Lib.hid (HI.out a b d wr S1.out.1 S1.out.2.1 (by have := hab.out; omega) hlt)
      go_wp2_with fail
      refine CI.out.mono ?_
      rintro e w2 ⟨rfl, T2⟩
      have T3 := Lib.hid T2
      clear T2 CI
      go_wp2_with fail
      go_roundg (n - b)
      case measure => have := hab.out; omega
      case rel =>
        have MG := ins_rg (t := t) H0.out.2.2 (show a ≤ b by have := hab.out; omega) (show b ≤ d.size by have := S1.out.1; omega) (S1.out.2.2.tg H0.out.1 hlt)
        refine ⟨b, b + 20, _, rfl, by first | rfl | go_num, Lib.hid rfl, hlt, rfl, Lib.hid ⟨MG.1.1.trans S1.out.1, T3.out, ?_⟩⟩
        have e2 := hab.out
        rw [e2] at hlt MG ⊢
        exact S1.out.2.2.round MG hlt (by have := S1.out.1; omega)
    · have hlt' : ¬ (b : Int) ≤ (n : Int) := by omega
      have CI := Lib.hid (HI.out a n d wr S1.out.1 S1.out.2.1 han (Nat.le_refl _))
      go_wp2_with fail
      refine CI.out.mono ?_
      rintro e w2 ⟨rfl, T2⟩
      have MG := ins_rg (t := t) H0.out.2.2 han (show n ≤ d.size by have := S1.out.1; omega) (S1.out.2.2.tg H0.out.1 (Nat.le_refl _))
      obtain ⟨d1, hd1⟩ : ∃ d1, d1 = Sort.insertionSort (ltOf cf) d a n := ⟨_, rfl⟩
      rw [← hd1] at MG T2
      have T3 := Lib.hid (show d1.size = n ∧ SWK enc k w0 blk off d1 w2 ∧ Bl (ltOf cf) t 20 n d0 d1 from ⟨MG.1.1.trans S1.out.1, T2, S1.out.2.2.last MG han (by have := hab.out; omega) (by have := S1.out.1; omega)⟩)
      clear T2 CI MG hd1 S1 HI hlt hlt' hab han hkx
      go_wp2_with fail
      go_loopg [6, 7, 8, 9] (n - 20) (fun kx ss _ _ _ wr => ∃ (s : Nat) (d : Array α), ss = .int .i64 s ∧ 0 < s ∧ s < 2305843009213693952 ∧ kx = n - s ∧ Hid (d.size = n ∧ SWK enc k w0 blk off d wr ∧ Bl (ltOf cf) t s n d0 d))
      case atStart => exact ⟨20, d1, rfl, by omega, by omega, rfl, T3⟩
      case round =>
        clear T3
        obtain ⟨s, d, rfl, hs0, hs1, hkx, S1⟩ := hrel
        by_cases hlt : s < n
        · have hlt' : (s : Int) < (n : Int) := by omega
          obtain ⟨s2, hs2⟩ : ∃ s2, s2 = 2 * s := ⟨_, rfl⟩
          have E2 : 2 * (s : Int) = (s2 : Int) := by omega
          have E3 : (s : Int) * 2 = (s2 : Int) := by omega
          have W2 : IntKind.i64.wrap (2 * (s : Int)) = (s2 : Int) := by rw [E2, IntKind.wrap_i64]; omega
          have W3 : IntKind.i64.wrap ((s : Int) * 2) = (s2 : Int) := by rw [E3, IntKind.wrap_i64]; omega
          have B2 : s2 < 2305843009213693952 ∧ s < s2 := by omega
          have HS2 := Lib.hid hs2
          have HKO := Lib.hid hkx
          clear hs2 hkx
          go_wp2_with fail
          try rw [E2]
          go_loopg [7, 8] n (fun kx sa sb wr => ∃ (a b : Nat) (d : Array α), sa = .int .i64 a ∧ sb = .int .i64 b ∧ Hid (b = a + s2) ∧ a ≤ n ∧ kx = n - a ∧ Hid (d.size = n ∧ SWK enc k w0 blk off d wr ∧ Bm (ltOf cf) t s n a d0 d))
          case atStart => exact ⟨0, s2, d, rfl, rfl, Lib.hid (by omega), Nat.zero_le _, rfl, Lib.hid ⟨S1.out.1, S1.out.2.1, Bm.start S1.out.2.2⟩⟩
          case round =>
            clear S1
            obtain ⟨a, b, d, rfl, rfl, hab, han, hkx, S1⟩ := hrel
            obtain ⟨m, hm⟩ : ∃ m, m = a + s := ⟨_, rfl⟩
            have EM : (a : Int) + (s : Int) = (m : Int) := by omega
            have WM : IntKind.i64.wrap ((a : Int) + (s : Int)) = (m : Int) := by rw [EM, IntKind.wrap_i64]; omega
            have HM1 := Lib.hid hm
            have Bm1 : a < m ∧ m < b := by have := HS2.out; have := hab.out; omega
            clear hm
            by_cases hb : b ≤ n
            · have hb' : (b : Int) ≤ (n : Int) := by omega
              have AS := S1.out.2.2.asks (b := b) (by have := HM1.out; omega) hb (by have := HS2.out; have := hab.out; omega)
              rw [← HM1.out] at AS
              have CI := Lib.hid (HM.out a m b Bm1.1 Bm1.2 hb d wr S1.out.1 S1.out.2.1 AS.1 AS.2.1 AS.2.2)
              obtain ⟨b2, hb2⟩ : ∃ b2, b2 = b + s2 := ⟨_, rfl⟩
              have EB : (b : Int) + (s2 : Int) = (b2 : Int) := by omega
              have WB : IntKind.i64.wrap ((b : Int) + (s2 : Int)) = (b2 : Int) := by rw [EB, IntKind.wrap_i64]; omega
              have HB2 := Lib.hid hb2
              clear hb2 AS
              go_wp2_with fail
              try rw [EM]
              refine CI.out.mono ?_
              rintro e w2 ⟨rfl, d2, M2, T2⟩
              have T3 := Lib.hid (show Mg (ltOf cf) t a b d d2 ∧ SWK enc k w0 blk off d2 w2 from ⟨M2, T2⟩)
              clear T2 M2 CI
              go_wp2_with fail
              go_roundg (n - b)
              case measure => omega
              case rel =>
                refine ⟨b, b2, d2, rfl, by first | rfl | rw [EB], HB2, hb, rfl, Lib.hid ⟨T3.out.1.1.1.trans S1.out.1, T3.out.2, ?_⟩⟩
                have e2 : b = a + 2 * s := by have := HS2.out; have := hab.out; omega
                rw [e2] at hb ⊢
                exact S1.out.2.2.round (e2 ▸ T3.out.1) hb (by have := S1.out.1; omega)
            · have hb' : ¬ (b : Int) ≤ (n : Int) := by omega
              by_cases hmn : m < n
              · have hmn' : (m : Int) < (n : Int) := by omega
                have AS := S1.out.2.2.asks (b := n) (by have := HM1.out; omega) (Nat.le_refl _) (by have := HS2.out; have := hab.out; omega)
                rw [← HM1.out] at AS
                have CI := Lib.hid (HM.out a m n Bm1.1 hmn (Nat.le_refl _) d wr S1.out.1 S1.out.2.1 AS.1 AS.2.1 AS.2.2)
                clear AS
                go_wp2_with fail
                try rw [EM]
                refine CI.out.mono ?_
                rintro e w2 ⟨rfl, d2, M2, T2⟩
                have T3 := Lib.hid (show Mg (ltOf cf) t a n d d2 ∧ SWK enc k w0 blk off d2 w2 from ⟨M2, T2⟩)
                clear T2 M2 CI
                go_wp2_with fail
                go_roundg (n - s2)
                case measure => have := HKO.out; omega
                case rel =>
                  refine ⟨s2, d2, by first | rfl | rw [E3], by omega, B2.1, rfl, Lib.hid ⟨T3.out.1.1.1.trans S1.out.1, T3.out.2, ?_⟩⟩
                  rw [HS2.out]
                  exact S1.out.2.2.last T3.out.1 han (by have := HS2.out; have := hab.out; omega) (by have := S1.out.1; omega)
              · have hmn' : ¬ (m : Int) < (n : Int) := by omega
                go_wp2_with fail
                go_roundg (n - s2)
                case measure => have := HKO.out; omega
                case rel =>
                  refine ⟨s2, d, by first | rfl | rw [E3], by omega, B2.1, rfl, Lib.hid ⟨S1.out.1, S1.out.2.1, ?_⟩⟩
                  rw [HS2.out]
                  exact S1.out.2.2.none hs0 han (by have := HM1.out; omega) (by have := S1.out.1; omega)
        · have hlt' : ¬ (s : Int) < (n : Int) := by omega
          go_wp2_with fail
          go_end0
          exact ⟨rfl, d, S1.out.2.2.done (by omega), S1.out.2.1⟩
end Ss
end Go.Proofs.YtehgnbgbmicheaaGreatDoor
end S8
