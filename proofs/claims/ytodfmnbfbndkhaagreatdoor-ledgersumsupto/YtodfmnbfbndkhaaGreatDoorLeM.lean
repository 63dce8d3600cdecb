/-
  The sums in memory: a map whose keys are places (path, scope, resource) and whose elements are sums.
-/
import Derived.Test.YtodfmnbfbndkhaaGreatDoorScG
import Derived.Maps.OwnSet
import Derived.Maps.OwnOps
import Derived.Maps.Own
import Derived.Maps.Views
import Derived.Maps.RangeWalk
import Derived.DeepKeys4
namespace Go.Proofs.YtodfmnbfbndkhaaGreatDoor
open Go.RowKit
namespace Le
/-- A place. -/
structure Ky where
  p : ByteArray
  k : Int
  a : Int
  r : ByteArray
abbrev In6 (i : Int) : Prop := -9223372036854775808 ≤ i ∧ i ≤ 9223372036854775807
def Ky.val (x : Ky) : Value := .agg #[.string x.p, .int .i64 x.k, .int .i64 x.a, .string x.r]
def Ky.lit (x : Ky) : Lit := .string (keyBytes [.string x.p.data.toList, .int .i64 x.k, .int .i64 x.a, .string x.r.data.toList])
structure Ky.Fit (x : Ky) : Prop where
  p : x.p.size ≤ maxLen
  r : x.r.size ≤ maxLen
  k : In6 x.k
  a : In6 x.a
def eS (v : Int) : DataW Unit := .lit (.int .i64 v)
def rS (v : Value) : Option (DataW Unit × List MemPlace) :=
  match v with
  | .int .i64 n => some (eS n, [])
  | _ => none
theorem rS_mk (v : Int) : rS (.int .i64 v) = some (eS v, []) := rfl
theorem rS_inv (x : Value) (y : DataW Unit × List MemPlace) (h : rS x = some y) : ∃ c : Int, x = .int .i64 c ∧ y = (eS c, []) := by
  unfold rS at h
  split at h
  · rename_i n
    simp only [Option.some.injEq] at h
    exact ⟨n, rfl, h.symm⟩
  · simp at h
theorem eS_inj {v v' : Int} (h : eS v = eS v') : v = v' := by
  unfold eS at h
  simp only [DataW.lit.injEq, Lit.int.injEq, true_and] at h
  exact h
theorem laidOut : laidOutB Tryz.prog = true := by kernel_rfl
theorem row : 79 < Tryz.prog.types.size := of_decide_eq_true (by kernel_rfl)
theorem wide : (match Tryz.prog.underlying 79 with | some (.array _ _) | some (.struct _) => true | _ => false) = true := by kernel_rfl
set_option maxRecDepth 100000 in
theorem K : Maps.Keyed Tryz.prog 79 := Maps.Keyed.of_law (deep_law_laid laidOut (m := 4) (by omega) row (by kernel_rfl) wide)
theorem keyT : Tryz.prog.keyType 79 = true := by kernel_rfl
theorem cells4 : Tryz.prog.cellsOf 79 = 4 := by kernel_rfl
theorem cells2 : Tryz.prog.cellsOf 39 = 2 := by kernel_rfl
theorem cells1 : Tryz.prog.cellsOf 9 = 1 := by kernel_rfl
theorem cellsI : Tryz.prog.cellsOf 3 = 1 := by kernel_rfl
theorem types1 : 2 ≤ Tryz.prog.types.size := of_decide_eq_true (by kernel_rfl)
theorem types2 : ∃ m, Tryz.prog.types.size = m + 2 := ⟨_, (Nat.sub_add_cancel types1).symm⟩
theorem str_lits (d : Nat) (s : ByteArray) (h : s.size ≤ maxLen) : Tryz.prog.keyLits (d + 1) 9 [.string s] = some [.string s.data.toList] := by
  simp [Program.keyLits, Tryz.underlying9, h]
theorem wf_of {i : Int} (h : In6 i) : (Lit.int .i64 i).wf = true := by
  obtain ⟨h1, h2⟩ := h
  simp [Lit.wf, IntKind.min, IntKind.max, IntKind.signed, IntKind.bits]
  omega
theorem int_lits (d : Nat) (i : Int) (h : In6 i) : Tryz.prog.keyLits (d + 1) 3 [.int .i64 i] = some [.int .i64 i] := by
  simp [Program.keyLits, Tryz.underlying3, wf_of h]
theorem sco_lits (d : Nat) (k a : Int) (hk : In6 k) (ha : In6 a) : Tryz.prog.keyLits (d + 2) 39 [.int .i64 k, .int .i64 a] = some [.int .i64 k, .int .i64 a] := by
  unfold Program.keyLits
  rw [Tryz.underlying39]
  simp only [cells2]
  simp [int_lits _ _ hk, int_lits _ _ ha, cellsI]
theorem key_mk (x : Ky) (h : x.Fit) : keyOf Tryz.prog 79 x.val = some x.lit := by
  obtain ⟨m, hm⟩ := types2
  have hf : x.val.formed Tryz.prog 79 = true := by
    simp [Value.formed, Ky.val, Tryz.underlying79, cells4]
  unfold keyOf
  rw [Tryz.underlying79]
  simp only [keyT, hf, Bool.and_self, if_true]
  rw [hm]
  have e : x.val.cells.toList = [.string x.p, .int .i64 x.k, .int .i64 x.a, .string x.r] := rfl
  rw [e]
  unfold Program.keyLits
  rw [Tryz.underlying79]
  simp only [cells4]
  simp [str_lits _ _ h.p, str_lits _ _ h.r, sco_lits _ _ _ h.k h.a, cells1, cells2, Ky.lit]
set_option maxRecDepth 100000 in
theorem str_lits_inv {d : Nat} {cs : List Value} {l : List Lit} (h : Tryz.prog.keyLits (d + 1) 9 cs = some l) : ∃ s : ByteArray, cs = [.string s] ∧ s.size ≤ maxLen ∧ l = [.string s.data.toList] := by
  unfold Program.keyLits at h
  rw [Tryz.underlying9] at h
  match cs, h with
  | [.string s], h =>
    simp only at h
    split at h
    · rename_i hs
      exact ⟨s, rfl, hs, by simpa using h.symm⟩
    · simp at h
theorem in6_wf {n : Int} (h : (Lit.int .i64 n).wf = true) : In6 n := by
  simp [Lit.wf, IntKind.min, IntKind.max, IntKind.signed, IntKind.bits] at h
  exact ⟨by omega, by omega⟩
set_option maxRecDepth 100000 in
theorem int_lits_inv {d : Nat} {cs : List Value} {l : List Lit} (h : Tryz.prog.keyLits (d + 1) 3 cs = some l) : ∃ i : Int, cs = [.int .i64 i] ∧ In6 i ∧ l = [.int .i64 i] := by
  unfold Program.keyLits at h
  rw [Tryz.underlying3] at h
  match cs, h with
  | [.int q i], h =>
    simp only at h
    split at h
    · rename_i hs
      obtain ⟨rfl, hw⟩ := hs
      exact ⟨i, rfl, in6_wf hw, by simpa using h.symm⟩
    · simp at h
set_option maxRecDepth 100000 in
theorem sco_lits_inv {d : Nat} {cs : List Value} {l : List Lit} (h : Tryz.prog.keyLits (d + 2) 39 cs = some l) : ∃ k a : Int, cs = [.int .i64 k, .int .i64 a] ∧ In6 k ∧ In6 a ∧ l = [.int .i64 k, .int .i64 a] := by
  unfold Program.keyLits at h
  rw [Tryz.underlying39] at h
  simp only [cells2] at h
  split at h
  · rename_i hl
    simp only [List.mapM_cons, List.mapM_nil, cellsI, List.drop_zero] at h
    have hd : cs.length = 2 := hl.1
    cases h1 : Tryz.prog.keyLits (d + 1) 3 (List.take 1 cs) with
    | none => rw [h1] at h; simp at h
    | some l1 =>
    cases h2 : Tryz.prog.keyLits (d + 1) 3 (List.take 1 (List.drop 1 cs)) with
    | none => rw [h1, h2] at h; simp at h
    | some l2 =>
    rw [h1, h2] at h
    obtain ⟨k, e1, s1, rfl⟩ := int_lits_inv h1
    obtain ⟨a, e2, s2, rfl⟩ := int_lits_inv h2
    match cs, hd with
    | [x, y], _ =>
      simp only [List.take, List.drop, List.cons.injEq, and_true] at e1 e2
      subst e1 e2
      refine ⟨k, a, rfl, s1, s2, ?_⟩
      simpa using h.symm
  · simp at h
set_option maxRecDepth 100000 in
theorem key_inv (key : Value) (l : Lit) (h : keyOf Tryz.prog 79 key = some l) : ∃ x : Ky, key = x.val ∧ l = x.lit ∧ x.Fit := by
  obtain ⟨m, hm⟩ := types2
  unfold keyOf at h
  rw [Tryz.underlying79] at h
  simp only at h
  split at h
  · rename_i hf
    simp only [keyT, Bool.true_and] at hf
    rw [hm] at h
    unfold Program.keyLits at h
    rw [Tryz.underlying79] at h
    simp only [cells4] at h
    split at h
    · rename_i hl
      simp only [List.mapM_cons, List.mapM_nil, cells1, cells2, List.drop_zero] at h
      have hd : key.cells.toList.length = 4 := hl.1
      cases h1 : Tryz.prog.keyLits (m + 2) 9 (List.take 1 key.cells.toList) with
      | none => rw [h1] at h; simp at h
      | some l1 =>
      cases h2 : Tryz.prog.keyLits (m + 2) 39 (List.take 2 (List.drop 1 key.cells.toList)) with
      | none => rw [h1, h2] at h; simp at h
      | some l2 =>
      cases h3 : Tryz.prog.keyLits (m + 2) 9 (List.take 1 (List.drop 3 key.cells.toList)) with
      | none => rw [h1, h2, h3] at h; simp at h
      | some l3 =>
      rw [h1, h2, h3] at h
      obtain ⟨p, e1, s1, rfl⟩ := str_lits_inv h1
      obtain ⟨k, a, e2, s2, s2', rfl⟩ := sco_lits_inv h2
      obtain ⟨r, e3, s3, rfl⟩ := str_lits_inv h3
      have hc : key.cells.toList = [.string p, .int .i64 k, .int .i64 a, .string r] := by
        match hk : key.cells.toList, hd with
        | [x0, x1, x2, x3], _ =>
          rw [hk] at e1 e2 e3
          simp only [List.take, List.drop, List.cons.injEq, and_true] at e1 e2 e3
          rw [e1, e2.1, e2.2, e3]
      refine ⟨⟨p, k, a, r⟩, ?_, ?_, ⟨s1, s3, s2, s2'⟩⟩
      · cases key <;> simp [Value.cells] at hc
        rename_i xs
        unfold Ky.val
        congr 1
        apply Array.ext'
        rw [hc]
      · simp at h
        rw [← h]
        rfl
    · simp at h
  · simp at h
theorem lit_inj {x y : Ky} (hx : x.Fit) (hy : y.Fit) (h : x.lit = y.lit) : x = y := by
  have e := K.inj (key_mk x hx) (by rw [h]; exact key_mk y hy)
  unfold Ky.val at e
  simp only [Value.agg.injEq, Array.mk.injEq, List.cons.injEq, Value.string.injEq, Value.int.injEq, true_and, and_true] at e
  cases x; cases y
  simp only at e
  rw [e.1, e.2.1, e.2.2.1, e.2.2.2]
end Le
end Go.Proofs.YtodfmnbfbndkhaaGreatDoor
