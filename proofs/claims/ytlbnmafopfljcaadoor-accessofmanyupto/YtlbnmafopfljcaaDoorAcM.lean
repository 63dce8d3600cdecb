/-
  The table in memory: a map whose keys are places and whose elements are rights.
-/
import Derived.Test.YtlbnmafopfljcaaDoorAcB
import Derived.Maps.OwnSet
import Derived.Maps.OwnOps
import Derived.Maps.Own
import Derived.Maps.Views
import Derived.Maps.RangeWalk
import Derived.DeepKeys4
namespace Go.Proofs.YtlbnmafopfljcaaDoor
open Go.RowKit
namespace Ac
def pv (p n : ByteArray) : Value := .agg #[.string p, .string n]
def rv (s : ByteArray) (v : Int) : Value := .agg #[.string s, .int .i64 v]
def kl (p n : ByteArray) : Lit := .string (keyBytes [.string p.data.toList, .string n.data.toList])
def eR (s : ByteArray) (v : Int) : DataW Unit := .agg [.lit (.string s.data.toList), .lit (.int .i64 v)]
def rR (v : Value) : Option (DataW Unit × List MemPlace) :=
  match v with
  | .agg xs => match xs.toList with
    | [.string s, .int .i64 n] => some (eR s n, [])
    | _ => none
  | _ => none
theorem rR_mk (s : ByteArray) (v : Int) : rR (rv s v) = some (eR s v, []) := rfl
theorem rR_inv (x : Value) (y : DataW Unit × List MemPlace) (h : rR x = some y) : ∃ c : ByteArray × Int, x = rv c.1 c.2 ∧ y = (eR c.1 c.2, []) := by
  unfold rR at h
  split at h
  · rename_i xs
    split at h
    · rename_i s n e
      simp only [Option.some.injEq] at h
      refine ⟨(s, n), ?_, h.symm⟩
      unfold rv
      congr 1
      apply Array.ext'
      rw [e]
    · simp at h
  · simp at h
theorem eR_inj {s s' : ByteArray} {v v' : Int} (h : eR s v = eR s' v') : s = s' ∧ v = v' := by
  unfold eR at h
  simp only [DataW.agg.injEq, List.cons.injEq, DataW.lit.injEq, Lit.string.injEq, Lit.int.injEq, true_and, and_true] at h
  refine ⟨?_, h.2⟩
  apply ByteArray.ext
  apply Array.ext'
  exact h.1
theorem laidOut : laidOutB Tryd.prog = true := by kernel_rfl
theorem row : 46 < Tryd.prog.types.size := of_decide_eq_true (by kernel_rfl)
theorem wide : (match Tryd.prog.underlying 46 with | some (.array _ _) | some (.struct _) => true | _ => false) = true := by kernel_rfl
set_option maxRecDepth 100000 in
theorem K : Maps.Keyed Tryd.prog 46 := Maps.Keyed.of_law (deep_law_laid laidOut (m := 3) (by omega) row (by kernel_rfl) wide)
theorem keyT : Tryd.prog.keyType 46 = true := by kernel_rfl
theorem cells2 : Tryd.prog.cellsOf 46 = 2 := by kernel_rfl
theorem cells1 : Tryd.prog.cellsOf 9 = 1 := by kernel_rfl
theorem types1 : 1 ≤ Tryd.prog.types.size := of_decide_eq_true (by kernel_rfl)
theorem types2 : ∃ m, Tryd.prog.types.size = m + 1 := ⟨_, (Nat.sub_add_cancel types1).symm⟩
theorem str_lits (d : Nat) (s : ByteArray) (h : s.size ≤ maxLen) : Tryd.prog.keyLits (d + 1) 9 [.string s] = some [.string s.data.toList] := by
  simp [Program.keyLits, Tryd.underlying9, h]
set_option maxRecDepth 100000 in
theorem str_lits_inv {d : Nat} {cs : List Value} {l : List Lit} (h : Tryd.prog.keyLits (d + 1) 9 cs = some l) : ∃ s : ByteArray, cs = [.string s] ∧ s.size ≤ maxLen ∧ l = [.string s.data.toList] := by
  unfold Program.keyLits at h
  rw [Tryd.underlying9] at h
  match cs, h with
  | [.string s], h =>
    simp only at h
    split at h
    · rename_i hs
      exact ⟨s, rfl, hs, by simpa using h.symm⟩
    · simp at h
theorem key_mk (p n : ByteArray) (hp : p.size ≤ maxLen) (hn : n.size ≤ maxLen) : keyOf Tryd.prog 46 (pv p n) = some (kl p n) := by
  obtain ⟨m, hm⟩ := types2
  have hf : (pv p n).formed Tryd.prog 46 = true := by
    simp [Value.formed, pv, Tryd.underlying46, cells2]
  unfold keyOf
  rw [Tryd.underlying46]
  simp only [keyT, hf, Bool.and_self, if_true]
  rw [hm]
  have e : (pv p n).cells.toList = [.string p, .string n] := rfl
  rw [e]
  unfold Program.keyLits
  rw [Tryd.underlying46]
  simp only [cells2]
  simp [str_lits _ _ hp, str_lits _ _ hn, cells1, kl]
set_option maxRecDepth 100000 in
theorem key_inv (key : Value) (l : Lit) (h : keyOf Tryd.prog 46 key = some l) : ∃ x : ByteArray × ByteArray, key = pv x.1 x.2 ∧ l = kl x.1 x.2 ∧ x.1.size ≤ maxLen ∧ x.2.size ≤ maxLen := by
  obtain ⟨m, hm⟩ := types2
  unfold keyOf at h
  rw [Tryd.underlying46] at h
  simp only at h
  split at h
  · rename_i hf
    simp only [keyT, Bool.true_and] at hf
    rw [hm] at h
    unfold Program.keyLits at h
    rw [Tryd.underlying46] at h
    simp only [cells2] at h
    split at h
    · rename_i hl
      simp only [List.mapM_cons, List.mapM_nil, cells1, List.drop_zero] at h
      have hd : key.cells.toList.length = 2 := hl.1
      cases h1 : Tryd.prog.keyLits (m + 1) 9 (List.take 1 key.cells.toList) with
      | none => rw [h1] at h; simp at h
      | some l1 =>
      cases h2 : Tryd.prog.keyLits (m + 1) 9 (List.take 1 (List.drop 1 key.cells.toList)) with
      | none => rw [h1, h2] at h; simp at h
      | some l2 =>
      rw [h1, h2] at h
      obtain ⟨p, e1, s1, rfl⟩ := str_lits_inv h1
      obtain ⟨n, e2, s2, rfl⟩ := str_lits_inv h2
      have hc : key.cells.toList = [.string p, .string n] := by
        match hk : key.cells.toList, hd with
        | [a, b], _ =>
          rw [hk] at e1 e2
          simp only [List.take, List.drop, List.cons.injEq, and_true] at e1 e2
          rw [e1, e2]
      refine ⟨(p, n), ?_, ?_, s1, s2⟩
      · cases key <;> simp [Value.cells] at hc
        rename_i xs
        unfold pv
        congr 1
        apply Array.ext'
        rw [hc]
      · simp at h
        rw [← h]
        rfl
    · simp at h
  · simp at h
end Ac
end Go.Proofs.YtlbnmafopfljcaaDoor
