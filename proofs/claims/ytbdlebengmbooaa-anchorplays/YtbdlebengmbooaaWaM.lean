/-
  Numbers as bytes, lowest first.
-/
import Derived.Test.YtbdlebengmbooaaDvB
import Derived.Test.YtbdlebengmbooaaSmC
import Derived.Laws.Bits64b
namespace Go.Proofs.Ytbdlebengmbooaa
open Go.RowKit Go.Maps
/-- The n bytes of x, the lowest first. -/
def leB : Nat → Nat → List UInt8
  | 0, _ => []
  | n + 1, x => UInt8.ofNat (x % 256) :: leB n (x / 256)
/-- The number that bytes are. -/
def leN : List UInt8 → Nat
  | [] => 0
  | c :: l => c.toNat + 256 * leN l
theorem leB_length : ∀ n x, (leB n x).length = n
  | 0, _ => rfl
  | n + 1, x => by rw [leB, List.length_cons, leB_length n]
theorem leN_lt : ∀ l : List UInt8, leN l < 256 ^ l.length
  | [] => by simp [leN]
  | c :: l => by
    have h := leN_lt l
    have hc := c.toNat_lt
    rw [leN, List.length_cons, Nat.pow_succ]
    omega
theorem leN_leB : ∀ n x, x < 256 ^ n → leN (leB n x) = x
  | 0, x, h => by simp at h; subst h; rfl
  | n + 1, x, h => by
    rw [leB, leN, leN_leB n (x / 256) (by rw [Nat.pow_succ] at h; omega)]
    have : (UInt8.ofNat (x % 256)).toNat = x % 256 := by simp
    omega
theorem leB_leN : ∀ l : List UInt8, leB l.length (leN l) = l
  | [] => rfl
  | c :: l => by
    have hc := c.toNat_lt
    rw [List.length_cons, leB, leN]
    have h1 : (c.toNat + 256 * leN l) % 256 = c.toNat := by omega
    have h2 : (c.toNat + 256 * leN l) / 256 = leN l := by omega
    rw [h1, h2, leB_leN l]
    simp
theorem leB_snoc : ∀ n x, leB (n + 1) x = leB n x ++ [UInt8.ofNat (x / 256 ^ n % 256)]
  | 0, x => by simp [leB]
  | n + 1, x => by
    rw [leB, leB_snoc n (x / 256), leB, List.cons_append, Nat.div_div_eq_div_mul, Nat.pow_succ, Nat.mul_comm 256]
theorem leN_snoc : ∀ (l : List UInt8) (c : UInt8), leN (l ++ [c]) = leN l + c.toNat * 256 ^ l.length
  | [], c => by simp [leN]
  | d :: l, c => by
    rw [List.cons_append, leN, leN_snoc l c, leN, List.length_cons, Nat.pow_succ, Nat.mul_add]
    have : 256 * (c.toNat * 256 ^ l.length) = c.toNat * (256 ^ l.length * 256) := by rw [Nat.mul_left_comm, Nat.mul_comm 256]
    omega
theorem splice_snoc {α : Type} (L cs : List α) (x : α) (off : Nat) (h : off + cs.length < L.length) : (splice L off cs).set (off + cs.length) x = splice L off (cs ++ [x]) := by
  apply List.ext_getElem?
  intro j
  rw [splice_at _ _ _ (by rw [List.length_append]; simp; omega)]
  by_cases e : off + cs.length = j
  · subst e
    rw [List.getElem?_set_self (by rw [length_splice _ _ _ (by omega)]; exact h), if_pos (by simp)]
    simp
  · rw [List.getElem?_set_ne e, splice_at _ _ _ (by omega)]
    by_cases q : off ≤ j ∧ j < off + cs.length
    · rw [if_pos q, if_pos (by simp; omega), List.getElem?_append_left (by omega)]
    · rw [if_neg q, if_neg (by simp; omega)]
end Go.Proofs.Ytbdlebengmbooaa
