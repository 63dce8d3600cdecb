/-
  giving: what it hands back, and its iterator.
-/
import Derived.Test.YtdhnpgciclbfeaaGreatDoorAcO
import Derived.RangeFuncNested
import Derived.RangeFuncBound
import Derived.RangeFuncCalls
import Derived.RangeFuncLeaves
import Derived.RangeFuncWrites
import Derived.RangeFuncStops
import Derived.RangeFuncKeeps
import Derived.Sort.MapsRangeIn
import Derived.Maps.OwnIn
import Derived.LoopIn
import Derived.LoopNIn
import Derived.TacticsInMore
import Derived.Shelf.RegionOpen
namespace Go.Proofs.YtdhnpgciclbfeaaGreatDoor
open Go.RowKit Go.Shelf
namespace Ac
/-- The binding stands in the table. -/
def InD (D : DataW Unit) (x : Bd) : Prop := (∀ zd, D.atKey (kl x.p x.n) zd = eR x.s x.v) ∧ x.p.size ≤ maxLen ∧ x.n.size ≤ maxLen
theorem kl_inj {p n p' n' : ByteArray} (h : kl p n = kl p' n') (h1 : p.size ≤ maxLen) (h2 : n.size ≤ maxLen) (h3 : p'.size ≤ maxLen) (h4 : n'.size ≤ maxLen) : p = p' ∧ n = n' := by
  have e := K.inj (key_mk p n h1 h2) (by rw [h]; exact key_mk p' n' h3 h4)
  unfold pv at e
  simp only [Value.agg.injEq, Array.mk.injEq, List.cons.injEq, Value.string.injEq, and_true] at e
  exact e
theorem same_kl (p n : ByteArray) : (kl p n).sameKey (kl p n) = true := by unfold kl; simp [Lit.sameKey]
/-- What has come when just the keys in left are still to come. -/
def Coll (D : DataW Unit) (u : ByteArray) (v : Int) (left : Lit → Bool) (ss : List Bd) : Prop := ∀ x : Bd, x ∈ ss ↔ (InD D x ∧ isB x.s x.v u v = true ∧ left (kl x.p x.n) = false)
variable {D : DataW Unit} {u : ByteArray} {v : Int} {left : Lit → Bool} {ss : List Bd}
theorem Coll.start : Coll D u v (Maps.has D) [] := fun x => by
  refine ⟨fun h => by simp at h, fun h => ?_⟩
  rw [Maps.has_true_of_atKey h.1.1] at h
  simp at h
theorem Coll.skip (h : Coll D u v left ss) {x : Bd} (hx : InD D x) (hn : isB x.s x.v u v = false) : Coll D u v (fun z => left z && !z.sameKey (kl x.p x.n)) ss := fun y => by
  rw [h y]
  refine ⟨fun ⟨a, b, c⟩ => ⟨a, b, by simp [c]⟩, fun ⟨a, b, c⟩ => ⟨a, b, ?_⟩⟩
  by_cases e : kl y.p y.n = kl x.p x.n
  · have q := a.1 (.map [])
    rw [e, hx.1] at q
    obtain ⟨q1, q2⟩ := eR_inj q
    rw [← q1, ← q2, hn] at b
    simp at b
  · simpa [Maps.sameKey_ne e] using c
theorem Coll.step (h : Coll D u v left ss) {x : Bd} (hx : InD D x) (hn : isB x.s x.v u v = true) : Coll D u v (fun z => left z && !z.sameKey (kl x.p x.n)) (ss ++ [x]) := fun y => by
  rw [List.mem_append, List.mem_singleton, h y]
  constructor
  · rintro (⟨a, b, c⟩ | rfl)
    · exact ⟨a, b, by simp [c]⟩
    · exact ⟨hx, hn, by simp [same_kl]⟩
  · rintro ⟨a, b, c⟩
    by_cases e : kl y.p y.n = kl x.p x.n
    · refine Or.inr ?_
      have q := a.1 (.map [])
      rw [e, hx.1] at q
      obtain ⟨q1, q2⟩ := eR_inj q
      obtain ⟨r1, r2⟩ := kl_inj e a.2.1 a.2.2 hx.2.1 hx.2.2
      cases x; cases y
      simp only at q1 q2 r1 r2
      rw [q1, q2, r1, r2]
    · exact Or.inl ⟨a, b, by simpa [Maps.sameKey_ne e] using c⟩
theorem Coll.all (h : Coll D u v left ss) (hl : ∀ k, left k = false) : ∀ x, x ∈ ss ↔ InD D x ∧ isB x.s x.v u v = true := fun x => by
  rw [h x, hl]
  simp
/-- The boxes that the closure has captured. -/
def gW (w : World) (t : Nat) (u : ByteArray) (v : Int) : World := ((w.alloc (.cells #[.pointer (some ⟨t, 0, none⟩)] 23)).alloc (.cells #[.string u] 9)).alloc (.cells #[.int .i64 v] 3)
def gF (w : World) : Value := .func (.func 40) #[] #[.pointer (some ⟨w.heap.size, 0, none⟩), .pointer (some ⟨w.heap.size + 1, 0, none⟩), .pointer (some ⟨w.heap.size + 1 + 1, 0, none⟩)]
theorem giving_any (t : Nat) (u : ByteArray) (v : Int) (w : World) : Calls Tryz.prog 25 #[.pointer (some ⟨t, 0, none⟩), .string u, .int .i64 v] w fun e w' => e = .returned (gF w) ∧ w' = gW w t u v := by
  unfold gF gW
  go_enter Tryz.func25, Tryz.ntmps25
  go_wp2
  go_ret
  exact ⟨rfl, rfl⟩
/-- What a round must keep. -/
def Kg (t c1 c2 c3 : Nat) (W W' : World) : Prop := KeepsWalks W W' ∧ ∀ y, y = t ∨ y = c1 ∨ y = c2 ∨ y = c3 → W'.heap[y]? = W.heap[y]?
end Ac
end Go.Proofs.YtdhnpgciclbfeaaGreatDoor
