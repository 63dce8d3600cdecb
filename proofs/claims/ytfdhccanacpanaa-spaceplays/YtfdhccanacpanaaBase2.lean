/-
  APPENDS of bytes and texts onto slices of the calls own; what else is kept.
-/
import Derived.Test.YtfdhccanacpanaaBase
import Derived.Maps.AppendAt
import Derived.Deep.DeepAppendWide
namespace Go.Proofs.Ytfdhccanacpanaa
open Go.RowKit

/-- All but the blocks of F is as it was. -/
structure Kept (F : Nat → Prop) (w w' : World) : Prop where
  os : w'.os = w.os
  tape : w'.tape = w.tape
  output : w'.output = w.output
  size : w.heap.size ≤ w'.heap.size
  block : ∀ k, k < w.heap.size → ¬ F k → w'.heap[k]? = w.heap[k]?

theorem Kept.refl (F : Nat → Prop) (w : World) : Kept F w w := ⟨rfl, rfl, rfl, Nat.le_refl _, fun _ _ _ => rfl⟩
theorem Kept.mono {F G : Nat → Prop} {w w' : World} (h : Kept F w w') (k : ∀ x, x < w.heap.size → F x → G x) : Kept G w w' := ⟨h.os, h.tape, h.output, h.size, fun x hx hn => h.block x hx fun hf => hn (k x hx hf)⟩
theorem Kept.trans {F G : Nat → Prop} {a b c : World} (h : Kept F a b) (k : Kept G b c) (hG : ∀ x, x < a.heap.size → G x → F x) : Kept F a c :=
  ⟨k.os.trans h.os, k.tape.trans h.tape, k.output.trans h.output, Nat.le_trans h.size k.size, fun x hx hn => (k.block x (Nat.lt_of_lt_of_le hx h.size) fun hg => hn (hG x hx hg)).trans (h.block x hx hn)⟩
theorem Kept.below {F : Nat → Prop} {B : Nat} {w w' : World} (h : Kept F w w') (hB : B ≤ w.heap.size) (hF : ∀ x, F x → B ≤ x) : Below B w w' :=
  ⟨h.os, h.tape, h.output, h.size, fun k hk => h.block k (by omega) fun hf => by have := hF k hf; omega⟩
theorem Below.kept {w w' : World} (h : Below w.heap.size w w') (F : Nat → Prop) : Kept F w w' := ⟨h.os, h.tape, h.output, h.size, fun k hk _ => h.block k hk⟩
theorem grown_kept {w w' : World} {row : Option Nat} (h : w.grownBy w' row) : Kept (fun k => some k = row) w w' := ⟨h.os, h.tape, h.output, h.size, h.block⟩
theorem grown_alloc {w w' : World} {o : Obj} {row : Option Nat} (h : (w.alloc o).grownBy w' row) : w.grownBy w' row :=
  ⟨h.os, h.tape, h.output, Nat.le_trans (by simp) h.size, fun k hk hr => (h.block k (by simp; omega) hr).trans (Below.heap_alloc w o k hk)⟩
theorem kept_set {F : Nat → Prop} (w : World) (a : Addr) (u : Value) (h : F a.block) : Kept F w (w.setCell a u) :=
  ⟨rfl, rfl, rfl, by simp [World.setCell], fun k _ hn => Below.heap_setCell _ _ _ _ (fun e => hn (e ▸ h))⟩

theorem Own.lt {B : Nat} {w : World} {v : Value} {l : List UInt8} (h : Own B w v l) : ∀ k, v.ownBlock = some k → B ≤ k ∧ k < w.heap.size := World.ownsRow.lt h
theorem Own.kept {B : Nat} {F : Nat → Prop} {w w' : World} {v : Value} {l : List UInt8} (H : Own B w v l) (hk : Kept F w w') (hF : ∀ k, v.ownBlock = some k → ¬ F k) : Own B w' v l := by
  obtain ⟨h1, h | ⟨g, cap, cur, hv, hB, hg, hr⟩⟩ := H
  · exact ⟨h1, .inl h⟩
  · have hlt : g < w.heap.size := by
      rcases Nat.lt_or_ge g w.heap.size with h | h
      · exact h
      · rw [Array.getElem?_eq_none h] at hg; simp at hg
    subst hv
    exact ⟨h1, .inr ⟨g, cap, cur, rfl, hB, by rw [hk.block g hlt (hF g rfl)]; exact hg, hr⟩⟩
theorem Bytes.len {w : World} {v : Value} {l : List UInt8} (H : Bytes w v l) : ∃ a cap, v = .slice a l.length cap ∧ l.length ≤ cap ∧ cap ≤ maxLen := by
  obtain ⟨a, cap, h, h1, h2, _⟩ := H; exact ⟨a, cap, h, h1, h2⟩

theorem grown_below {B : Nat} {w w' : World} {v : Value} {l : List UInt8} (h : w.grownBy w' v.ownBlock) (ho : Own B w v l) (hB : B ≤ w.heap.size) : Below B w w' :=
  (Below.refl B w).grown h hB (fun k hk => (ho.lt k hk).1)

/-- Where what was appended lies. -/
def At (v v' : Value) (w : World) : Prop := ∀ k, some k = v'.ownBlock → some k = v.ownBlock ∨ w.heap.size ≤ k
theorem At.refl (v : Value) (w : World) : At v v w := fun _ h => Or.inl h
theorem At.trans {u v x : Value} {a b : World} (h : At u v a) (k : At v x b) (hs : a.heap.size ≤ b.heap.size) : At u x a := fun i hi => by
  rcases k i hi with q | q
  · exact h i q
  · exact Or.inr (by omega)
theorem at_of {v v' : Value} {w w0 : World} (h : v'.ownBlock = v.ownBlock ∨ v'.ownBlock = some w.heap.size) (hs : w0.heap.size ≤ w.heap.size) : At v v' w0 := fun k hk => by
  rcases h with h | h
  · exact Or.inl (by rw [hk, h])
  · rw [h] at hk; simp only [Option.some.injEq] at hk; exact Or.inr (by omega)

/-- The text of bytes. -/
def txt (l : List UInt8) : ByteArray := ⟨l.toArray⟩
theorem txt_size (l : List UInt8) : (txt l).size = l.length := by simp [txt, ByteArray.size]
theorem txt_list (l : List UInt8) : (txt l).data.toList = l := by simp [txt]
theorem list_txt (s : ByteArray) : txt s.data.toList = s := by simp [txt]
theorem str_size (s : ByteArray) : s.data.toList.length = s.size := by simp
theorem strCells_eq (s : ByteArray) : Lib.strCells s = cells8 s.data.toList := rfl
theorem str8_txt (l : List UInt8) : str8 l = txt l := by
  have h : (str8 l).data = (txt l).data := by
    apply Array.toList_inj.1
    simp only [str8, strOfNums_data, txt, List.map_map]
    have : ((fun n : Int => UInt8.ofNat n.toNat) ∘ c8) = id := by
      funext c; simp [c8_nat]
    rw [this]; simp
  cases hs : str8 l; cases ht : txt l; rw [hs, ht] at h; simp_all
end Go.Proofs.Ytfdhccanacpanaa
