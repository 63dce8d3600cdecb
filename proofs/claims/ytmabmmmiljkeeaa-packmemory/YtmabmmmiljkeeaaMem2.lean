/-
  THE START, for the walk of PackMemory.
-/
import Derived.Test.YtmabmmmiljkeeaaMem
namespace Go.Proofs.Ytmabmmmiljkeeaa
open Go.RowKit

theorem tsum_le' (ts : List ByteArray) (hs : ∀ t ∈ ts, t.size ≤ 140737488355328) : tsum ts ≤ 2 + ts.length * 140737488355338 := by
  induction ts with
  | nil => simp [tsum]
  | cons t ts ih =>
    have i := ih (fun x hx => hs x (by simp [hx]))
    have ht := hs t (by simp)
    unfold tsum at i ⊢
    rw [List.map_cons, List.sum_cons, List.length_cons]
    omega
def mk1 (j : Nat) : UInt8 := UInt8.ofNat (145 + j)
def mk2 (j : Nat) : UInt8 := UInt8.ofNat (177 + j)
theorem c_mk1 {j : Nat} (h : j < 4) : c8 (mk1 j) = 145 + (j : Int) := by unfold c8 mk1; rw [UInt8.toNat_ofNat']; omega
theorem c_mk2 {j : Nat} (h : j < 4) : c8 (mk2 j) = 177 + (j : Int) := by unfold c8 mk2; rw [UInt8.toNat_ofNat']; omega
/-- Those below i are done. -/
def Pg (a b : Nat → List UInt8) (i : Nat) : Nat → List UInt8 := fun j => if j < i then b j else a j
theorem Pg_zero (a b : Nat → List UInt8) : Pg a b 0 = a := by funext j; unfold Pg; rw [if_neg (by omega)]
theorem Pg_at (a b : Nat → List UInt8) (i : Nat) : Pg a b i i = a i := if_neg (by omega)
theorem Pg_below (a b : Nat → List UInt8) {i j : Nat} (h : j < i) : Pg a b i j = b j := if_pos h
theorem Pg_step (a b : Nat → List UInt8) (i : Nat) : upd (Pg a b i) i (b i) = Pg a b (i + 1) := by
  funext j
  unfold upd Pg
  by_cases h : j = i
  · subst h; rw [if_pos rfl, if_pos (by omega)]
  · rw [if_neg h]
    by_cases h2 : j < i
    · rw [if_pos h2, if_pos (by omega)]
    · rw [if_neg h2, if_neg (by omega)]
theorem upd_self {α : Type} (l : Nat → α) (i : Nat) (x : α) (h : l i = x) : upd l i x = l := by
  funext j; unfold upd
  by_cases q : j = i
  · subst q; rw [if_pos rfl, h]
  · rw [if_neg q]
theorem upd_upd {α : Type} (l : Nat → α) (i : Nat) (x y : α) : upd (upd l i x) i y = upd l i y := by
  funext j; unfold upd
  by_cases q : j = i
  · rw [if_pos q, if_pos q]
  · rw [if_neg q, if_neg q, if_neg q]
theorem rep_set {α : Type} (l : List α) (c : α) (k : Nat) (h : k < l.length) : (List.replicate k c ++ l.drop k).set k c = List.replicate (k + 1) c ++ l.drop (k + 1) := by
  rw [List.set_append_right _ _ (by simp), List.length_replicate, Nat.sub_self, List.drop_eq_getElem_cons h, List.set_cons_zero, List.replicate_succ', List.append_assoc]; rfl
theorem rep_end {α : Type} (l : List α) (c : α) : List.replicate l.length c ++ l.drop l.length = List.replicate l.length c := by simp
theorem rep_len {α : Type} (l : List α) (c : α) {k : Nat} (h : k ≤ l.length) : (List.replicate k c ++ l.drop k).length = l.length := by simp; omega

def one3 : ByteArray := ⟨#[111, 110, 101]⟩
def two3 : ByteArray := ⟨#[116, 119, 111]⟩
def three5 : ByteArray := ⟨#[116, 104, 114, 101, 101]⟩

/-- Four, by number. -/
def pick4 {α : Type} (a b c d : α) (i : Nat) : α := match i with | 0 => a | 1 => b | 2 => c | _ => d
def fLab (s4 s5 s6 s7 s9 s11 s12 s13 s14 k : Nat) : Nat := if k < s4 then 4 else if k < s5 then 0 else if k < s6 then 1 else if k < s7 then 5 else if k < s9 then 2 else if k < s11 then 3 else if k < s12 then 6 else if k < s13 then 7 else if k < s14 then 8 else 9
theorem rep_getD1 {α : Type} (n m : Nat) (c d z : α) {k : Nat} (h : k < n) : (List.replicate n c ++ List.replicate m d).getD k z = c := by
  simp [List.getD, List.getElem?_append_left (show k < (List.replicate n c).length by simpa using h), h]
theorem rep_getD2 {α : Type} (n m : Nat) (c d z : α) {k : Nat} (h : ¬ k < n) (h2 : k < n + m) : (List.replicate n c ++ List.replicate m d).getD k z = d := by
  simp only [List.getD, List.getElem?_append_right (show (List.replicate n c).length ≤ k by simpa using h), List.length_replicate]
  simp [show k - n < m by omega]

theorem fl4 {s4 s5 s6 s7 s9 s11 s12 s13 s14 k : Nat} (h : k < s4) : fLab s4 s5 s6 s7 s9 s11 s12 s13 s14 k = 4 := if_pos h
theorem fl0 {s4 s5 s6 s7 s9 s11 s12 s13 s14 k : Nat} (h : s4 ≤ k) (h2 : k < s5) : fLab s4 s5 s6 s7 s9 s11 s12 s13 s14 k = 0 := by
  unfold fLab; rw [if_neg (by omega), if_pos h2]
theorem fl1 {s4 s5 s6 s7 s9 s11 s12 s13 s14 k : Nat} (c : s4 ≤ s5) (h : s5 ≤ k) (h2 : k < s6) : fLab s4 s5 s6 s7 s9 s11 s12 s13 s14 k = 1 := by
  unfold fLab; rw [if_neg (by omega), if_neg (by omega), if_pos h2]
theorem fl5 {s4 s5 s6 s7 s9 s11 s12 s13 s14 k : Nat} (c : s4 ≤ s5 ∧ s5 ≤ s6) (h : s6 ≤ k) (h2 : k < s7) : fLab s4 s5 s6 s7 s9 s11 s12 s13 s14 k = 5 := by
  unfold fLab; rw [if_neg (by omega), if_neg (by omega), if_neg (by omega), if_pos h2]
theorem fl2 {s4 s5 s6 s7 s9 s11 s12 s13 s14 k : Nat} (c : s4 ≤ s5 ∧ s5 ≤ s6 ∧ s6 ≤ s7) (h : s7 ≤ k) (h2 : k < s9) : fLab s4 s5 s6 s7 s9 s11 s12 s13 s14 k = 2 := by
  unfold fLab; rw [if_neg (by omega), if_neg (by omega), if_neg (by omega), if_neg (by omega), if_pos h2]
theorem fl3 {s4 s5 s6 s7 s9 s11 s12 s13 s14 k : Nat} (c : s4 ≤ s5 ∧ s5 ≤ s6 ∧ s6 ≤ s7 ∧ s7 ≤ s9) (h : s9 ≤ k) (h2 : k < s11) : fLab s4 s5 s6 s7 s9 s11 s12 s13 s14 k = 3 := by
  unfold fLab; rw [if_neg (by omega), if_neg (by omega), if_neg (by omega), if_neg (by omega), if_neg (by omega), if_pos h2]
theorem fl6 {s4 s5 s6 s7 s9 s11 s12 s13 s14 k : Nat} (c : s4 ≤ s5 ∧ s5 ≤ s6 ∧ s6 ≤ s7 ∧ s7 ≤ s9 ∧ s9 ≤ s11) (h : s11 ≤ k) (h2 : k < s12) : fLab s4 s5 s6 s7 s9 s11 s12 s13 s14 k = 6 := by
  unfold fLab; rw [if_neg (by omega), if_neg (by omega), if_neg (by omega), if_neg (by omega), if_neg (by omega), if_neg (by omega), if_pos h2]
theorem fl7 {s4 s5 s6 s7 s9 s11 s12 s13 s14 k : Nat} (c : s4 ≤ s5 ∧ s5 ≤ s6 ∧ s6 ≤ s7 ∧ s7 ≤ s9 ∧ s9 ≤ s11 ∧ s11 ≤ s12) (h : s12 ≤ k) (h2 : k < s13) : fLab s4 s5 s6 s7 s9 s11 s12 s13 s14 k = 7 := by
  unfold fLab; rw [if_neg (by omega), if_neg (by omega), if_neg (by omega), if_neg (by omega), if_neg (by omega), if_neg (by omega), if_neg (by omega), if_pos h2]
theorem fl8 {s4 s5 s6 s7 s9 s11 s12 s13 s14 k : Nat} (c : s4 ≤ s5 ∧ s5 ≤ s6 ∧ s6 ≤ s7 ∧ s7 ≤ s9 ∧ s9 ≤ s11 ∧ s11 ≤ s12 ∧ s12 ≤ s13) (h : s13 ≤ k) (h2 : k < s14) : fLab s4 s5 s6 s7 s9 s11 s12 s13 s14 k = 8 := by
  unfold fLab; rw [if_neg (by omega), if_neg (by omega), if_neg (by omega), if_neg (by omega), if_neg (by omega), if_neg (by omega), if_neg (by omega), if_neg (by omega), if_pos h2]
theorem fl9 {s4 s5 s6 s7 s9 s11 s12 s13 s14 k : Nat} (c : s4 ≤ s5 ∧ s5 ≤ s6 ∧ s6 ≤ s7 ∧ s7 ≤ s9 ∧ s9 ≤ s11 ∧ s11 ≤ s12 ∧ s12 ≤ s13 ∧ s13 ≤ s14) (h : s14 ≤ k) : fLab s4 s5 s6 s7 s9 s11 s12 s13 s14 k = 9 := by
  unfold fLab; rw [if_neg (by omega), if_neg (by omega), if_neg (by omega), if_neg (by omega), if_neg (by omega), if_neg (by omega), if_neg (by omega), if_neg (by omega), if_neg (by omega)]
theorem mem_start {w w2 w4 w5 w6 wr w8 w9 w10 w11 w12 w13 w14 : World} {gw : Nat} {u v5 v6 v7 v9 v11 v12 v13 v14 : Value} {L TL : List UInt8} {ts : List ByteArray}
    (s : w.heap.size ≤ w2.heap.size ∧ w2.heap.size ≤ w4.heap.size ∧ w4.heap.size ≤ w5.heap.size ∧ w5.heap.size ≤ w6.heap.size ∧ w6.heap.size ≤ wr.heap.size)
    (t : wr.heap.size ≤ w8.heap.size ∧ w8.heap.size ≤ w9.heap.size ∧ w9.heap.size ≤ w10.heap.size ∧ w10.heap.size ≤ w11.heap.size ∧ w11.heap.size ≤ w12.heap.size ∧ w12.heap.size ≤ w13.heap.size ∧ w13.heap.size ≤ w14.heap.size)
    (h14 : Below w13.heap.size w13 w14) (h13 : Below w12.heap.size w12 w13) (h12 : Below w11.heap.size w11 w12) (h11 : Below w9.heap.size w9 w11) (h9 : Below wr.heap.size wr w9)
    (hw4 : WAt w2.heap.size w4 gw u ⟨L, 1048576, 0⟩)
    (a7 : Own w6.heap.size wr v7 L ∧ Below w6.heap.size w6 wr ∧ WAt w2.heap.size wr gw u ⟨L, 1048576, 0⟩ ∧ Own w4.heap.size wr v5 L ∧ Own w5.heap.size wr v6 L)
    (o5 : Own w4.heap.size w5 v5 L) (o6 : Own w5.heap.size w6 v6 L) (o9 : Own w8.heap.size w9 v9 TL) (o11 : Own w10.heap.size w11 v11 TL) (o12 : Own w11.heap.size w12 v12 TL) (o13 : OwnS w12.heap.size w13 v13 ts) (o14 : OwnS w13.heap.size w14 v14 ts)
    (b0 : Below w.heap.size w wr) :
    Mem w2.heap.size (w14.alloc (.cells #[v5, v6, v9, v11] 23)) (fLab w4.heap.size w5.heap.size w6.heap.size wr.heap.size w9.heap.size w11.heap.size w12.heap.size w13.heap.size w14.heap.size) w14.heap.size (pick4 v5 v6 v9 v11) (pick4 L L TL TL) gw u ⟨L, 1048576, 0⟩ v7 L v12 TL v13 ts v14 ts ∧ Below w.heap.size w (w14.alloc (.cells #[v5, v6, v9, v11] 23)) := by
  obtain ⟨s0, s2, s4, s5, s6⟩ := s
  obtain ⟨t8, t9, t10, t11, t12, t13, t14⟩ := t
  have b13 : Below w13.heap.size w13 (w14.alloc (.cells #[v5, v6, v9, v11] 23)) := h14.alloc t14 _
  have b12 : Below w12.heap.size w12 (w14.alloc (.cells #[v5, v6, v9, v11] 23)) := h13.trans (b13.mono t13)
  have b11 : Below w11.heap.size w11 (w14.alloc (.cells #[v5, v6, v9, v11] 23)) := h12.trans (b12.mono t12)
  have b9 : Below w9.heap.size w9 (w14.alloc (.cells #[v5, v6, v9, v11] 23)) := h11.trans (b11.mono (by omega))
  have b7 : Below wr.heap.size wr (w14.alloc (.cells #[v5, v6, v9, v11] 23)) := h9.trans (b9.mono (by omega))
  have b14 : Below w14.heap.size w14 (w14.alloc (.cells #[v5, v6, v9, v11] 23)) := (Below.refl _ _).alloc (Nat.le_refl _) _
  refine ⟨⟨?_, fl9 (by omega) (Nat.le_refl _), by omega, ?_, a7.2.2.1.below b7, ⟨fl4 hw4.lt, fun k hk => fl4 (hw4.foot k (Or.inr hk.symm)).2⟩, ⟨(a7.1.mono (by omega)).below b7, fun k hk => fl5 (by omega) (a7.1.lt k hk).1 (a7.1.lt k hk).2⟩, ⟨(o12.mono (by omega)).below b12, fun k hk => fl6 (by omega) (o12.lt k hk).1 (o12.lt k hk).2⟩, ⟨(o13.mono (by omega)).below b13, fun k hk => fl7 (by omega) (o13.lt k hk).1 (o13.lt k hk).2⟩, ⟨(o14.mono (by omega)).below b14, fun k hk => fl8 (by omega) (o14.lt k hk).1 (o14.lt k hk).2⟩⟩, b0.trans (b7.mono b0.size)⟩
  · rw [heap_alloc_new]; rfl
  · intro i hi
    match i, hi with
    | 0, _ => exact ⟨(a7.2.2.2.1.mono (by omega)).below b7, fun k hk => fl0 (o5.lt k hk).1 (o5.lt k hk).2⟩
    | 1, _ => exact ⟨(a7.2.2.2.2.mono (by omega)).below b7, fun k hk => fl1 (by omega) (o6.lt k hk).1 (o6.lt k hk).2⟩
    | 2, _ => exact ⟨(o9.mono (by omega)).below b9, fun k hk => fl2 (by omega) (Nat.le_trans t8 (o9.lt k hk).1) (o9.lt k hk).2⟩
    | 3, _ => exact ⟨(o11.mono (by omega)).below b11, fun k hk => fl3 (by omega) (Nat.le_trans t10 (o11.lt k hk).1) (o11.lt k hk).2⟩

def lst1 (l0 : Nat → List UInt8) (j : Nat) : List UInt8 := List.replicate (l0 j).length (mk1 j)
def lst2 (l0 : Nat → List UInt8) (j : Nat) : List UInt8 := lst1 l0 j ++ List.replicate 64 (mk2 j)
theorem Mem.cellA_grown {B : Nat} {w w' : World} {f : Nat → Nat} {A : Nat} {u : Nat → Value} {l : Nat → List UInt8} {gw : Nat} {vw : Value} {sw : WS} {vk : Value} {L : List UInt8} {vl : Value} {TL : List UInt8} {vx : Value} {X : List ByteArray} {vy : Value} {Y : List ByteArray}
    (h : Mem B w f A u l gw vw sw vk L vl TL vx X vy Y) (i : Nat) (hi : i < 4) (hg : w.grownBy w' (u i).ownBlock) : w'.cell? ⟨A, i, none⟩ = some (u i) ∧ w'.frozen? ⟨A, i, none⟩ = false := by
  have e : w'.heap[A]? = w.heap[A]? := hg.block A h.lt (fun q => by have h1 := (h.o i hi).2 A q.symm; have h2 := h.fa; omega)
  have e2 : w'.heap[A]? = some (.cells #[u 0, u 1, u 2, u 3] 23 (0, 0)) := by rw [e]; exact h.a
  refine ⟨?_, frozen_of_row w' A i _ _ e2⟩
  rw [cell_of_row w' A i _ _ _ e2]
  match i, hi with
  | 0, _ => rfl
  | 1, _ => rfl
  | 2, _ => rfl
  | 3, _ => rfl
theorem Strs.take' {w : World} {a : Option Addr} {n cap : Nat} {ts us : List ByteArray} (H : Strs w (.slice a n cap) (ts ++ us)) : Strs w (.slice a ts.length cap) ts := by
  obtain ⟨a', cap', e', h1, h2, hc⟩ := H
  simp only [Value.slice.injEq] at e'
  obtain ⟨rfl, rfl, rfl⟩ := e'
  rw [List.length_append] at h1
  refine ⟨_, _, rfl, by omega, h2, fun k hk => ?_⟩
  obtain ⟨b, off, ea, h⟩ := hc k (by rw [List.length_append]; omega)
  refine ⟨b, off, ea, ?_⟩
  rw [h]
  simp only [List.getD, List.getElem?_append_left hk]
theorem OwnS.len {B : Nat} {w : World} {v : Value} {l : List ByteArray} (h : OwnS B w v l) : ∃ a cap, v = .slice a l.length cap ∧ l.length ≤ cap ∧ cap ≤ maxLen := h.strs.len
end Go.Proofs.Ytmabmmmiljkeeaa
