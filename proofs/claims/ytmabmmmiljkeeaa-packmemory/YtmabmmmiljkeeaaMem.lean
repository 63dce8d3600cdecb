/-
  ELEVEN PIECES OF MEMORY, APART: each block has an owners number.
-/
import Derived.Test.YtmabmmmiljkeeaaTxBack
import Derived.Test.YtmabmmmiljkeeaaRoomy
import Derived.Test.YtmabmmmiljkeeaaSmall2
namespace Go.Proofs.Ytmabmmmiljkeeaa
open Go.RowKit

theorem OwnS.kept {B : Nat} {F : Nat → Prop} {w w' : World} {v : Value} {l : List ByteArray} (H : OwnS B w v l) (hk : Kept F w w') (hF : ∀ k, v.ownBlock = some k → ¬ F k) : OwnS B w' v l := by
  obtain ⟨h1, h | ⟨g, cap, cur, hv, hB, hg, hr⟩⟩ := H
  · exact ⟨h1, .inl h⟩
  · have hlt : g < w.heap.size := by
      rcases Nat.lt_or_ge g w.heap.size with h | h
      · exact h
      · rw [Array.getElem?_eq_none h] at hg; simp at hg
    subst hv
    exact ⟨h1, .inr ⟨g, cap, cur, rfl, hB, by rw [hk.block g hlt (hF g rfl)]; exact hg, hr⟩⟩
theorem OwnS.mono {B B' : Nat} {w : World} {v : Value} {l : List ByteArray} (H : OwnS B w v l) (h : B' ≤ B) : OwnS B' w v l := by
  obtain ⟨h1, h2 | ⟨g, cap, cur, hv, hB, hr⟩⟩ := H
  · exact ⟨h1, .inl h2⟩
  · exact ⟨h1, .inr ⟨g, cap, cur, hv, by omega, hr⟩⟩
theorem OwnS.row {B : Nat} {w : World} {v : Value} {l : List ByteArray} (h : OwnS B w v l) (hl : 0 < l.length) : ∃ g cap cur, v = .slice (some ⟨g, 0, none⟩) l.length cap ∧ B ≤ g ∧ g < w.heap.size ∧ l.length ≤ cap ∧ cap ≤ maxLen ∧ cur.size = cap ∧ w.heap[g]? = some (.cells cur 9 (0, 0)) ∧ cur.toList.take l.length = cellsS l := by
  obtain ⟨_, ⟨_, h⟩ | ⟨g, cap, cur, hv, hB, hg, hn, hm, hs, ht⟩⟩ := h
  · omega
  · refine ⟨g, cap, cur, hv, hB, ?_, hn, hm, by omega, hg, by simpa using ht⟩
    rcases Nat.lt_or_ge g w.heap.size with h | h
    · exact h
    · rw [Array.getElem?_eq_none h] at hg; simp at hg
theorem OwnS.set {B : Nat} {w : World} {g n cap : Nat} {l : List ByteArray} (h : OwnS B w (.slice (some ⟨g, 0, none⟩) n cap) l) (k : Nat) (hk : k < l.length) (t : ByteArray) : OwnS B (w.setCell ⟨g, k, none⟩ (.string t)) (.slice (some ⟨g, 0, none⟩) n cap) (l.set k t) := by
  obtain ⟨g', cap', cur, hv, hB, hlt, hn, hm, hs, hg, ht⟩ := h.row (by omega)
  simp only [Value.slice.injEq, Option.some.injEq, Addr.mk.injEq, and_true] at hv
  obtain ⟨rfl, rfl, rfl⟩ := hv
  refine ⟨by simp [cellsS], .inr ⟨g, cap, cur.setIfInBounds k (.string t), by rw [List.length_set], hB, ?_, by rw [List.length_set]; exact hn, hm, by simpa using hs, ?_⟩⟩
  · rw [heap_setCell_same w g k _ _ _ hg]
  · rw [Array.toList_setIfInBounds, List.length_set, Nat.mul_one]
    have e : cellsS (l.set k t) = (cellsS l).set k (.string t) := by simp [cellsS, List.map_set]
    rw [e, ← ht, List.take_set]
theorem OwnS.cellAt {B : Nat} {w : World} {g n cap : Nat} {l : List ByteArray} (h : OwnS B w (.slice (some ⟨g, 0, none⟩) n cap) l) (k : Nat) (hk : k < l.length) : w.cell? ⟨g, k, none⟩ = some (.string (l.getD k ⟨#[]⟩)) ∧ w.frozen? ⟨g, k, none⟩ = false := by
  obtain ⟨g', cap', cur, hv, hB, hlt, hn, hm, hs, hg, ht⟩ := h.row (by omega)
  simp only [Value.slice.injEq, Option.some.injEq, Addr.mk.injEq, and_true] at hv
  obtain ⟨rfl, rfl, rfl⟩ := hv
  refine ⟨?_, frozen_of_row w g k _ _ hg⟩
  rw [cell_of_row w g k cur _ _ hg, ← Array.getElem?_toList, ← cellsS_at l k hk, ← ht, List.getElem?_take_of_lt hk]
theorem app_txt_at {ops : Array Oper} {rest : List Oper} {o : Oper} {a : Act} {Q : Exit → Act → World → Prop} (hgd : o.guard = none) (s y : Operand)
    (ho : o.op = .call { callee := .builtin .append, args := #[s, y], argTypes := #[22, 22] })
    {B : Nat} {w0 : World} {v : Value} {ts : List ByteArray} (hs : a.eval s = v) (hown : OwnS B w0 v ts) (hB : B ≤ w0.heap.size) (t : ByteArray)
    (hy : a.eval y = .slice (some ⟨w0.heap.size, 0, none⟩) 1 1) (hl : (ts.length + 1) * 16 ≤ 140737488355328)
    (h : ∀ v' w', OwnS B w' v' (ts ++ [t]) → w0.grownBy w' v.ownBlock → At v v' w0 → wpList Try.prog ops Q rest (a.put o.dst v') w') :
    wpList Try.prog ops Q (o :: rest) a (w0.alloc (.cells #[.string t] 9)) := by
  obtain ⟨i0, hi, hz0, hz1, hz2⟩ := info_parts info_str
  refine wpList_append_own_at _ hgd s y 22 ho B 9 i0 _ 1 16 Try.underlying22 hi hz0 hz1 hz2 rfl (by decide) v ts.length (cellsS ts) hs (World.ownsRow.alloc hown _) ⟨w0.heap.size, 0, none⟩ 1 1 [.string t] hy rfl ?_ ?_ (by unfold maxLen; omega) (by omega) (by simp; omega) ?_
  · intro j u hj
    rw [add_plain, Nat.zero_add, World.cell?_alloc_new, ← Array.getElem?_toList]; exact hj
  · intro v hv; simp only [List.mem_cons, List.not_mem_nil, or_false] at hv; rw [hv]; rfl
  · intro v' w' h1 h2 _ h3
    refine h v' w' ?_ (grown_alloc h2) (at_of h3 (by simp))
    show w'.ownsRow _ _ _ _ _ _
    have e : cellsS (ts ++ [t]) = cellsS ts ++ [.string t] := by simp [cellsS]
    rw [e, List.length_append]; exact h1

/-- The blocks of v are the owners. -/
def Lab (f : Nat → Nat) (i : Nat) (v : Value) : Prop := ∀ k, v.ownBlock = some k → f k = i
def upd {α : Type} (l : Nat → α) (i : Nat) (x : α) : Nat → α := fun j => if j = i then x else l j
theorem upd_at {α : Type} (l : Nat → α) (i : Nat) (x : α) : upd l i x i = x := if_pos rfl
theorem upd_ne {α : Type} (l : Nat → α) {i j : Nat} (x : α) (h : j ≠ i) : upd l i x j = l j := if_neg h
structure Mem (B : Nat) (w : World) (f : Nat → Nat) (A : Nat) (u : Nat → Value) (l : Nat → List UInt8) (gw : Nat) (vw : Value) (sw : WS) (vk : Value) (L : List UInt8) (vl : Value) (TL : List UInt8) (vx : Value) (X : List ByteArray) (vy : Value) (Y : List ByteArray) : Prop where
  a : w.heap[A]? = some (.cells #[u 0, u 1, u 2, u 3] 23 (0, 0))
  fa : f A = 9
  bA : B ≤ A
  o : ∀ i, i < 4 → Own B w (u i) (l i) ∧ Lab f i (u i)
  wr : WAt B w gw vw sw
  fw : f gw = 4 ∧ Lab f 4 vw
  k : Own B w vk L ∧ Lab f 5 vk
  ll : Own B w vl TL ∧ Lab f 6 vl
  x : OwnS B w vx X ∧ Lab f 7 vx
  y : OwnS B w vy Y ∧ Lab f 8 vy

theorem Mem.lt {B : Nat} {w : World} {f : Nat → Nat} {A : Nat} {u : Nat → Value} {l : Nat → List UInt8} {gw : Nat} {vw : Value} {sw : WS} {vk : Value} {L : List UInt8} {vl : Value} {TL : List UInt8} {vx : Value} {X : List ByteArray} {vy : Value} {Y : List ByteArray}
    (h : Mem B w f A u l gw vw sw vk L vl TL vx X vy Y) : A < w.heap.size := by
  rcases Nat.lt_or_ge A w.heap.size with q | q
  · exact q
  · have := h.a; rw [Array.getElem?_eq_none q] at this; simp at this
theorem Mem.cellA {B : Nat} {w : World} {f : Nat → Nat} {A : Nat} {u : Nat → Value} {l : Nat → List UInt8} {gw : Nat} {vw : Value} {sw : WS} {vk : Value} {L : List UInt8} {vl : Value} {TL : List UInt8} {vx : Value} {X : List ByteArray} {vy : Value} {Y : List ByteArray}
    (h : Mem B w f A u l gw vw sw vk L vl TL vx X vy Y) (i : Nat) (hi : i < 4) : w.cell? ⟨A, i, none⟩ = some (u i) ∧ w.frozen? ⟨A, i, none⟩ = false := by
  refine ⟨?_, frozen_of_row w A i _ _ h.a⟩
  rw [cell_of_row w A i _ _ _ h.a]
  match i, hi with
  | 0, _ => rfl
  | 1, _ => rfl
  | 2, _ => rfl
  | 3, _ => rfl
/-- What is not the owner js stays. -/
theorem Mem.other {B : Nat} {w w' : World} {f f' : Nat → Nat} {A : Nat} {u : Nat → Value} {l : Nat → List UInt8} {gw : Nat} {vw : Value} {sw : WS} {vk : Value} {L : List UInt8} {vl : Value} {TL : List UInt8} {vx : Value} {X : List ByteArray} {vy : Value} {Y : List ByteArray} {F : Nat → Prop}
    (h : Mem B w f A u l gw vw sw vk L vl TL vx X vy Y) (hk : Kept F w w') (j : Nat) (hF : ∀ k, k < w.heap.size → F k → f k = j) (hf : ∀ k, k < w.heap.size → f' k = f k) (h4 : j ≠ 4) (h5 : j ≠ 5) (h6 : j ≠ 6) (h9 : j ≠ 9) :
    w'.heap[A]? = some (.cells #[u 0, u 1, u 2, u 3] 23 (0, 0)) ∧ f' A = 9 ∧ (∀ i, i < 4 → i ≠ j → Own B w' (u i) (l i) ∧ Lab f' i (u i)) ∧ WAt B w' gw vw sw ∧ (f' gw = 4 ∧ Lab f' 4 vw) ∧ (Own B w' vk L ∧ Lab f' 5 vk) ∧ (Own B w' vl TL ∧ Lab f' 6 vl) ∧
      (j ≠ 7 → OwnS B w' vx X ∧ Lab f' 7 vx) ∧ (j ≠ 8 → OwnS B w' vy Y ∧ Lab f' 8 vy) := by
  have own : ∀ {v : Value} {m : List UInt8} {i : Nat}, Own B w v m ∧ Lab f i v → i ≠ j → Own B w' v m ∧ Lab f' i v := fun hv hne => by
    refine ⟨hv.1.kept hk (fun k hb hFk => hne ?_), fun k hb => ?_⟩
    · rw [← hv.2 k hb]; exact hF k (hv.1.lt k hb).2 hFk
    · rw [hf k (hv.1.lt k hb).2]; exact hv.2 k hb
  have ownS : ∀ {v : Value} {m : List ByteArray} {i : Nat}, OwnS B w v m ∧ Lab f i v → i ≠ j → OwnS B w' v m ∧ Lab f' i v := fun hv hne => by
    refine ⟨hv.1.kept hk (fun k hb hFk => hne ?_), fun k hb => ?_⟩
    · rw [← hv.2 k hb]; exact hF k (hv.1.lt k hb).2 hFk
    · rw [hf k (hv.1.lt k hb).2]; exact hv.2 k hb
  refine ⟨?_, by rw [hf A h.lt]; exact h.fa, fun i hi hne => own (h.o i hi) hne, ?_, ⟨by rw [hf gw h.wr.lt]; exact h.fw.1, fun k hb => ?_⟩, own h.k (Ne.symm h5), own h.ll (Ne.symm h6), fun q => ownS h.x (Ne.symm q), fun q => ownS h.y (Ne.symm q)⟩
  · rw [hk.block A h.lt (fun hFk => h9 (by rw [← hF A h.lt hFk]; exact h.fa))]; exact h.a
  · refine h.wr.kept hk (fun k hw hFk => h4 ?_)
    rw [← hF k (h.wr.foot k hw).2 hFk]
    rcases hw with rfl | hw
    · exact h.fw.1
    · exact h.fw.2 k hw.symm
  · rw [hf k (h.wr.foot k (Or.inr hb.symm)).2]; exact h.fw.2 k hb
theorem Mem.below {B : Nat} {w w' : World} {f : Nat → Nat} {A : Nat} {u : Nat → Value} {l : Nat → List UInt8} {gw : Nat} {vw : Value} {sw : WS} {vk : Value} {L : List UInt8} {vl : Value} {TL : List UInt8} {vx : Value} {X : List ByteArray} {vy : Value} {Y : List ByteArray}
    (h : Mem B w f A u l gw vw sw vk L vl TL vx X vy Y) (hb : Below w.heap.size w w') : Mem B w' f A u l gw vw sw vk L vl TL vx X vy Y := by
  obtain ⟨a, b, c, d, e, g, i, j, k⟩ := h.other (f' := f) (Below.kept hb (fun _ => False)) 100 (fun _ _ q => q.elim) (fun _ _ => rfl) (by decide) (by decide) (by decide) (by decide)
  exact ⟨a, b, h.bA, fun n hn => c n hn (by omega), d, e, g, i, j (by decide), k (by decide)⟩
theorem Mem.setU {B : Nat} {w w' : World} {f : Nat → Nat} {A : Nat} {u : Nat → Value} {l : Nat → List UInt8} {gw : Nat} {vw : Value} {sw : WS} {vk : Value} {L : List UInt8} {vl : Value} {TL : List UInt8} {vx : Value} {X : List ByteArray} {vy : Value} {Y : List ByteArray}
    (h : Mem B w f A u l gw vw sw vk L vl TL vx X vy Y) (i : Nat) (hi : i < 4) (l' : List UInt8) (hk : Kept (fun k => some k = (u i).ownBlock) w w') (ho : Own B w' (u i) l') : Mem B w' f A u (upd l i l') gw vw sw vk L vl TL vx X vy Y := by
  obtain ⟨a, b, c, d, e, g, p, q, r⟩ := h.other (f' := f) hk i (fun k _ hk => (h.o i hi).2 k hk.symm) (fun _ _ => rfl) (by omega) (by omega) (by omega) (by omega)
  refine ⟨a, b, h.bA, fun n hn => ?_, d, e, g, p, q (by omega), r (by omega)⟩
  by_cases hne : n = i
  · subst hne; rw [upd_at]; exact ⟨ho, (h.o n hn).2⟩
  · rw [upd_ne _ _ hne]; exact c n hn hne
theorem Mem.setX {B : Nat} {w w' : World} {f : Nat → Nat} {A : Nat} {u : Nat → Value} {l : Nat → List UInt8} {gw : Nat} {vw : Value} {sw : WS} {vk : Value} {L : List UInt8} {vl : Value} {TL : List UInt8} {vx : Value} {X X' : List ByteArray} {vy : Value} {Y : List ByteArray}
    (h : Mem B w f A u l gw vw sw vk L vl TL vx X vy Y) (hk : Kept (fun k => some k = vx.ownBlock) w w') (ho : OwnS B w' vx X') : Mem B w' f A u l gw vw sw vk L vl TL vx X' vy Y := by
  obtain ⟨a, b, c, d, e, g, p, q, r⟩ := h.other (f' := f) hk 7 (fun k _ hk => h.x.2 k hk.symm) (fun _ _ => rfl) (by omega) (by omega) (by omega) (by omega)
  exact ⟨a, b, h.bA, fun n hn => c n hn (by omega), d, e, g, p, ⟨ho, h.x.2⟩, r (by omega)⟩
def relab (w : World) (i : Nat) (f : Nat → Nat) : Nat → Nat := fun k => if w.heap.size ≤ k then i else f k
theorem relab_old {w : World} {i : Nat} {f : Nat → Nat} (k : Nat) (h : k < w.heap.size) : relab w i f k = f k := if_neg (by omega)
theorem relab_lab {w : World} {i : Nat} {f : Nat → Nat} {v v' : Value} (h : Lab f i v) (hl : ∀ k, v.ownBlock = some k → k < w.heap.size) (hat : At v v' w) : Lab (relab w i f) i v' := fun k hk => by
  rcases hat k hk.symm with q | q
  · rw [relab_old k (hl k q.symm)]; exact h k q.symm
  · exact if_pos q
theorem Mem.appX {B : Nat} {w w' : World} {f : Nat → Nat} {A : Nat} {u : Nat → Value} {l : Nat → List UInt8} {gw : Nat} {vw : Value} {sw : WS} {vk : Value} {L : List UInt8} {vl : Value} {TL : List UInt8} {vx vx' : Value} {X X' : List ByteArray} {vy : Value} {Y : List ByteArray}
    (h : Mem B w f A u l gw vw sw vk L vl TL vx X vy Y) (hg : w.grownBy w' vx.ownBlock) (ho : OwnS B w' vx' X') (hat : At vx vx' w) : Mem B w' (relab w 7 f) A u l gw vw sw vk L vl TL vx' X' vy Y := by
  obtain ⟨a, b, c, d, e, g, p, q, r⟩ := h.other (f' := relab w 7 f) (grown_kept hg) 7 (fun k _ hk => h.x.2 k hk.symm) (fun k hk => relab_old k hk) (by omega) (by omega) (by omega) (by omega)
  exact ⟨a, b, h.bA, fun n hn => c n hn (by omega), d, e, g, p, ⟨ho, relab_lab h.x.2 (fun k hk => (h.x.1.lt k hk).2) hat⟩, r (by omega)⟩
theorem Mem.appY {B : Nat} {w w' : World} {f : Nat → Nat} {A : Nat} {u : Nat → Value} {l : Nat → List UInt8} {gw : Nat} {vw : Value} {sw : WS} {vk : Value} {L : List UInt8} {vl : Value} {TL : List UInt8} {vx : Value} {X : List ByteArray} {vy vy' : Value} {Y Y' : List ByteArray}
    (h : Mem B w f A u l gw vw sw vk L vl TL vx X vy Y) (hg : w.grownBy w' vy.ownBlock) (ho : OwnS B w' vy' Y') (hat : At vy vy' w) : Mem B w' (relab w 8 f) A u l gw vw sw vk L vl TL vx X vy' Y' := by
  obtain ⟨a, b, c, d, e, g, p, q, r⟩ := h.other (f' := relab w 8 f) (grown_kept hg) 8 (fun k _ hk => h.y.2 k hk.symm) (fun k hk => relab_old k hk) (by omega) (by omega) (by omega) (by omega)
  exact ⟨a, b, h.bA, fun n hn => c n hn (by omega), d, e, g, p, q (by omega), ⟨ho, relab_lab h.y.2 (fun k hk => (h.y.1.lt k hk).2) hat⟩⟩
theorem row_set (u : Nat → Value) (i : Nat) (hi : i < 4) (v : Value) : (#[u 0, u 1, u 2, u 3] : Array Value).setIfInBounds i v = #[upd u i v 0, upd u i v 1, upd u i v 2, upd u i v 3] := by
  match i, hi with
  | 0, _ => rfl
  | 1, _ => rfl
  | 2, _ => rfl
  | 3, _ => rfl
theorem Mem.appU {B : Nat} {w w' : World} {f : Nat → Nat} {A : Nat} {u : Nat → Value} {l : Nat → List UInt8} {gw : Nat} {vw : Value} {sw : WS} {vk : Value} {L : List UInt8} {vl : Value} {TL : List UInt8} {vx : Value} {X : List ByteArray} {vy : Value} {Y : List ByteArray}
    (h : Mem B w f A u l gw vw sw vk L vl TL vx X vy Y) (i : Nat) (hi : i < 4) (u' : Value) (l' : List UInt8) (hg : w.grownBy w' (u i).ownBlock) (ho : Own B w' u' l') (hat : At (u i) u' w) :
    Mem B (w'.setCell ⟨A, i, none⟩ u') (relab w i f) A (upd u i u') (upd l i l') gw vw sw vk L vl TL vx X vy Y := by
  obtain ⟨a, b, c, d, e, g, p, q, r⟩ := h.other (f' := relab w i f) (grown_kept hg) i (fun k _ hk => (h.o i hi).2 k hk.symm) (fun k hk => relab_old k hk) (by omega) (by omega) (by omega) (by omega)
  have lab' : Lab (relab w i f) i u' := relab_lab (h.o i hi).2 (fun k hk => ((h.o i hi).1.lt k hk).2) hat
  have ks : Kept (fun x => x = A) w' (w'.setCell ⟨A, i, none⟩ u') := kept_set w' ⟨A, i, none⟩ _ rfl
  have own : ∀ {v : Value} {m : List UInt8} {n : Nat}, Own B w' v m ∧ Lab (relab w i f) n v → n ≠ 9 → Own B (w'.setCell ⟨A, i, none⟩ u') v m ∧ Lab (relab w i f) n v := fun hv hne =>
    ⟨hv.1.kept ks (fun k hb hFk => hne (by rw [← hv.2 k hb, hFk]; exact b)), hv.2⟩
  have ownS : ∀ {v : Value} {m : List ByteArray} {n : Nat}, OwnS B w' v m ∧ Lab (relab w i f) n v → n ≠ 9 → OwnS B (w'.setCell ⟨A, i, none⟩ u') v m ∧ Lab (relab w i f) n v := fun hv hne =>
    ⟨hv.1.kept ks (fun k hb hFk => hne (by rw [← hv.2 k hb, hFk]; exact b)), hv.2⟩
  refine ⟨?_, b, h.bA, fun n hn => ?_, ?_, e, own g (by decide), own p (by decide), ownS (q (by omega)) (by decide), ownS (r (by omega)) (by decide)⟩
  · rw [heap_setCell_same w' A i _ _ _ a, row_set u i hi]
  · by_cases hne : n = i
    · subst hne; rw [upd_at, upd_at]; exact own ⟨ho, lab'⟩ (by omega)
    · rw [upd_ne _ _ hne, upd_ne _ _ hne]; exact own (c n hn hne) (by omega)
  · refine d.kept ks (fun k hw hFk => ?_)
    have : relab w i f k = 4 := by
      rcases hw with rfl | hw
      · exact e.1
      · exact e.2 k hw.symm
    rw [hFk, b] at this; omega
end Go.Proofs.Ytmabmmmiljkeeaa
