/-
  DevLeaves: what holds behind k of the writes.
-/
import Derived.Test.YtlnjclabnpenmaaLvB
import Derived.Test.YtlnjclabnpenmaaCarH
import Derived.Test.YtlnjclabnpenmaaLawArmed
namespace Go.Proofs.Ytlnjclabnpenmaa
open Go.RowKit Go.Maps
structure Lz (fs : List (Int × Int)) (M : List UInt8) (k : Nat) (s : DS) (one two : List (List UInt8 × (Int × Int))) : Prop where
  armed : s.armed = false
  down : s.down = false
  n : s.n = 64
  med : s.med = M
  ws : s.ws ≤ 401 + k
  len : s.cache.length = k
  sum : one.length + two.length = k
  o5 : ∀ x ∈ one, x.1.length = 512
  t5 : ∀ x ∈ two, x.1.length = 512
  r : LvR fs M s.cache one two
theorem Lz.one {fs : List (Int × Int)} {M : List UInt8} {k : Nat} {s : DS} {one two : List (List UInt8 × (Int × Int))} (h : Lz fs M k s one two) (p : List UInt8) (hp : p.length = 512) : Lz fs M (k + 1) (addW s 7 p) (one ++ [(p, fateAt fs k)]) two := by
  have q := h.r.one p hp
  rw [h.len] at q
  have := h.sum
  have := h.ws
  have := h.len
  exact ⟨h.armed, h.down, h.n, h.med, by show s.ws + 1 ≤ _; omega, by show (s.cache ++ [(7, p)]).length = _; simp; omega, by simp; omega, fun x hx => by
    rcases List.mem_append.1 hx with hx | hx
    · exact h.o5 x hx
    · simp at hx; rw [hx]; exact hp, h.t5, q⟩
theorem Lz.two {fs : List (Int × Int)} {M : List UInt8} {k : Nat} {s : DS} {one two : List (List UInt8 × (Int × Int))} (h : Lz fs M k s one two) (p : List UInt8) (hp : p.length = 512) : Lz fs M (k + 1) (addW s 8 p) one (two ++ [(p, fateAt fs k)]) := by
  have q := h.r.two p hp
  rw [h.len] at q
  have := h.sum
  have := h.ws
  have := h.len
  exact ⟨h.armed, h.down, h.n, h.med, by show s.ws + 1 ≤ _; omega, by show (s.cache ++ [(8, p)]).length = _; simp; omega, by simp; omega, h.o5, fun x hx => by
    rcases List.mem_append.1 hx with hx | hx
    · exact h.t5 x hx
    · simp at hx; rw [hx]; exact hp, q⟩
theorem full_of (x : Int) (c : UInt8) (hx : x = c8 c) (w : World) : Calls Try.prog 13 #[.int .u8 x] w fun e w' => ∃ p, p = List.replicate 512 c ∧ e = .returned (.slice (some ⟨w.heap.size, 0, none⟩) 512 512) ∧ Own w.heap.size w' (.slice (some ⟨w.heap.size, 0, none⟩) 512 512) p ∧ Below w.heap.size w w' := by
  subst hx
  exact (full_any c w).mono (fun _ _ h => ⟨_, rfl, h⟩)
theorem bools_at {w W : World} {a : Option Addr} {n cap : Nat} {l : List Bool} (H : Bools w (.slice a n cap) l) (hb : Below w.heap.size w W) {k : Nat} (hk : k < n) : ∃ bo oo q, a = some ⟨bo, oo, none⟩ ∧ bo < w.heap.size ∧ W.cell? ⟨bo, oo + k, none⟩ = some (.bool q) := by
  obtain ⟨a', c', e', _, _, hc⟩ := H
  simp only [Value.slice.injEq] at e'
  obtain ⟨bo, oo, ea, hcell⟩ := hc k (by omega)
  exact ⟨bo, oo, _, by rw [e'.1, ea], block_lt_of_cell hcell, (hb.cell (block_lt_of_cell hcell)).trans hcell⟩
theorem fts_at {w W : World} {a : Option Addr} {n cap : Nat} {fs : List (Int × Int)} (H : Fts w (.slice a n cap) fs) (hb : Below w.heap.size w W) {k : Nat} (hk : k < n) {f1 f2 : Int} (hf : fateAt fs k = (f1, f2)) : ∃ bf off, a = some ⟨bf, off, none⟩ ∧ W.cell? ⟨bf, off + k * 2, none⟩ = some (.int .i64 f1) ∧ W.cell? ⟨bf, off + k * 2 + 1, none⟩ = some (.int .i64 f2) := by
  obtain ⟨a', c', e', _, _, _, hc⟩ := H
  simp only [Value.slice.injEq] at e'
  obtain ⟨bf, off, ea, h1, h2⟩ := hc k (by omega)
  unfold fateAt at hf
  rw [hf] at h1 h2
  exact ⟨bf, off, by rw [e'.1, ea], (hb.cell (block_lt_of_cell h1)).trans h1, (hb.cell (block_lt_of_cell h2)).trans h2⟩
theorem row_slice {B e k n : Nat} {W : World} {v : Value} {xs : List Value} (H : W.ownsRow B e k v n xs) : ∃ a m c, v = .slice a m c := by
  obtain ⟨_, ⟨hv, hn⟩ | ⟨g, cap, cur, hv, _⟩⟩ := H
  · exact ⟨_, _, _, hv⟩
  · exact ⟨_, _, _, hv⟩
theorem row_len {B e k n : Nat} {W : World} {v : Value} {xs : List Value} (H : W.ownsRow B e k v n xs) : ∃ a c, v = .slice a n c := by
  obtain ⟨_, ⟨hv, hn⟩ | ⟨g, cap, cur, hv, _⟩⟩ := H
  · exact ⟨_, _, by rw [hv, hn]⟩
  · exact ⟨_, _, hv⟩
/-- Some bytes in the midst. -/
theorem bytes_mid {W : World} {vb c o n m : Nat} {L P : List UInt8} (H : Bytes W (.slice (some ⟨vb, 0, none⟩) 32768 c) L) (hL : L.length = 32768) (hP : P = (L.drop o).take n) (h : o + n ≤ 32768) (hm : n ≤ m) (hm2 : m ≤ 32768) : Bytes W (.slice (some ⟨vb, o, none⟩) n m) P := by
  obtain ⟨a, cap, e, _, _, _, hc⟩ := H
  simp only [Value.slice.injEq] at e
  have lp : P.length = n := by rw [hP, List.length_take, List.length_drop]; omega
  refine ⟨_, m, by rw [lp], by omega, by unfold maxLen; omega, (fun h => by cases h), fun k hk => ⟨vb, o, rfl, ?_⟩⟩
  obtain ⟨b2, o2, e2, h2⟩ := hc (o + k) (by omega)
  rw [← e.1] at e2
  simp only [Option.some.injEq, Addr.mk.injEq, and_true] at e2
  obtain ⟨rfl, rfl⟩ := e2
  rw [Nat.zero_add] at h2
  rw [h2, hP]
  congr 3
  rw [List.getD_eq_getElem?_getD, List.getD_eq_getElem?_getD, List.getElem?_take_of_lt (by omega), List.getElem?_drop]
theorem same_true {W : World} {v v' : Value} {l : List UInt8} (h : Bytes W v l) (h' : Bytes W v' l) (n : Nat) : Calls Try.prog 15 #[v, v'] (W.drewN n) fun e w' => e = .returned (.bool true) ∧ w' = W.drewN n := by
  refine (same_any v v' l l _ (h.drewN n) (h'.drewN n)).mono ?_
  rintro e w' ⟨rfl, rfl⟩
  exact ⟨by rw [decide_eq_true rfl], rfl⟩
theorem last_own {B : Nat} {W : World} {v x : Value} {us : List Value} {ps : List (List UInt8)} {p : List UInt8} (H : OwnL B W v (us ++ [x]) (ps ++ [p])) : Own B W x p := by
  have hl : us.length = ps.length := by have := H.2.1; simpa using this
  have := H.2.2 us.length x (by simp)
  rw [hl, List.getD_eq_getElem?_getD, List.getElem?_append_right (Nat.le_refl _), Nat.sub_self] at this
  exact this
/-- The cells of a row that an append onto another leaves. -/
theorem fate_cells {W : World} {g : Nat} {f1 f2 : Int} (h : W.heap[g]? = some (.cells #[.int .i64 f1, .int .i64 f2] 57 (0, 0))) : W.cell? ⟨g, 0, none⟩ = some (.int .i64 f1) ∧ W.cell? ⟨g, 1, none⟩ = some (.int .i64 f2) := by
  rw [cell_of_row W _ _ _ _ _ h, cell_of_row W _ _ _ _ _ h]
  exact ⟨rfl, rfl⟩
end Go.Proofs.Ytlnjclabnpenmaa
