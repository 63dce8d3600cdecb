/-
  THE WALKS of package sum: Seal.
-/
import Derived.Test.YtfmgegkeidhdfabWalk6
import Derived.Laws.CopyOwn
import Derived.Laws.MakeOwn
namespace Go.Proofs.Ytfmgegkeidhdfab
open Go.RowKit

/-- A sums four bytes, the lowest first. -/
def le4 (r : BitVec 32) : List (BitVec 8) := [r.setWidth 8, (r >>> 8).setWidth 8, (r >>> 16).setWidth 8, (r >>> 24).setWidth 8]
theorem u_byte (x : BitVec 32) (k : Nat) : u x / 2 ^ k % (256 : Int) = c8 ((x >>> k).setWidth 8) := by
  rw [shr_u, u_low]
theorem le4_cells (r : BitVec 32) : [Value.int .u8 (u r % 256), .int .u8 (u r / 256 % 256), .int .u8 (u r / 65536 % 256), .int .u8 (u r / 16777216 % 256)] = cells8 (le4 r) := by
  have h1 := u_low r
  have h2 := u_byte r 8
  have h3 := u_byte r 16
  have h4 := u_byte r 24
  simp only [cells8, le4, List.map_cons, List.map_nil, ← h1, ← h2, ← h3, ← h4]
  rfl
/-- A string and its sum. -/
def sealed (l : List (BitVec 8)) : List (BitVec 8) := l ++ le4 (upd 0#32 l)
theorem seal_length (l : List (BitVec 8)) : (sealed l).length = l.length + 4 := by simp [sealed, le4]

theorem size_byte : (Try.prog.info? 5).map (·.size) = some 1 := by kernel_rfl
theorem splice_take {α : Type} (L cs : List α) : (splice L 0 cs).take cs.length = cs := by simp [splice]

theorem make_bytes (w : World) {a b : Int} (len cap : Nat) (ha : a = len) (hb : b = cap) (h : len ≤ cap) (hc : cap ≤ 140737488355328) :
    (Instr.makeSlice 22 (.int .i64 a) (.int .i64 b)).run Try.prog w = .ok (.slice (some ⟨w.heap.size, 0, none⟩) len cap) (w.alloc (.cells (madeCells #[.int .u8 0] cap) 5)) := by
  subst ha hb
  obtain ⟨i0, hi, hz0, hz1, hz2⟩ := info_parts info_byte
  have h := run_make (P := Try.prog) w 22 5 i0 (.int .u8 0) Try.underlying22 hi hz0 .i64 .i64 (len : Int) (cap : Int) (by omega) (by omega) (by rw [hz2]; omega) (by omega)
  simpa [hz1, Value.cells] using h
theorem made_heap (w : World) (cap : Nat) : (w.alloc (.cells (madeCells #[.int .u8 0] cap) 5)).heap[w.heap.size]? = some (.cells (madeCells #[.int .u8 0] cap).toList.toArray 5 (0, 0)) := by
  rw [heap_alloc_new]
theorem made_length (cap : Nat) : (madeCells #[.int .u8 0] cap).toList.length = cap := by rw [Array.length_toList, size_madeCells]

/-- A source of a copy. -/
theorem Bytes.src {w : World} {a : Option Addr} {cap : Nat} {l m : List (BitVec 8)} (H : Bytes w (.slice a l.length cap) l) (hm : ∀ k, k < m.length → k < l.length ∧ l.getD k 0#8 = m.getD k 0#8) :
    0 < (cells8 m).length → ∃ ad, a = some ad ∧ ∀ j v, (cells8 m)[j]? = some v → w.cell? (ad.add j) = some v := by
  intro hp
  rw [cells8_length] at hp
  obtain ⟨a', cap', e, _, _, _, hc⟩ := H
  simp only [Value.slice.injEq, true_and] at e
  obtain ⟨rfl, rfl⟩ := e
  obtain ⟨b, off, rfl, _⟩ := hc 0 (hm 0 hp).1
  refine ⟨_, rfl, news8 fun k hk => ?_⟩
  obtain ⟨b', off', e, h⟩ := hc k (hm k hk).1
  exact ⟨b', off', e, by rw [h, (hm k hk).2]⟩

theorem new_cells (w : World) (xs : Array Value) : ∀ j v, xs.toList[j]? = some v → (w.alloc (.cells xs 5)).cell? ((⟨w.heap.size, 0, none⟩ : Addr).add j) = some v := by
  intro j v hv
  rw [add_plain, Nat.zero_add, World.cell?_alloc_new, ← Array.getElem?_toList]; exact hv
theorem own_made {w1 : World} {g n cap : Nat} {l : List (BitVec 8)} {z : Array Value} (H : w1.heap[g]? = some (.cells (splice (madeCells z cap).toList 0 (cells8 l)).toArray 5 (0, 0))) (hn : l.length ≤ cap ∧ l.length = n ∧ cap ≤ maxLen) :
    w1.ownsRow g 5 1 (.slice (some ⟨g, 0, none⟩) n cap) n (cells8 l) := by
  obtain ⟨h1, rfl, h2⟩ := hn
  have hm : (madeCells z cap).toList.length = cap := by simp [size_madeCells]
  refine ⟨by rw [cells8_length, Nat.mul_one], .inr ⟨g, cap, _, rfl, Nat.le_refl _, H, h1, h2, ?_, ?_⟩⟩
  · rw [List.size_toArray, length_splice _ _ _ (by rw [cells8_length, hm, Nat.zero_add]; exact h1), hm, Nat.mul_one]
  · rw [Nat.mul_one]; have := splice_take (madeCells z cap).toList (cells8 l); rw [cells8_length] at this; exact this
theorem owns_below {B e k n : Nat} {w w' : World} {v : Value} {xs : List Value} (H : w.ownsRow B e k v n xs) (hb : Below w.heap.size w w') : w'.ownsRow B e k v n xs := by
  obtain ⟨h1, h | ⟨g, cap, cur, hv, hB, hg, hr⟩⟩ := H
  · exact ⟨h1, .inl h⟩
  · have hlt : g < w.heap.size := by
      rcases Nat.lt_or_ge g w.heap.size with h | h
      · exact h
      · rw [Array.getElem?_eq_none h] at hg; simp at hg
    exact ⟨h1, .inr ⟨g, cap, cur, hv, hB, by rw [hb.block g hlt]; exact hg, hr⟩⟩

set_option maxHeartbeats 1000000 in
theorem seal_at (v : Value) (l : List (BitVec 8)) (w : World) (hv : Bytes w v l) (hl : l.length ≤ 140737488355300) :
    Calls Try.prog 9 #[v] w fun e w' => e = .returned (.slice (some ⟨w.heap.size, 0, none⟩) (l.length + 4) (l.length + 4)) ∧ Own w.heap.size w' (.slice (some ⟨w.heap.size, 0, none⟩) (l.length + 4) (l.length + 4)) (sealed l) ∧ Below w.heap.size w w' := by
  obtain ⟨i0, hi, hz0, hz1, hz2⟩ := info_parts info_byte
  have V : Aside (Bytes w v l) := hv
  obtain ⟨a, cap, rfl, hlc, hcm, _, _⟩ := hv
  unfold maxLen at hcm
  have hmk : (Instr.makeSlice 22 (.int .i64 (l.length : Int)) (.int .i64 ((l.length : Int) + 4))).run Try.prog w = .ok (.slice (some ⟨w.heap.size, 0, none⟩) l.length (l.length + 4)) (w.alloc (.cells (madeCells #[.int .u8 0] (l.length + 4)) 5)) :=
    make_bytes w l.length (l.length + 4) rfl (by omega) (by omega) (by omega)
  have hB : Below w.heap.size w (w.alloc (.cells (madeCells #[.int .u8 0] (l.length + 4)) 5)) := (Below.refl _ _).alloc (Nat.le_refl _) _
  have hsrc : 0 < (cells8 l).length → some (⟨w.heap.size, 0, none⟩ : Addr) = some ⟨w.heap.size, 0, none⟩ ∧ ∃ ad, a = some ad ∧ ∀ j v, (cells8 l)[j]? = some v → (w.alloc (.cells (madeCells #[.int .u8 0] (l.length + 4)) 5)).cell? (ad.add j) = some v :=
    fun hp => ⟨rfl, (V.out.below hB).src (fun k hk => ⟨hk, rfl⟩) hp⟩
  have S : Hid (0 < (cells8 l).length → some (⟨w.heap.size, 0, none⟩ : Addr) = some ⟨w.heap.size, 0, none⟩ ∧ ∃ ad, a = some ad ∧ ∀ j v, (cells8 l)[j]? = some v → (w.alloc (.cells (madeCells #[.int .u8 0] (l.length + 4)) 5)).cell? (ad.add j) = some v) := hsrc
  have B : Hid (Below w.heap.size w (w.alloc (.cells (madeCells #[.int .u8 0] (l.length + 4)) 5))) := hB
  clear hsrc hB
  go_enter Try.func9, Try.ntmps9
  go_wp2_with ((refine wpList_copy_splice rfl _ _ 22 22 rfl 5 Try.underlying22 size_byte (some ⟨w.heap.size, 0, none⟩) a l.length (l.length + 4) l.length cap rfl rfl w.heap.size 0 (madeCells #[.int .u8 0] (l.length + 4)).toList 5 (made_heap w (l.length + 4)) (cells8 l) ?h1 S.out ?h2 (cells8_one l) w.heap.size w B.out (Nat.le_refl _) ?_))
  case h1 => exact cells8_length l
  case h2 => rw [cells8_length, size_madeCells]; omega
  intro w1 HG hb
  have R : Hid (w1.ownsRow w.heap.size 5 1 (.slice (some ⟨w.heap.size, 0, none⟩) l.length (l.length + 4)) l.length (cells8 l)) := own_made HG.out (by unfold maxLen; omega)
  have B1 : Aside (Below w.heap.size w w1) := hb
  clear HG hb S B hmk
  go_wp2_with fail
  refine (sum_ex _ l w1 (V.out.below B1.out)).mono ?_
  rintro e w2 ⟨r, rfl, e2, hb⟩
  have R2 : Hid (w2.ownsRow w.heap.size 5 1 (.slice (some ⟨w.heap.size, 0, none⟩) l.length (l.length + 4)) l.length (cells8 l)) := owns_below R.out hb
  have B2 : Aside (Below w.heap.size w w2) := B1.out.trans (hb.mono B1.out.size)
  clear hb R B1
  go_wp2_with (at_builtin; refine wpList_append_fits _ rfl _ _ 22 rfl w.heap.size 5 i0 1 Try.underlying22 hi hz1 w.heap.size l.length (l.length + 4) (cells8 l) rfl (R2.out.alloc _) ⟨w2.heap.size, 0, none⟩ 4 4 [.int .u8 (u r % 256), .int .u8 (u r / 256 % 256), .int .u8 (u r / 65536 % 256), .int .u8 (u r / 16777216 % 256)] rfl rfl ?c1 ?c2 (Nat.le_refl _) ?_)
  case c1 => exact fun j v hv => new_cells w2 #[.int .u8 (u r % 256), .int .u8 (u r / 256 % 256), .int .u8 (u r / 65536 % 256), .int .u8 (u r / 16777216 % 256)] j v hv
  case c2 => intro v hv; simp only [List.mem_cons, List.not_mem_nil, or_false] at hv; rcases hv with rfl | rfl | rfl | rfl <;> rfl
  intro w3 ho hg
  rw [le4_cells, ← cells8_app, e2.out] at ho
  have A : Aside (Own w.heap.size w3 (.slice (some ⟨w.heap.size, 0, none⟩) (l.length + 4) (l.length + 4)) (sealed l)) := by
    show w3.ownsRow _ _ _ _ _ _
    rw [seal_length]; exact ho
  have B3 : Aside (Below w.heap.size w w3) := (B2.out.alloc B2.out.size _).grown hg (by have := B2.out.size; simp; omega) (fun k hk => by simp at hk; omega)
  clear ho hg R2 B2
  go_wp2
  go_ret
  exact ⟨rfl, A.out, B3.out⟩
theorem seal_any (v : Value) (l : List (BitVec 8)) (w : World) (hv : Bytes w v l) (hl : l.length ≤ 140737488355300) :
    Calls Try.prog 9 #[v] w fun e w' => ∃ v', e = .returned v' ∧ Own w.heap.size w' v' (sealed l) ∧ Below w.heap.size w w' :=
  (seal_at v l w hv hl).mono fun _ _ h => ⟨_, h.1, h.2.1, h.2.2⟩
end Go.Proofs.Ytfmgegkeidhdfab
