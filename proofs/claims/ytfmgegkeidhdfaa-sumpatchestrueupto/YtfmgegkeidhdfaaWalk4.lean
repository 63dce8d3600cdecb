/-
  THE WALKS of package sum: Update, Sum; the laws fixed.
-/
import Derived.Test.YtfmgegkeidhdfaaWalk3
import Derived.Lib.SlBytesConst
import Derived.Deep.WholeRow
namespace Go.Proofs.Ytfmgegkeidhdfaa
open Go.RowKit

theorem Bytes.below {w w' : World} {v : Value} {l : List (BitVec 8)} (H : Bytes w v l) (hb : Below w.heap.size w w') : Bytes w' v l := by
  obtain ⟨a, cap, e, h1, h2, h0, h3⟩ := H
  refine ⟨a, cap, e, h1, h2, h0, fun k hk => ?_⟩
  obtain ⟨b, off, ea, hc⟩ := h3 k hk
  exact ⟨b, off, ea, by rw [hb.cell (p := ⟨b, off + k, none⟩) (block_lt_of_cell hc)]; exact hc⟩

/-- The sum of x + l out of the sum of x. -/
def upd (x : BitVec 32) (l : List (BitVec 8)) : BitVec 32 := ~~~ over (~~~ x) l
theorem u_not (x : BitVec 32) : bits .xor .u32 IntKind.u32.max (u x) = u (~~~ x) := by
  have h : bits .xor .u32 (u (BitVec.allOnes 32)) (u x) = u (BitVec.allOnes 32 ^^^ x) := bits_xor_u _ _
  rw [BitVec.allOnes_xor] at h; exact h

theorem store_tab {cs : Array Value} (w1 : World) (H : Done cs 0) :
    (storeCells ⟨w1.heap.size, 0, none⟩ cs.toList).run Try.prog (w1.alloc (.cells zt 47)) = .ok () (w1.alloc (.cells cs 47)) :=
  run_storeCells_new w1 47 zt cs (by rw [H.1]; exact info_tab) (by rw [zt_size, H.1]) (all_tab H)

theorem feed_eq {n : Int} {x : BitVec 32} (hn : n = u x) (g : Nat) (v : Value) (l : List (BitVec 8)) (w : World) (hv : Bytes w v l)
    (ht : ∀ i : BitVec 8, w.cell? ⟨g, i.toNat, none⟩ = some (.int .u32 (u (shN 8 (i.zeroExtend 32))))) :
    Calls Try.prog 23 #[.pointer (some ⟨g, 0, none⟩), .int .u32 n, v] w fun e w' => e = .returned (.int .u32 (u (over x l))) ∧ w' = w := by
  rw [hn]; exact feed_any g x v l w hv ht
theorem tab_cells {cs : Array Value} (w1 : World) (H : Done cs 0) (i : BitVec 8) :
    (w1.alloc (.cells cs 47)).cell? ⟨w1.heap.size, i.toNat, none⟩ = some (.int .u32 (u (shN 8 (i.zeroExtend 32)))) := by
  rw [World.cell?_alloc_new, H.2 i.toNat i.isLt (by omega)]
  unfold tt; rw [BitVec.ofNat_toNat]

set_option maxHeartbeats 400000 in
set_option maxRecDepth 100000 in
theorem update_any (x : BitVec 32) (v : Value) (l : List (BitVec 8)) (w : World) (hv : Bytes w v l) :
    Calls Try.prog 17 #[.int .u32 (u x), v] w fun e w' => e = .returned (.int .u32 (u (upd x l))) ∧ Below w.heap.size w w' := by
  have hz := zero_tab
  go_enter Try.func17, Try.ntmps17
  go_wp2_with (go_at_call 22; refine (table_any _).mono ?_; rintro e w1 ⟨cs, rfl, hd, hb⟩; have hsz := hd.1; have hst := store_tab w1 hd; have hd' : Aside (Done cs 0 ∧ Below w.heap.size w w1) := ⟨hd, hb⟩; clear hd hb)
  have hb2 : Below w.heap.size w (w1.alloc (.cells cs 47)) := hd'.out.2.alloc hd'.out.2.size _
  refine (feed_eq (u_not x) w1.heap.size v l _ (hv.below hb2) (tab_cells w1 hd'.out.1)).mono ?_
  rintro e w' ⟨rfl, rfl⟩
  have B : Aside (Below w.heap.size w (w1.alloc (.cells cs 47))) := hb2
  clear hb2
  go_wp2
  go_ret
  exact ⟨ret_int (u_not _), B.out⟩

set_option maxHeartbeats 400000 in
theorem sum_any (v : Value) (l : List (BitVec 8)) (w : World) (hv : Bytes w v l) :
    Calls Try.prog 13 #[v] w fun e w' => e = .returned (.int .u32 (u (upd 0#32 l))) ∧ Below w.heap.size w w' := by
  go_enter Try.func13, Try.ntmps13
  go_wp2_with (go_at_call 17; refine (update_any 0#32 v l w hv).mono ?_; rintro e w' ⟨rfl, hb⟩; have B : Aside (Below w.heap.size w w') := hb; clear hb)
  go_ret
  exact ⟨rfl, B.out⟩

/-- The bytes of "123456789". -/
def nine : List (BitVec 8) := [49#8, 50#8, 51#8, 52#8, 53#8, 54#8, 55#8, 56#8, 57#8]
theorem nine_sum : u (upd 0#32 nine) = 3808858755 := by decide +kernel
theorem nine_at (w : World) : Bytes (w.alloc (.cells #[.int .u8 49, .int .u8 50, .int .u8 51, .int .u8 52, .int .u8 53, .int .u8 54, .int .u8 55, .int .u8 56, .int .u8 57] 5 (9, 10))) (.slice (some ⟨w.heap.size, 0, none⟩) 9 9) nine := by
  refine ⟨_, 9, rfl, by decide, by decide, fun h => by simp at h, fun k hk => ⟨w.heap.size, 0, rfl, ?_⟩⟩
  rw [World.cell?_alloc_mark]
  have hk' : k < 9 := hk
  have key : ∀ k : Fin 9, (#[.int .u8 49, .int .u8 50, .int .u8 51, .int .u8 52, .int .u8 53, .int .u8 54, .int .u8 55, .int .u8 56, .int .u8 57] : Array Value)[0 + k.val]? = some (Value.int .u8 (c8 (nine.getD k.val 0#8))) := by
    intro k
    match k with
    | ⟨0, _⟩ | ⟨1, _⟩ | ⟨2, _⟩ | ⟨3, _⟩ | ⟨4, _⟩ | ⟨5, _⟩ | ⟨6, _⟩ | ⟨7, _⟩ | ⟨8, _⟩ => rfl
  exact key ⟨k, hk'⟩
set_option maxHeartbeats 400000 in
theorem fixed_any (w : World) :
    Calls Try.prog 9 #[] w fun e w' => e = .returned (.bool true) ∧ Below w.heap.size w w' := by
  have kc := fun (w : World) (C : Array Value) (n c : Nat) => Lib.run_convert_bytes_const (P := Try.prog) w 28 5 C n c Try.underlying28 Try.underlying5
  have hu := nine_sum
  go_enter Try.func9, Try.ntmps9
  go_wp2_with fail
  refine (sum_any _ nine _ (nine_at w)).mono ?_
  rintro e w' ⟨rfl, hb⟩
  have B : Aside (Below w.heap.size w w') := ((Below.refl _ _).alloc (Nat.le_refl _) _).trans (hb.mono (by simp))
  clear hb
  go_wp2
  go_ret
  exact ⟨rfl, B.out⟩
end Go.Proofs.Ytfmgegkeidhdfaa
