/-
  THE WALKS of package sum: Update, Sum; the laws fixed.
-/
import Derived.Test.YtbdlebengmbooaaSmB
import Derived.Lib.SlBytesConst
import Derived.Deep.WholeRow
namespace Go.Proofs.Ytbdlebengmbooaa.Sm
open Go.RowKit

theorem Bytes.below {w w' : World} {v : Value} {l : List (BitVec 8)} (H : Bytes w v l) (hb : Below w.heap.size w w') : Bytes w' v l := by
  obtain ⟨a, cap, e, h1, h2, h0, h3⟩ := H
  refine ⟨a, cap, e, h1, h2, h0, fun k hk => ?_⟩
  obtain ⟨b, off, ea, hc⟩ := h3 k hk
  exact ⟨b, off, ea, by rw [hb.cell (p := ⟨b, off + k, none⟩) (block_lt_of_cell hc)]; exact hc⟩

/-- The sum of x + l out of the sum of x. -/
def upd (x : BitVec 32) (l : List (BitVec 8)) : BitVec 32 := ~~~ over (~~~ x) l
theorem u_not (x : BitVec 32) : bits .xor .u32 IntKind.u32.max (u x) = u (~~~ x) := by
  have h : bits .xor .u32 (u (BitVec.allOnes 32)) (u x) = u (BitVec.allOnes 32 ^^^ x) := bits_xor_u _ _
  rw [BitVec.allOnes_xor] at h; exact h

theorem store_tab {cs : Array Value} (w1 : World) (H : Done cs 0) :
    (storeCells ⟨w1.heap.size, 0, none⟩ cs.toList).run Try.prog (w1.alloc (.cells zt 103)) = .ok () (w1.alloc (.cells cs 103)) :=
  run_storeCells_new w1 103 zt cs (by rw [H.1]; exact info_tab) (by rw [zt_size, H.1]) (all_tab H)

theorem feed_eq {n : Int} {x : BitVec 32} (hn : n = u x) (g : Nat) (v : Value) (l : List (BitVec 8)) (w : World) (hv : Bytes w v l)
    (ht : ∀ i : BitVec 8, w.cell? ⟨g, i.toNat, none⟩ = some (.int .u32 (u (shN 8 (i.zeroExtend 32))))) :
    Calls Try.prog 66 #[.pointer (some ⟨g, 0, none⟩), .int .u32 n, v] w fun e w' => e = .returned (.int .u32 (u (over x l))) ∧ w' = w := by
  rw [hn]; exact feed_any g x v l w hv ht
theorem tab_cells {cs : Array Value} (w1 : World) (H : Done cs 0) (i : BitVec 8) :
    (w1.alloc (.cells cs 103)).cell? ⟨w1.heap.size, i.toNat, none⟩ = some (.int .u32 (u (shN 8 (i.zeroExtend 32)))) := by
  rw [World.cell?_alloc_new, H.2 i.toNat i.isLt (by omega)]
  unfold tt; rw [BitVec.ofNat_toNat]

/-- The slice v holds slices that hold the strings ls. -/
def Lists (w : World) (v : Value) (ls : List (List (BitVec 8))) : Prop :=
  ∃ a cap, v = .slice a ls.length cap ∧ ls.length ≤ cap ∧ cap ≤ maxLen ∧ (∀ k, k < ls.length → ∃ b off p, a = some ⟨b, off, none⟩ ∧ w.cell? ⟨b, off + k, none⟩ = some p ∧ Bytes w p (ls.getD k []))
theorem Lists.below {w w' : World} {v : Value} {ls : List (List (BitVec 8))} (H : Lists w v ls) (hb : Below w.heap.size w w') : Lists w' v ls := by
  obtain ⟨a, cap, e, h1, h2, h3⟩ := H
  refine ⟨a, cap, e, h1, h2, fun k hk => ?_⟩
  obtain ⟨b, off, p, ea, hc, hp⟩ := h3 k hk
  exact ⟨b, off, p, ea, by rw [hb.cell (p := ⟨b, off + k, none⟩) (block_lt_of_cell hc)]; exact hc, hp.below hb⟩
theorem flat_one (ls : List (List (BitVec 8))) (k : Nat) (h : k < ls.length) : (ls.take (k + 1)).flatten = (ls.take k).flatten ++ ls.getD k [] := by
  rw [take_one ls k [] h, List.flatten_append]; simp

set_option maxHeartbeats 1000000 in
set_option maxRecDepth 100000 in
theorem parts_any (v : Value) (ls : List (List (BitVec 8))) (w : World) (hv : Lists w v ls) :
    Calls Try.prog 51 #[v] w fun e w' => ∃ r, e = .returned (.int .u32 (u r)) ∧ Aside (r = upd 0#32 ls.flatten) ∧ Below w.heap.size w w' := by
  have hz := zero_tab
  have V : Aside (Lists w v ls) := hv
  obtain ⟨a, cap, rfl, hlc, hcm, _⟩ := hv
  unfold maxLen at hcm
  go_enter Try.func51, Try.ntmps51
  go_wp2_with (go_at_call 65; refine (table_any _).mono ?_; rintro e w1 ⟨cs, rfl, hd, hb⟩; have hsz := hd.1; have hst := store_tab w1 hd; have hd' : Aside (Done cs 0 ∧ Below w.heap.size w w1) := ⟨hd, hb⟩; clear hd hb)
  have B2 : Aside (Below w.heap.size w (w1.alloc (.cells cs 103))) := hd'.out.2.alloc hd'.out.2.size _
  have T : Aside (∀ i : BitVec 8, (w1.alloc (.cells cs 103)).cell? ⟨w1.heap.size, i.toNat, none⟩ = some (.int .u32 (u (shN 8 (i.zeroExtend 32))))) := tab_cells w1 hd'.out.1
  have L : Aside (∀ k, k < ls.length → ∃ b off p, a = some ⟨b, off, none⟩ ∧ (w1.alloc (.cells cs 103)).cell? ⟨b, off + k, none⟩ = some p ∧ Bytes (w1.alloc (.cells cs 103)) p (ls.getD k [])) := by
    obtain ⟨a', cap', e, _, _, h⟩ := V.out.below B2.out
    simp only [Value.slice.injEq, true_and] at e
    obtain ⟨rfl, rfl⟩ := e
    exact h
  obtain ⟨W, hW⟩ : ∃ W, W = w1.alloc (.cells cs 103) := ⟨_, rfl⟩
  obtain ⟨g, hg⟩ : ∃ g, g = w1.heap.size := ⟨_, rfl⟩
  rw [← hW] at B2 L
  rw [← hW, ← hg] at T
  rw [← hW, ← hg]
  clear hst hsz hd' hz V hW hg
  go_loop [4, 6, 10] (fun sw sp si => ∃ (k : Nat) (p : Value), k ≤ ls.length ∧ si = .int .i64 k ∧ sp = p ∧ sw = .int .u32 (u (over (~~~ 0#32) (ls.take k).flatten))) (fun _ _ si => ls.length - (intOf si).toNat)
  case atStart => exact ⟨0, _, Nat.zero_le _, rfl, rfl, rfl⟩
  case round =>
    obtain ⟨k, p, hk, rfl, rfl, rfl⟩ := hrel
    by_cases hlt : k < ls.length
    · obtain ⟨b, off, q, rfl, hc, hq⟩ := L.out k hlt
      have Q : Aside (Bytes W q (ls.getD k [])) := hq
      obtain ⟨aq, cq, rfl, _, _, _, _⟩ := hq
      obtain ⟨y, hy⟩ : ∃ y, y = over (~~~ 0#32) (ls.take k).flatten := ⟨_, rfl⟩
      obtain ⟨n, hn⟩ : ∃ n, n = (ls.getD k []).length := ⟨_, rfl⟩
      rw [← hn] at hc Q
      rw [← hy]
      have A : Aside (y = over (~~~ 0#32) (ls.take k).flatten) := hy
      clear hy hn
      go_wp2_with fail
      refine (feed_any g y _ (ls.getD k []) _ Q.out T.out).mono ?_
      rintro e w' ⟨rfl, rfl⟩
      go_wp2_with fail
      go_round
      case rel => exact ⟨k + 1, _, by omega, by go_num, rfl, by rw [flat_one ls k hlt, over_app, ← A.out]; simp [hlt]⟩
      case measure => simp [intOf]; omega
    · go_wp2_with fail
      go_ret
      refine ⟨_, ret_int (u_not _), ?_, B2.out⟩
      rw [List.take_of_length_le (by omega)]; rfl
end Go.Proofs.Ytbdlebengmbooaa.Sm
