/-
  strings.SplitSeq at a text without a dot; isResource.
-/
import Derived.Test.YtehgnbgbmicheaaGreatDoorRows
import Derived.Test.YtehgnbgbmicheaaGreatDoorShelf
import Derived.WalkKit
import Derived.WalkSpells
import Derived.WalkLawsBesides
import Derived.Handy
import Derived.RangeFuncNested
import Derived.RangeFuncBound
import Derived.RangeFuncCalls
import Derived.RangeFuncLeaves
import Derived.RangeFuncFrom
import Derived.Shelf.Abstract
import Derived.Shelf.RegionOpen
import Derived.OwnWalkIn
import Derived.TacticsInMore
import Derived.LoopNIn
import Derived.LoopIn
namespace Go.Proofs.YtehgnbgbmicheaaGreatDoor.Q
open Go.RowKit Go.Shelf
attribute [local go_sem] Oper.semAt_some

theorem cell_of_box_q {W : World} {B : Nat} {v : Value} {t : TypeId} (h : W.heap[B]? = some (.cells #[v] t (0, 0))) : W.cell? ⟨B, 0, none⟩ = some v ∧ W.frozen? ⟨B, 0, none⟩ = false := by
  constructor <;> simp [World.cell?, World.frozen?, h]
theorem cell_new_q (W : World) (v : Value) (t : TypeId) : (W.alloc (.cells #[v] t)).cell? ⟨W.heap.size, 0, none⟩ = some v ∧ (W.alloc (.cells #[v] t)).frozen? ⟨W.heap.size, 0, none⟩ = false :=
  cell_of_box_q (World.alloc_heap_new W _)
theorem cell_alloc_q {W : World} {a : Addr} {v : Value} (o : Obj) (h : W.cell? a = some v) : (W.alloc o).cell? a = some v := cell_kept h (World.grownBy_alloc W o none) (fun r e => by cases e)
theorem frozen_alloc_q {W : World} {a : Addr} {v : Value} (o : Obj) (h : W.cell? a = some v) (hf : W.frozen? a = false) : (W.alloc o).frozen? a = false := (frozen_kept h (World.grownBy_alloc W o none) (fun r e => by cases e)).trans hf
/-- The world behind SplitSeq: three boxes. -/
def splitW (w : World) (t : ByteArray) : World := ((w.alloc (.cells #[.string t] 9)).alloc (.cells #[.string ⟨#[46]⟩] 9)).alloc (.cells #[.int .i64 0] 3)
def splitF (w : World) : Value := .func (.func 132) #[] #[.pointer (some ⟨w.heap.size + 1, 0, none⟩), .pointer (some ⟨w.heap.size, 0, none⟩), .pointer (some ⟨w.heap.size + 1 + 1, 0, none⟩)]
set_option maxHeartbeats 1000000 in
theorem splitSeq_any (t : ByteArray) (w : World) : Calls Tryz.prog 102 #[.string t, .string ⟨#[46]⟩] w fun e w' => e = .returned (splitF w) ∧ w' = splitW w t := by
  unfold splitF splitW
  go_enter Tryz.func102, Tryz.ntmps102
  go_wp2
  go_ret
  exact ⟨rfl, rfl⟩
/-- The text itself, and no other. -/
def Only (t : ByteArray) : Type := { x : ByteArray // x = t }
set_option maxHeartbeats 4000000 in
set_option maxRecDepth 100000 in
theorem split_stops (n : Nat) (hn : 2 ≤ n) (t : ByteArray) (hi : Lib.indexByte t.data.toList 46 = -1) (b1 b2 b3 n0 : Nat) (w : World) (h1 : b1 < w.heap.size) (h2 : b2 < w.heap.size) (h3 : b3 < w.heap.size)
    (c1 : w.cell? ⟨b1, 0, none⟩ = some (.string ⟨#[46]⟩)) (c2 : w.cell? ⟨b2, 0, none⟩ = some (.string t)) (c3 : w.cell? ⟨b3, 0, none⟩ = some (.int .i64 0)) :
    SeqStopsK Fence.wide n Tryz.prog 132 #[.pointer (some ⟨b1, 0, none⟩), .pointer (some ⟨b2, 0, none⟩), .pointer (some ⟨b3, 0, none⟩)] (fun x : Only t => #[Value.string x.1]) (Below n0) (fun ys => ys = [⟨t, rfl⟩]) (fun pre => pre = [⟨t, rfl⟩]) 1 w := fun l J Jx W hW _ _ hY h0 => by
  have d1 := (hW.cell (p := ⟨b1, 0, none⟩) h1).trans c1
  have d2 := (hW.cell (p := ⟨b2, 0, none⟩) h2).trans c2
  have d3 := (hW.cell (p := ⟨b3, 0, none⟩) h3).trans c3
  clear c1 c2 c3
  refine callsIn_of_wp Tryz.func132 rfl trivial ?_ rfl
  simp only [Tryz.ntmps132, List.size_toArray, List.length_cons, List.length_nil, Nat.reduceAdd, Nat.reduceSub, Array.replicate_succ, Array.replicate_zero, List.push_toArray, List.append_toArray, List.nil_append, List.cons_append]
  obtain ⟨f1, t1, a1, bo1, hy1, hR1⟩ := hY [] ⟨t, rfl⟩ W h0 (by simp)
  dsimp only at hy1
  gi_wp2
  refine wpIn_loop_rounds 1 ?_
  rw [roundsIn_succ]
  gi_wp2_with fail
  refine ⟨trivial, fun _ => by omega, (callsIn_wide.2 (Tryz.strings_Index_one t 46 _)).mono ?_⟩
  rintro e w' ⟨rfl, rfl⟩
  rw [hi]
  gi_wp2
  refine ⟨fun _ => by omega, hR1.mono ?_⟩
  rintro e W1 (⟨rfl, hJ1, _⟩ | ⟨rfl, hx1⟩)
  · gi_wp2
    go_end0
    exact ⟨⟨_, rfl⟩, .inl ⟨[⟨t, rfl⟩], rfl, hJ1⟩⟩
  · gi_wp2
    go_end0
    exact ⟨⟨_, rfl⟩, .inr ⟨[⟨t, rfl⟩], rfl, hx1⟩⟩
set_option maxHeartbeats 4000000 in
set_option maxRecDepth 100000 in
theorem res_any (t : ByteArray) (b : Bool) (hi : Lib.indexByte t.data.toList 46 = -1) (hl : t.size ≤ 48) (hp : ∀ w, Calls Tryz.prog 103 #[.string t] w fun e w' => e = .returned (.bool b) ∧ w' = w) (w : World) :
    Calls Tryz.prog 87 #[.string t] w fun e w' => e = .returned (.bool b) ∧ Below w.heap.size w w' := by
  refine (callsIn_wide (n := 6)).1 ?_
  refine callsIn_of_wp_marks Tryz.func87 rfl trivial ?_ rfl
  simp only [Tryz.ntmps87, List.size_toArray, List.length_cons, List.length_nil, Nat.reduceAdd, Nat.reduceSub, Array.replicate_succ, Array.replicate_zero, List.push_toArray, List.append_toArray, List.nil_append, List.cons_append]
  have hl' : ¬ ((t.size : Int) > 48) := by omega
  gi_wp2_with fail
  refine ⟨trivial, (callsIn_wide.2 (splitSeq_any t _)).mono ?_⟩
  rintro e w' ⟨rfl, rfl⟩
  unfold splitF splitW
  simp only [World.size_alloc]
  gi_wp2_with fail
  have k0 := cell_new_q w (.bool false) 4
  have k1 := cell_new_q (w.alloc (.cells #[.bool false] 4)) (.string t) 9
  have k2 := cell_new_q ((w.alloc (.cells #[.bool false] 4)).alloc (.cells #[.string t] 9)) (.string ⟨#[46]⟩) 9
  have k3 := cell_new_q (((w.alloc (.cells #[.bool false] 4)).alloc (.cells #[.string t] 9)).alloc (.cells #[.string ⟨#[46]⟩] 9)) (.int .i64 0) 3
  simp only [World.size_alloc] at k1 k2 k3
  have hB0 : Below w.heap.size w ((((w.alloc (.cells #[.bool false] 4)).alloc (.cells #[.string t] 9)).alloc (.cells #[.string ⟨#[46]⟩] 9)).alloc (.cells #[.int .i64 0] 3)) := ((((Below.refl _ w).alloc (Nat.le_refl _) _).alloc (by simp) _).alloc (by simp; omega) _).alloc (by simp; omega) _
  refine wpIn_rangeFunc_ownF rfl (by decide) (gf := 132) (lb := #[.pointer (some ⟨w.heap.size + 1 + 1, 0, none⟩), .pointer (some ⟨w.heap.size + 1, 0, none⟩), .pointer (some ⟨w.heap.size + 1 + 1 + 1, 0, none⟩)]) rfl trivial (enters_of Tryz.func132 (by kernel_rfl) rfl)
    (split_stops 5 (by decide) t hi (w.heap.size + 1 + 1) (w.heap.size + 1) (w.heap.size + 1 + 1 + 1) w.heap.size _ (by simp) (by simp) (by simp) (cell_alloc_q _ k2.1) (cell_alloc_q _ (cell_alloc_q _ k1.1)) k3.1) belowK_t (belowK_b (by simp; omega)) (Below.refl _ _) (fun _ => rfl)
    (fun pre W => ((pre ≠ [] → b = true) ∧ W.cell? ⟨w.heap.size, 0, none⟩ = some (.bool false) ∧ W.frozen? ⟨w.heap.size, 0, none⟩ = false) ∧ Below w.heap.size w W)
    (fun c pre W => (c = .ret ∧ b = false ∧ W.cell? ⟨w.heap.size, 0, none⟩ = some (.bool false)) ∧ Below w.heap.size w W)
    (OwnFrom.and (Own.from (fun s A B row hs hg hr => ⟨hs.1, cell_kept hs.2.1 hg hr, (frozen_kept hs.2.1 hg hr).trans hs.2.2⟩) _) (ownFrom_below (Nat.le_refl _) (by simp; omega)))
    (fun c => OwnFrom.and (Own.from (fun s A B row hs hg hr => ⟨hs.1, hs.2.1, cell_kept hs.2.2 hg hr⟩) _) (ownFrom_below (Nat.le_refl _) (by simp; omega)))
    ⟨⟨by simp, cell_alloc_q _ (cell_alloc_q _ (cell_alloc_q _ k0.1)), frozen_alloc_q _ (cell_alloc_q _ (cell_alloc_q _ k0.1)) (frozen_alloc_q _ (cell_alloc_q _ k0.1) (frozen_alloc_q _ k0.1 k0.2))⟩, hB0⟩
    (fun x => { tmps := #[.string t, undef, .pointer (some ⟨w.heap.size, 0, none⟩), .string x.1, .string t, .int .i64 t.size, .bool false, .string t, .func (.func 132) #[] #[.pointer (some ⟨w.heap.size + 1 + 1, 0, none⟩), .pointer (some ⟨w.heap.size + 1, 0, none⟩), .pointer (some ⟨w.heap.size + 1 + 1 + 1, 0, none⟩)], .string x.1, undef, undef, undef], defers := [] }) ?assign ?body ?done ?stop
  case assign =>
    intro l x W K hK
    gi_wp2
    exact hK
  case body =>
    rintro l pre ⟨x, rfl⟩ W ⟨⟨hp0, hc, hf⟩, hB⟩ _
    gi_wp2_with fail
    refine ⟨trivial, (CallsIn.inRound l (callsIn_wide.2 (hp _))).mono ?_⟩
    rintro e W ⟨rfl, rfl⟩
    cases b with
    | true =>
      gi_wp2
      exact ⟨KeepsOthers.refl _, Below.refl _ _, ⟨hc, hf⟩, hB⟩
    | false =>
      gi_wp2
      exact ⟨KeepsOthers.setCell _ _ _, ⟨rfl, World.cell?_setCell_same' _ _ _ (by rw [hc]; rfl)⟩, hB.setCell (p := ⟨w.heap.size, 0, none⟩) (by simp) _⟩
  case done =>
    rintro D ys W hD rfl ⟨⟨hne, hcr, hfr⟩, hB⟩ hK
    have hb := hne (by simp)
    subst hb
    gi_wp2
    have hK' := (KeepsOthers.setCell W ⟨w.heap.size, 0, none⟩ (.bool true)).same D _ hK rfl
    refine ⟨by simp, .inl ⟨_, _, rfl, run_takeDeferred hK', ?_⟩⟩
    have hc5 := cell_kept (World.cell?_setCell_same' W ⟨w.heap.size, 0, none⟩ (.bool true) (by rw [hcr]; rfl)) (grownBy_putObj' _ D (.deferred none)) (fun r e => by cases e; exact ⟨_, hK', rfl⟩)
    refine ⟨.bool true, ?_, rfl, (hB.setCell (p := ⟨w.heap.size, 0, none⟩) (by simp) _).trans (belowK_b (w := w) (Nat.le_refl _) _ D _ _ (by simp at hD; omega) hK' rfl rfl)⟩
    simp [results, Tryz.results87, go_sem, hc5]
  case stop =>
    rintro D c pre W hD hpre ⟨⟨rfl, hb, hcr⟩, hB⟩ hK
    subst hb
    gi_wp2
    refine ⟨by simp, .inl ⟨_, _, rfl, run_takeDeferred hK, ?_⟩⟩
    have hc5 := cell_kept hcr (grownBy_putObj' _ D (.deferred none)) (fun r e => by cases e; exact ⟨_, hK, rfl⟩)
    refine ⟨.bool false, ?_, rfl, hB.trans (belowK_b (w := w) (Nat.le_refl _) W D _ _ (by simp at hD; omega) hK rfl rfl)⟩
    simp [results, Tryz.results87, go_sem, hc5]
end Go.Proofs.YtehgnbgbmicheaaGreatDoor.Q
