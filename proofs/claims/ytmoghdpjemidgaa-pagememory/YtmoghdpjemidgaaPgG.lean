/-
  Decode of a leaf's bytes.
-/
import Derived.Test.YtmoghdpjemidgaaPgO
import Derived.Test.YtmoghdpjemidgaaPgE
namespace Go.Proofs.Ytmoghdpjemidgaa
open Go.RowKit Go.Maps
set_option maxHeartbeats 400000 in
theorem equal_any (v v' : Value) (l m : List UInt8) (w : World) (hv : Bytes w v l) (hv' : Bytes w v' m) :
    Calls Try.prog 27 #[v, v'] w fun e w' => e = .returned (.bool (decide (l = m))) ∧ w' = w := by
  have h1 := convT hv
  have h2 := convT hv'
  go_enter Try.func27, Try.ntmps27
  go_wp2
  go_ret
  exact ⟨congrArg (fun b => Ending.returned (.bool b)) (txt_beq l m), rfl⟩
theorem OwnE.below {B : Nat} {w w' : World} {v : Value} {l : List Ent} (H : OwnE B w v l) (hb : Below w.heap.size w w') : OwnE B w' v l :=
  H.kept (Below.kept hb (fun _ => False)) fun _ _ h => h
theorem OwnE.mono {B B' : Nat} {w : World} {v : Value} {l : List Ent} (H : OwnE B w v l) (h : B' ≤ B) : OwnE B' w v l := by
  obtain ⟨h1, h2 | ⟨g, cap, cur, hv, hB, hr⟩⟩ := H
  · exact ⟨h1, .inl h2⟩
  · exact ⟨h1, .inr ⟨g, cap, cur, hv, Nat.le_trans h hB, hr⟩⟩
theorem leaf_ls {B : Nat} {w : World} {b : List UInt8} {ve vc : Value} (h1 : OwnE B w ve (seL b).ents) (h2 : OwnI B w vc (seL b).chs) : Ls w ⟨ve, vc, .slice none 0 0, .slice none 0 0⟩ (seL b) :=
  ⟨h1.ents, h2.ints, ⟨none, 0, rfl, by simp [seL], by decide, fun _ => rfl, fun k hk => by simp [seL] at hk⟩, ⟨none, 0, rfl, by simp [seL], by decide, fun _ => rfl, fun k hk => by simp [seL] at hk⟩⟩
set_option maxHeartbeats 4000000 in
set_option maxRecDepth 100000 in
theorem decode_leaf_ok (bb ob cb : Nat) (b : List UInt8) (w : World) (hv : Bytes w (.slice (some ⟨bb, ob, none⟩) 512 cb) b) (hl : b.length = 512) (h1 : b.getD 1 0 = 1)
    (HE : ∀ W v, Ls W v (seL b) → Calls Try.prog 9 #[.agg ((seL b).arr v)] W fun e w' => ∃ gb, e = .returned (.tuple #[.slice (some ⟨gb, 0, none⟩) 512 512, .int .i64 0]) ∧ Own W.heap.size w' (.slice (some ⟨gb, 0, none⟩) 512 512) b ∧ Below W.heap.size W w') :
    Calls Try.prog 11 #[.slice (some ⟨bb, ob, none⟩) 512 cb] w fun e w' => ∃ ve vc, e = .returned (.tuple #[.agg ((seL b).arr ⟨ve, vc, .slice none 0 0, .slice none 0 0⟩), .int .i64 0]) ∧ OwnE w.heap.size w' ve (seL b).ents ∧ OwnI w.heap.size w' vc (seL b).chs ∧ (∀ g, ve.ownBlock = some g → vc.ownBlock ≠ some g) ∧ Below w.heap.size w w' := by
  have V := Lib.hid hv
  have HH := Lib.hid HE
  obtain ⟨gs, hgs⟩ : ∃ gs, gs = w.heap.size := ⟨_, rfl⟩
  obtain ⟨X1, hX1⟩ : ∃ X1, X1 = w.alloc (.cells #[.int .i64 0, .slice none 0 0, .slice none 0 0, .slice none 0 0, .slice none 0 0, .int .i64 0, .string ⟨#[]⟩] 27) := ⟨_, rfl⟩
  have B1 : Hid (Below w.heap.size w X1 ∧ X1.heap[gs]? = some (.cells #[.int .i64 0, .slice none 0 0, .slice none 0 0, .slice none 0 0, .slice none 0 0, .int .i64 0, .string ⟨#[]⟩] 27 (0, 0)) ∧ w.heap.size ≤ gs ∧ gs < X1.heap.size) := Lib.hid ⟨by rw [hX1]; exact (Below.refl _ _).alloc (Nat.le_refl _) _, by rw [hX1, hgs]; exact heap_alloc_new _ _, by omega, by rw [hX1, hgs]; simp⟩
  have SE := Lib.hid (seeming_leaf bb ob cb b X1 (hv.below B1.out.1) hl h1)
  have AR : Hid (∀ ve vc, (seL b).arr ⟨ve, vc, .slice none 0 0, .slice none 0 0⟩ = #[.int .i64 1, ve, vc, .slice none 0 0, .slice none 0 0, .int .i64 0, .string ⟨#[]⟩]) := Lib.hid (fun _ _ => rfl)
  have hgs' := hgs.symm; have hX1' := hX1.symm
  clear hgs hX1 hv hl h1 HE
  go_enter Try.func11, Try.ntmps11
  go_wp2_with (first | (go_at_call 26; refine SE.out.mono ?_; rintro e w1 ⟨ve, vc, rfl, o1, o2, o3, hb⟩; have O1 := Lib.hid (And.intro o1 (And.intro o2 (And.intro o3 hb))); rw [AR.out]; obtain ⟨ae, ce, rfl, _, _⟩ := o1.ents.len; obtain ⟨ac, cc, rfl, _, _⟩ := o2.ints.len; clear o1 o2 o3 hb; obtain ⟨ne, hne⟩ : ∃ ne, ne = (seL b).ents.length := ⟨_, rfl⟩; obtain ⟨nc, hnc⟩ : ∃ nc, nc = (seL b).chs.length := ⟨_, rfl⟩; rw [← hne, ← hnc] at O1; rw [← hne, ← hnc]; clear hne hnc; obtain ⟨g4, hg4⟩ : ∃ g4, g4 = w1.heap.size := ⟨_, rfl⟩; obtain ⟨X2, hX2⟩ : ∃ X2, X2 = w1.alloc (.cells #[.int .i64 0, .slice none 0 0, .slice none 0 0, .slice none 0 0, .slice none 0 0, .int .i64 0, .string ⟨#[]⟩] 27) := ⟨_, rfl⟩; obtain ⟨X3, hX3⟩ : ∃ X3, X3 = X2.setRow g4 #[.int .i64 1, .slice ae ne ce, .slice ac nc cc, .slice none 0 0, .slice none 0 0, .int .i64 0, .string ⟨#[]⟩] := ⟨_, rfl⟩; have ON : Hid ((#[.int .i64 1, .slice ae ne ce, .slice ac nc cc, .slice none 0 0, .slice none 0 0, .int .i64 0, .string ⟨#[]⟩] : Array Value).all (·.oneCell') = true) := Lib.hid (by simp [Value.oneCell']); have G4 : Hid (X2.heap[g4]? = some (.cells #[.int .i64 0, .slice none 0 0, .slice none 0 0, .slice none 0 0, .slice none 0 0, .int .i64 0, .string ⟨#[]⟩] 27 (0, 0))) := Lib.hid (by rw [hX2, hg4]; exact heap_alloc_new _ _); have L4 : Hid (gs < g4 ∧ X1.heap.size ≤ g4 ∧ w1.heap.size ≤ g4) := Lib.hid (by have := B1.out.2.2.2; have := O1.out.2.2.2.size; omega); have BX : Hid (Below w1.heap.size w1 X3 ∧ X3.heap[g4]? = some (.cells #[.int .i64 1, .slice ae ne ce, .slice ac nc cc, .slice none 0 0, .slice none 0 0, .int .i64 0, .string ⟨#[]⟩] 27 (0, 0))) := Lib.hid (by rw [hX3]; exact ⟨by have q := (Below.refl w1.heap.size w1).alloc (Nat.le_refl _) (.cells #[.int .i64 0, .slice none 0 0, .slice none 0 0, .slice none 0 0, .slice none 0 0, .int .i64 0, .string ⟨#[]⟩] 27); rw [← hX2] at q; exact q.trans ((kept_setRow _ _ _).below q.size (fun x hx => by have := L4.out; omega)), setRow_heap _ _ _ _ _ _ G4.out⟩); obtain ⟨p0, p1, p2, p3, p4, p5, p6⟩ := node_cells BX.out.2; have hg4' := hg4.symm; have hX2' := hX2.symm; have hX3' := hX3.symm; have EC : Hid (Calls Try.prog 9 #[.agg #[.int .i64 1, .slice ae ne ce, .slice ac nc cc, .slice none 0 0, .slice none 0 0, .int .i64 0, .string ⟨#[]⟩]] X3 fun e w' => ∃ gb, e = .returned (.tuple #[.slice (some ⟨gb, 0, none⟩) 512 512, .int .i64 0]) ∧ Own X3.heap.size w' (.slice (some ⟨gb, 0, none⟩) 512 512) b ∧ Below X3.heap.size X3 w') := Lib.hid (HH.out X3 ⟨.slice ae ne ce, .slice ac nc cc, .slice none 0 0, .slice none 0 0⟩ (leaf_ls (O1.out.1.below BX.out.1) (O1.out.2.1.below BX.out.1))); clear hg4 hX2 hX3) | (refine wpList_store_row rfl 27 (.tmp 4) (.tmp 12) rfl g4 #[.int .i64 1, .slice ae ne ce, .slice ac nc cc, .slice none 0 0, .slice none 0 0, .int .i64 0, .string ⟨#[]⟩] rfl rfl 27 #[.int .i64 0, .slice none 0 0, .slice none 0 0, .slice none 0 0, .slice none 0 0, .int .i64 0, .string ⟨#[]⟩] G4.out size_node rfl ON.out ?_; rw [hX3']) | (go_at_call 9; refine EC.out.mono ?_; rintro e w4 ⟨gb, rfl, q1, q2⟩; have Q := Lib.hid (And.intro q1 q2); have BW : Hid (Below w.heap.size w w4 ∧ Below w1.heap.size w1 w4) := Lib.hid (by have r1 := BX.out.1.trans (q2.mono BX.out.1.size); have r2 := O1.out.2.2.2.trans (r1.mono O1.out.2.2.2.size); exact ⟨B1.out.1.trans (r2.mono B1.out.1.size), r1⟩); have GS : Hid (w4.heap[gs]? = some (.cells #[.int .i64 0, .slice none 0 0, .slice none 0 0, .slice none 0 0, .slice none 0 0, .int .i64 0, .string ⟨#[]⟩] 27 (0, 0))) := Lib.hid (by have r1 := BW.out.2; rw [r1.block gs (by have := B1.out.2.2.2; have := O1.out.2.2.2.size; omega), O1.out.2.2.2.block gs B1.out.2.2.2]; exact B1.out.2.1); have G5 : Hid (w4.heap[g4]? = some (.cells #[.int .i64 1, .slice ae ne ce, .slice ac nc cc, .slice none 0 0, .slice none 0 0, .int .i64 0, .string ⟨#[]⟩] 27 (0, 0))) := Lib.hid (by rw [q2.block g4 (lt_of_heap BX.out.2)]; exact BX.out.2); obtain ⟨p0, p1, p2, p3, p4, p5, p6⟩ := node_cells G5.out; have EQ : Hid (Calls Try.prog 27 #[.slice (some ⟨gb, 0, none⟩) 512 512, .slice (some ⟨bb, ob, none⟩) 512 cb] w4 fun e w' => e = .returned (.bool true) ∧ w' = w4) := Lib.hid (by have r := equal_any _ _ b b w4 q1.bytes (V.out.below BW.out.1); rw [decide_eq_true rfl] at r; exact r); clear q1 q2) | (go_at_call 27; refine EQ.out.mono ?_; rintro e w5 ⟨rfl, rfl⟩) | (refine wpList_store_row rfl 27 (.tmp 2) (.tmp 27) rfl gs #[.int .i64 1, .slice ae ne ce, .slice ac nc cc, .slice none 0 0, .slice none 0 0, .int .i64 0, .string ⟨#[]⟩] rfl rfl 27 #[.int .i64 0, .slice none 0 0, .slice none 0 0, .slice none 0 0, .slice none 0 0, .int .i64 0, .string ⟨#[]⟩] GS.out size_node rfl ON.out ?_))
  refine bodyPost_ret (results_cell1 rfl _ _ ⟨gs, 0, none⟩ (.agg #[.int .i64 1, .slice ae ne ce, .slice ac nc cc, .slice none 0 0, .slice none 0 0, .int .i64 0, .string ⟨#[]⟩]) rfl (load_node (setRow_heap _ _ _ _ _ _ GS.out) rfl)) rfl ?_
  refine ⟨.slice ae ne ce, .slice ac nc cc, by rw [AR.out]; rfl, ?_, ?_, O1.out.2.2.1, ?_⟩
  · refine OwnE.mono (B := X1.heap.size) ?_ B1.out.1.size
    exact (O1.out.1.below BW.out.2).kept (kept_setRow _ _ _) (fun g hg e => by have := (O1.out.1.lt g hg).1; have := B1.out.2.2.2; omega)
  · refine OwnI.mono (B := X1.heap.size) ?_ B1.out.1.size
    exact (O1.out.2.1.below BW.out.2).kept (kept_setRow _ _ _) (fun g hg e => by have := (O1.out.2.1.lt g hg).1; have := B1.out.2.2.2; omega)
  · exact BW.out.1.trans ((kept_setRow _ _ _).below BW.out.1.size (fun x hx => by have := B1.out.2.2.1; omega))
end Go.Proofs.Ytmoghdpjemidgaa
