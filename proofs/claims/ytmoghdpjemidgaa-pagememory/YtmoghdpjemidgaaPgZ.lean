/-
  fixed: what each law begins with.
-/
import Derived.Test.YtmoghdpjemidgaaPgX
namespace Go.Proofs.Ytmoghdpjemidgaa
open Go.RowKit Go.Maps
theorem bytes_cut {w : World} {gb a n : Nat} {L : List UInt8} (h : Bytes w (.slice (some ⟨gb, 0, none⟩) 512 512) L) (hL : L.length = 512) (hn : a + n ≤ 512) : Bytes w (.slice (some ⟨gb, a, none⟩) n (512 - a)) ((L.drop a).take n) := by
  have hb' : Bytes w (.slice (some ⟨gb, 0, none⟩) L.length 512) L := by rw [hL]; exact h
  have hd := hb'.drop a (by rw [hL]; omega)
  rw [← List.length_drop] at hd
  have ht := hd.take n (by rw [List.length_drop, hL]; omega)
  simp only [Option.map_some, add_plain, Nat.zero_add] at ht
  exact ht
set_option maxHeartbeats 8000000 in
set_option maxRecDepth 100000 in
theorem fixed_any (w : World) : Calls Try.prog 5 #[] w fun e w' => e = .returned (.bool true) ∧ Below w.heap.size w w' := by
  obtain ⟨ge, hge⟩ : ∃ ge, ge = w.heap.size := ⟨_, rfl⟩
  obtain ⟨E1, hE1⟩ : ∃ E1, E1 = w.alloc (.cells #[.string ⟨#[107]⟩, .string ⟨#[118, 119]⟩] 29) := ⟨_, rfl⟩
  obtain ⟨gc, hgc⟩ : ∃ gc, gc = E1.heap.size := ⟨_, rfl⟩
  obtain ⟨E2, hE2⟩ : ∃ E2, E2 = E1.alloc (.cells #[.int .i64 0] 3) := ⟨_, rfl⟩
  obtain ⟨gn, hgn⟩ : ∃ gn, gn = E2.heap.size := ⟨_, rfl⟩
  obtain ⟨E3, hE3⟩ : ∃ E3, E3 = E2.alloc (.cells #[.int .i64 0, .slice none 0 0, .slice none 0 0, .slice none 0 0, .slice none 0 0, .int .i64 0, .string ⟨#[]⟩] 27) := ⟨_, rfl⟩
  obtain ⟨X, hX⟩ : ∃ X, X = E3.setRow gn #[.int .i64 1, .slice (some ⟨ge, 0, none⟩) 1 1, .slice (some ⟨gc, 0, none⟩) 1 1, .slice none 0 0, .slice none 0 0, .int .i64 0, .string ⟨#[]⟩] := ⟨_, rfl⟩
  have k1 : Below w.heap.size w E1 := by rw [hE1]; exact (Below.refl _ _).alloc (Nat.le_refl _) _
  have k2 : Below w.heap.size w E2 := by rw [hE2]; exact k1.alloc k1.size _
  have k3 : Below w.heap.size w E3 := by rw [hE3]; exact k2.alloc k2.size _
  have s1 : gc = ge + 1 := by rw [hgc, hE1, hge]; simp
  have s2 : gn = gc + 1 := by rw [hgn, hE2, hgc]; simp
  have s3 : E3.heap.size = gn + 1 := by rw [hE3, hgn]; simp
  have G3 : E3.heap[gn]? = some (.cells #[.int .i64 0, .slice none 0 0, .slice none 0 0, .slice none 0 0, .slice none 0 0, .int .i64 0, .string ⟨#[]⟩] 27 (0, 0)) := by rw [hE3, hgn]; exact heap_alloc_new _ _
  have KX : Kept (fun y => y = gn) E3 X := by rw [hX]; exact kept_setRow _ _ _
  have XB : Hid (Below w.heap.size w X) := Lib.hid (k3.trans (KX.below k3.size (fun x hx => by omega)))
  have XN : Hid (X.heap[gn]? = some (.cells #[.int .i64 1, .slice (some ⟨ge, 0, none⟩) 1 1, .slice (some ⟨gc, 0, none⟩) 1 1, .slice none 0 0, .slice none 0 0, .int .i64 0, .string ⟨#[]⟩] 27 (0, 0))) := Lib.hid (by rw [hX]; exact setRow_heap _ _ _ _ _ _ G3)
  have XE : X.heap[ge]? = some (.cells (cellsE n1.ents).toArray 29 (0, 0)) := by
    rw [KX.block ge (by omega) (by omega), hE3, Below.heap_alloc _ _ _ (by omega), hE2, Below.heap_alloc _ _ _ (by omega), hE1, hge]; exact heap_alloc_new _ _
  have XC : X.heap[gc]? = some (.cells (cellsI n1.chs).toArray 3 (0, 0)) := by
    rw [KX.block gc (by omega) (by omega), hE3, Below.heap_alloc _ _ _ (by omega), hE2, hgc]; exact heap_alloc_new _ _
  have OE : OwnE w.heap.size X (.slice (some ⟨ge, 0, none⟩) 1 1) n1.ents := ⟨rfl, .inr ⟨ge, 1, _, rfl, by omega, XE, Nat.le_refl _, by decide, rfl, rfl⟩⟩
  have OI : OwnI w.heap.size X (.slice (some ⟨gc, 0, none⟩) 1 1) n1.chs := own_ints XC (by omega) rfl (by decide)
  have L1 : Hid (Ls X ⟨.slice (some ⟨ge, 0, none⟩) 1 1, .slice (some ⟨gc, 0, none⟩) 1 1, .slice none 0 0, .slice none 0 0⟩ n1) := Lib.hid (ls1 OE OI)
  have ON : Hid ((#[.int .i64 1, .slice (some ⟨ge, 0, none⟩) 1 1, .slice (some ⟨gc, 0, none⟩) 1 1, .slice none 0 0, .slice none 0 0, .int .i64 0, .string ⟨#[]⟩] : Array Value).all (·.oneCell') = true) := Lib.hid (by simp [Value.oneCell'])
  have GZ := Lib.hid G3
  have AD : Hid (∀ ve vc, n1.arr ⟨ve, vc, .slice none 0 0, .slice none 0 0⟩ = #[.int .i64 1, ve, vc, .slice none 0 0, .slice none 0 0, .int .i64 0, .string ⟨#[]⟩]) := Lib.hid (fun _ _ => rfl)
  obtain ⟨p0, p1, p2, p3, p4, p5, p6⟩ := node_cells XN.out
  have EC : Hid (Calls Try.prog 9 #[.agg #[.int .i64 1, .slice (some ⟨ge, 0, none⟩) 1 1, .slice (some ⟨gc, 0, none⟩) 1 1, .slice none 0 0, .slice none 0 0, .int .i64 0, .string ⟨#[]⟩]] X fun e w' => ∃ gb, e = .returned (.tuple #[.slice (some ⟨gb, 0, none⟩) 512 512, .int .i64 0]) ∧ Own X.heap.size w' (.slice (some ⟨gb, 0, none⟩) 512 512) b1 ∧ Below X.heap.size X w') := Lib.hid (by rw [← AD.out]; exact enc1 X ⟨.slice (some ⟨ge, 0, none⟩) 1 1, .slice (some ⟨gc, 0, none⟩) 1 1, .slice none 0 0, .slice none 0 0⟩ L1.out)
  have hge' := hge.symm; have hE1' := hE1.symm; have hgc' := hgc.symm; have hE2' := hE2.symm; have hgn' := hgn.symm; have hE3' := hE3.symm; have hX' := hX.symm
  have SZ : Hid (∀ W, Below X.heap.size X W → Calls Try.prog 6 #[.agg #[.int .i64 1, .slice (some ⟨ge, 0, none⟩) 1 1, .slice (some ⟨gc, 0, none⟩) 1 1, .slice none 0 0, .slice none 0 0, .int .i64 0, .string ⟨#[]⟩]] W fun e w' => e = .returned (.int .i64 13) ∧ Below X.heap.size X w') := Lib.hid (fun W h => by
    rw [← AD.out]
    refine (Size_any n1 ⟨.slice (some ⟨ge, 0, none⟩) 1 1, .slice (some ⟨gc, 0, none⟩) 1 1, .slice none 0 0, .slice none 0 0⟩ W (L1.out.below h) sz1).mono ?_
    rintro e w' ⟨rfl, hb⟩
    exact ⟨by rw [size1], h.trans (hb.mono h.size)⟩)
  have FT : Hid (∀ W, Below X.heap.size X W → Calls Try.prog 7 #[.agg #[.int .i64 1, .slice (some ⟨ge, 0, none⟩) 1 1, .slice (some ⟨gc, 0, none⟩) 1 1, .slice none 0 0, .slice none 0 0, .int .i64 0, .string ⟨#[]⟩]] W fun e w' => e = .returned (.bool true) ∧ Below X.heap.size X w') := Lib.hid (fun W h => by
    rw [← AD.out]
    refine (Fits_any n1 ⟨.slice (some ⟨ge, 0, none⟩) 1 1, .slice (some ⟨gc, 0, none⟩) 1 1, .slice none 0 0, .slice none 0 0⟩ W (L1.out.below h) sz1).mono ?_
    rintro e w' ⟨rfl, hb⟩
    exact ⟨by rw [fit1], h.trans (hb.mono h.size)⟩)
  have CX : Hid (∀ W, Below X.heap.size X W → W.heap[gn]? = some (.cells #[.int .i64 1, .slice (some ⟨ge, 0, none⟩) 1 1, .slice (some ⟨gc, 0, none⟩) 1 1, .slice none 0 0, .slice none 0 0, .int .i64 0, .string ⟨#[]⟩] 27 (0, 0))) := Lib.hid (fun W h => by rw [h.block _ (lt_of_heap XN.out)]; exact XN.out)
  clear hge hE1 hgc hE2 hgn hE3 hX k1 k2 k3 s1 s2 s3 G3 KX XE XC OE OI
  go_enter Try.func5, Try.ntmps5
  go_wp2_with (first | (refine wpList_store_row rfl 27 (.tmp 1) (.tmp 9) rfl gn #[.int .i64 1, .slice (some ⟨ge, 0, none⟩) 1 1, .slice (some ⟨gc, 0, none⟩) 1 1, .slice none 0 0, .slice none 0 0, .int .i64 0, .string ⟨#[]⟩] rfl rfl 27 #[.int .i64 0, .slice none 0 0, .slice none 0 0, .slice none 0 0, .slice none 0 0, .int .i64 0, .string ⟨#[]⟩] GZ.out size_node rfl ON.out ?_; rw [hX']) | (go_at_call 9; refine EC.out.mono ?_; rintro e w1 ⟨gb, rfl, q1, q2⟩; have Q := Lib.hid (And.intro q1 q2); have DC := Lib.hid (dec1 gb w1 q1.bytes); clear q1 q2) | (go_at_call 11; refine DC.out.mono ?_; rintro e w2 ⟨ve, vc, rfl, o1, o2, hb⟩; have O := Lib.hid (And.intro o1 (And.intro o2 hb)); rw [AD.out]; obtain ⟨ae, ce, rfl, _, _⟩ := o1.ents.len; obtain ⟨ac, cc, rfl, _, _⟩ := o2.ints.len; clear o1 o2 hb; obtain ⟨g4, hg4⟩ : ∃ g4, g4 = w2.heap.size := ⟨_, rfl⟩; obtain ⟨X2, hX2⟩ : ∃ X2, X2 = w2.alloc (.cells #[.int .i64 0, .slice none 0 0, .slice none 0 0, .slice none 0 0, .slice none 0 0, .int .i64 0, .string ⟨#[]⟩] 27) := ⟨_, rfl⟩; obtain ⟨X3, hX3⟩ : ∃ X3, X3 = X2.setRow g4 #[.int .i64 1, .slice ae 1 ce, .slice ac 1 cc, .slice none 0 0, .slice none 0 0, .int .i64 0, .string ⟨#[]⟩] := ⟨_, rfl⟩; have ON2 : Hid ((#[.int .i64 1, .slice ae 1 ce, .slice ac 1 cc, .slice none 0 0, .slice none 0 0, .int .i64 0, .string ⟨#[]⟩] : Array Value).all (·.oneCell') = true) := Lib.hid (by simp [Value.oneCell']); have G4 : Hid (X2.heap[g4]? = some (.cells #[.int .i64 0, .slice none 0 0, .slice none 0 0, .slice none 0 0, .slice none 0 0, .int .i64 0, .string ⟨#[]⟩] 27 (0, 0))) := Lib.hid (by rw [hX2, hg4]; exact heap_alloc_new _ _); have BX : Hid (Below w2.heap.size w2 X3 ∧ X3.heap[g4]? = some (.cells #[.int .i64 1, .slice ae 1 ce, .slice ac 1 cc, .slice none 0 0, .slice none 0 0, .int .i64 0, .string ⟨#[]⟩] 27 (0, 0))) := Lib.hid (by rw [hX3]; exact ⟨by have q := (Below.refl w2.heap.size w2).alloc (Nat.le_refl _) (.cells #[.int .i64 0, .slice none 0 0, .slice none 0 0, .slice none 0 0, .slice none 0 0, .int .i64 0, .string ⟨#[]⟩] 27); rw [← hX2] at q; exact q.trans ((kept_setRow _ _ _).below q.size (fun x hx => by omega)), setRow_heap _ _ _ _ _ _ G4.out⟩); have B3 : Hid (Below w1.heap.size w1 X3 ∧ Below X.heap.size X X3) := Lib.hid (by have r1 := O.out.2.2.trans (BX.out.1.mono O.out.2.2.size); exact ⟨r1, Q.out.2.trans (r1.mono Q.out.2.size)⟩); obtain ⟨u0, u1, u2, u3, u4, u5, u6⟩ := node_cells BX.out.2; obtain ⟨p0, p1, p2, p3, p4, p5, p6⟩ := node_cells (CX.out X3 B3.out.2); have cv1 := convT (bytes_cut (a := 0) (n := 4) (Q.out.1.bytes.below B3.out.1) b1_length (by decide)); rw [List.drop_zero, b1_take, show txt [181, 1, 1, 0] = ⟨#[181, 1, 1, 0]⟩ from rfl] at cv1; have cv2 := convT (bytes_cut (a := 8) (n := 5) (Q.out.1.bytes.below B3.out.1) b1_length (by decide)); rw [b1_drop, List.take_left' (show bd1.length = 5 from rfl), show txt bd1 = ⟨#[1, 2, 107, 118, 119]⟩ from rfl] at cv2; have SM : Hid (Calls Try.prog 12 #[.agg #[.int .i64 1, .slice ae 1 ce, .slice ac 1 cc, .slice none 0 0, .slice none 0 0, .int .i64 0, .string ⟨#[]⟩], .agg #[.int .i64 1, .slice (some ⟨ge, 0, none⟩) 1 1, .slice (some ⟨gc, 0, none⟩) 1 1, .slice none 0 0, .slice none 0 0, .int .i64 0, .string ⟨#[]⟩]] X3 fun e w' => e = .returned (.bool true) ∧ Below X3.heap.size X3 w') := Lib.hid (by rw [← AD.out, ← AD.out]; exact sameNode_yes n1 ⟨.slice ae 1 ce, .slice ac 1 cc, .slice none 0 0, .slice none 0 0⟩ ⟨.slice (some ⟨ge, 0, none⟩) 1 1, .slice (some ⟨gc, 0, none⟩) 1 1, .slice none 0 0, .slice none 0 0⟩ X3 (ls1 (O.out.1.below BX.out.1) (O.out.2.1.below BX.out.1)) (L1.out.below B3.out.2)); have hg4' := hg4.symm; have hX2' := hX2.symm; have hX3' := hX3.symm; clear hg4 hX2 hX3) | (refine wpList_store_row rfl 27 (.tmp 4) (.tmp 18) rfl g4 #[.int .i64 1, .slice ae 1 ce, .slice ac 1 cc, .slice none 0 0, .slice none 0 0, .int .i64 0, .string ⟨#[]⟩] rfl rfl 27 #[.int .i64 0, .slice none 0 0, .slice none 0 0, .slice none 0 0, .slice none 0 0, .int .i64 0, .string ⟨#[]⟩] G4.out size_node rfl ON2.out ?_; rw [hX3']) | (go_at_call 12; refine SM.out.mono ?_; rintro e w5 ⟨rfl, hb⟩; have B5 := Lib.hid (B3.out.2.trans (hb.mono B3.out.2.size)); clear hb; obtain ⟨p0, p1, p2, p3, p4, p5, p6⟩ := node_cells (CX.out w5 B5.out)) | (go_at_call 6; refine (SZ.out _ B5.out).mono ?_; rintro e w6 ⟨rfl, hb⟩; have B6 := Lib.hid hb; clear hb; obtain ⟨p0, p1, p2, p3, p4, p5, p6⟩ := node_cells (CX.out w6 B6.out)) | (go_at_call 7; refine (FT.out _ B6.out).mono ?_; rintro e w7 ⟨rfl, hb⟩; have B7 := Lib.hid hb; clear hb))
  go_ret
  exact ⟨rfl, XB.out.trans (B7.out.mono XB.out.size)⟩
end Go.Proofs.Ytmoghdpjemidgaa
