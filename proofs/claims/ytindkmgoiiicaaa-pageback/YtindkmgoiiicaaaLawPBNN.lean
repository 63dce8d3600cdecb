/-
  PageBack: a node that does not fit; 512 bytes that are no page.
-/
import Derived.Test.YtindkmgoiiicaaaLawPB
namespace Go.Proofs.Ytindkmgoiiicaaa
open Go.RowKit Go.Maps
set_option maxHeartbeats 8000000 in
set_option maxRecDepth 100000 in
theorem back_NN (n : Nd) (nv : Nv) (at' : Int) (x : BitVec 32) (a3 : Option Addr) (nb c3 : Nat) (b : List UInt8) (w : World) (hn : Ls w nv n) (hs : Szs n) (ha : -9223372036854775808 ≤ at' ∧ at' < 9223372036854775808)
    (hb : Bytes w (.slice a3 nb c3) b) (hnb : nb = b.length) (hbl : b.length ≤ 140737488351232) (hfit : fitB n = false) (hnb5 : nb = 512) (hpb : ¬ Pg b) :
    Calls Try.prog 5 #[.agg (n.arr nv), .int .i64 at', .int .u32 (Sm.u x), .slice a3 nb c3] w fun e w' => e = .returned (.bool true) ∧ Below w.heap.size w w' := by
  have HN := Lib.hid hnb
  have HBL := Lib.hid hbl
  have HA := Lib.hid ha
  have FF := Lib.hid hfit
  have SZ := Lib.hid hs
  obtain ⟨kd, hkd⟩ : ∃ x, x = n.kind := ⟨_, rfl⟩
  obtain ⟨nx, hnx⟩ : ∃ x, x = n.next := ⟨_, rfl⟩
  obtain ⟨dt, hdt⟩ : ∃ x, x = n.data := ⟨_, rfl⟩
  have NA : Hid (∀ ve vc vk vh, n.arr ⟨ve, vc, vk, vh⟩ = #[.int .i64 kd, ve, vc, vk, vh, .int .i64 nx, .string dt]) := Lib.hid (fun _ _ _ _ => by rw [hkd, hnx, hdt]; rfl)
  clear hkd hnx hdt
  obtain ⟨ve, vc, vk, vh⟩ := nv
  rw [NA.out]
  obtain ⟨g0, hg0⟩ : ∃ g0, g0 = w.heap.size := ⟨_, rfl⟩
  obtain ⟨X, hX⟩ : ∃ X, X = w.alloc (.cells #[.int .i64 kd, ve, vc, vk, vh, .int .i64 nx, .string dt] 27) := ⟨_, rfl⟩
  have BX : Hid (Below w.heap.size w X) := Lib.hid (by rw [hX]; exact (Below.refl _ _).alloc (Nat.le_refl _) _)
  have GX : Hid (X.heap[g0]? = some (.cells #[.int .i64 kd, ve, vc, vk, vh, .int .i64 nx, .string dt] 27 (0, 0))) := Lib.hid (by rw [hX, hg0]; exact heap_alloc_new _ _)
  have CX : Hid (∀ W, Below X.heap.size X W → W.heap[g0]? = some (.cells #[.int .i64 kd, ve, vc, vk, vh, .int .i64 nx, .string dt] 27 (0, 0))) := Lib.hid (fun W h => (h.block g0 (lt_of_heap GX.out)).trans GX.out)
  have LX : Hid (∀ W, Below X.heap.size X W → Ls W ⟨ve, vc, vk, vh⟩ n) := Lib.hid (fun W h => (hn.below BX.out).below h)
  have VX : Hid (∀ W, Below X.heap.size X W → Bytes W (.slice a3 nb c3) b ∧ Below w.heap.size w W) := Lib.hid (fun W h => ⟨(hb.below BX.out).below h, BX.out.trans (h.mono BX.out.size)⟩)
  have FXD := Lib.hid fixed_any
  have CP : Hid (∀ W, Below X.heap.size X W → Calls Try.prog 12 #[.agg #[.int .i64 kd, ve, vc, vk, vh, .int .i64 nx, .string dt]] W fun e w' => ∃ e2 c2 k2 h2, e = .returned (.agg #[.int .i64 kd, e2, c2, k2, h2, .int .i64 nx, .string dt]) ∧ Ls w' ⟨e2, c2, k2, h2⟩ n ∧ Below W.heap.size W w') := Lib.hid (fun W h => by
    have q := copied_any n ⟨ve, vc, vk, vh⟩ W (LX.out W h) SZ.out.e SZ.out.q
    rw [NA.out] at q
    refine q.mono ?_
    rintro e w' ⟨⟨e2, c2, k2, h2⟩, he, o1, o2, o3, o4, _, hb⟩
    rw [NA.out] at he
    exact ⟨e2, c2, k2, h2, he, ⟨o1.ents, o2.ints, o3.strs, o4.ints⟩, hb⟩)
  have FT : Hid (∀ (W : World) (e2 c2 k2 h2 : Value), Ls W ⟨e2, c2, k2, h2⟩ n → Calls Try.prog 11 #[.agg #[.int .i64 kd, e2, c2, k2, h2, .int .i64 nx, .string dt]] W fun e w' => e = .returned (.bool false) ∧ Below W.heap.size W w') := Lib.hid (fun W e2 c2 k2 h2 h => by
    have q := Fits_any n ⟨e2, c2, k2, h2⟩ W h SZ.out.z
    rw [NA.out, FF.out] at q
    exact q)
  have OWB : Hid (∀ W, Below X.heap.size X W → Calls Try.prog 17 #[.slice a3 nb c3] W fun e w' => ∃ v', e = .returned v' ∧ Own W.heap.size w' v' b ∧ Below W.heap.size W w') := Lib.hid (fun W h => ownW_any _ b W (VX.out W h).1 (by have := HBL.out; omega))
  have ONZ : Hid ((#[.int .i64 0, .slice none 0 0, .slice none 0 0, .slice none 0 0, .slice none 0 0, .int .i64 0, .string ⟨#[]⟩] : Array Value).all (·.oneCell') = true) := Lib.hid (by simp [Value.oneCell'])
  have BR := Lib.hid (Below.refl X.heap.size X)
  have HL : Hid (b.length = 512) := Lib.hid (by omega)
  have PB := Lib.hid hpb
  subst hnb5
  have EN : Hid (∀ (W : World) (e2 c2 k2 h2 : Value), Ls W ⟨e2, c2, k2, h2⟩ n → Calls Try.prog 15 #[.agg #[.int .i64 kd, e2, c2, k2, h2, .int .i64 nx, .string dt]] W fun e w' => e = .returned (.tuple #[.slice none 0 0, .int .i64 1]) ∧ Below W.heap.size W w') := Lib.hid (fun W e2 c2 k2 h2 h => by
    have q := encode_no n ⟨e2, c2, k2, h2⟩ W h SZ.out.z FF.out
    rw [NA.out] at q
    exact q)
  have hX' := hX.symm
  have hg0' := hg0.symm
  have M1 : True := trivial
  have M2 : True := trivial
  have M3 : True := trivial
  have M4 : True := trivial
  have M5 : True := trivial
  have M6 : True := trivial
  clear hn hs ha hb hnb hbl hfit hX hg0 hpb
  go_enter Try.func5, Try.ntmps5
  go_wp2_with (first | (go_at_call 9; refine (FXD.out _).mono ?_; rintro e w1 ⟨rfl, hb⟩; have B1 := Lib.hid hb; obtain ⟨p0, p1, p2, p3, p4, p5, p6⟩ := node_cells (CX.out w1 hb); clear hb) | (go_at_call 12; clear M1; refine (CP.out w1 B1.out).mono ?_; rintro e w2 ⟨e2, c2, k2, h2, rfl, l2, hb⟩; have L2 := Lib.hid (And.intro l2 hb); have B2 := Lib.hid (B1.out.trans (hb.mono B1.out.size)); clear l2 hb) | (go_at_call 15; clear M2; refine (EN.out w2 e2 c2 k2 h2 L2.out.1).mono ?_; rintro e w3 ⟨rfl, hb⟩; have B3 := Lib.hid (B2.out.trans (hb.mono B2.out.size)); obtain ⟨p0, p1, p2, p3, p4, p5, p6⟩ := node_cells (CX.out w3 B3.out); clear hb) | (go_at_call 12; clear M3; refine (CP.out w3 B3.out).mono ?_; rintro e w4 ⟨e4, c4, k4, h4, rfl, l4, hb⟩; have L4 := Lib.hid (And.intro l4 hb); have B4 := Lib.hid (B3.out.trans (hb.mono B3.out.size)); clear l4 hb) | (go_at_call 11; clear M4; refine (FT.out w4 e4 c4 k4 h4 L4.out.1).mono ?_; rintro e w5 ⟨rfl, hb⟩; have B5 := Lib.hid (B4.out.trans (hb.mono B4.out.size)); clear hb) | (go_at_call 17; refine (OWB.out w5 B5.out).mono ?_; rintro e w11 ⟨v11, rfl, o11, hb⟩; obtain ⟨g11, c11, h11, -, -⟩ := own_slice o11 HL.out; subst h11; have B11 := Lib.hid (B5.out.trans (hb.mono B5.out.size)); have DD := Lib.hid (decode_none g11 0 c11 b w11 o11.bytes HL.out PB.out); rw [show zN = #[.int .i64 0, .slice none 0 0, .slice none 0 0, .slice none 0 0, .slice none 0 0, .int .i64 0, .string ⟨#[]⟩] from rfl] at DD; clear o11 hb) | (go_at_call 16; refine DD.out.mono ?_; rintro e w12 ⟨rfl, hb⟩; have B12 := Lib.hid (B11.out.trans (hb.mono B11.out.size)); clear hb; obtain ⟨g16, hg16⟩ : ∃ g, g = w12.heap.size := ⟨_, rfl⟩; obtain ⟨Y, hY⟩ : ∃ Y, Y = w12.alloc (.cells #[.int .i64 0, .slice none 0 0, .slice none 0 0, .slice none 0 0, .slice none 0 0, .int .i64 0, .string ⟨#[]⟩] 27) := ⟨_, rfl⟩; obtain ⟨Y1, hY1⟩ : ∃ Y1, Y1 = Y.setRow g16 #[.int .i64 0, .slice none 0 0, .slice none 0 0, .slice none 0 0, .slice none 0 0, .int .i64 0, .string ⟨#[]⟩] := ⟨_, rfl⟩; have GY : Hid (Y.heap[g16]? = some (.cells #[.int .i64 0, .slice none 0 0, .slice none 0 0, .slice none 0 0, .slice none 0 0, .int .i64 0, .string ⟨#[]⟩] 27 (0, 0))) := Lib.hid (by rw [hY, hg16]; exact heap_alloc_new _ _); have BY : Hid (Below w12.heap.size w12 Y1 ∧ Y1.heap[g16]? = some (.cells #[.int .i64 0, .slice none 0 0, .slice none 0 0, .slice none 0 0, .slice none 0 0, .int .i64 0, .string ⟨#[]⟩] 27 (0, 0))) := Lib.hid (by rw [hY1, hY, hg16]; exact laid_node w12 _); have ON16 : Hid ((#[.int .i64 0, .slice none 0 0, .slice none 0 0, .slice none 0 0, .slice none 0 0, .int .i64 0, .string ⟨#[]⟩] : Array Value).all (·.oneCell') = true) := Lib.hid ONZ.out; obtain ⟨r0, r1, r2, r3, r4, r5, r6⟩ := node_cells BY.out.2; have BY1 := Lib.hid (B12.out.trans (BY.out.1.mono B12.out.size)); have hg16' := hg16.symm; have hY' := hY.symm; have hY1' := hY1.symm; clear hg16 hY hY1) | (refine wpList_store_row rfl 27 (.tmp 16) (.tmp 91) rfl g16 #[.int .i64 0, .slice none 0 0, .slice none 0 0, .slice none 0 0, .slice none 0 0, .int .i64 0, .string ⟨#[]⟩] rfl rfl 27 #[.int .i64 0, .slice none 0 0, .slice none 0 0, .slice none 0 0, .slice none 0 0, .int .i64 0, .string ⟨#[]⟩] GY.out size_node rfl ON16.out ?_; rw [hY1']) | (go_at_call 18; refine (same_zero Y1).mono ?_; rintro e w17 ⟨rfl, hb⟩; have B17 := Lib.hid (BY1.out.trans (hb.mono BY1.out.size)); clear hb))
  go_ret
  exact ⟨rfl, (VX.out _ B17.out).2⟩
end Go.Proofs.Ytindkmgoiiicaaa
