/-
  Encode, over what withBody is told to do.
-/
import Derived.Test.YtmoghdpjemidgaaPgY
namespace Go.Proofs.Ytmoghdpjemidgaa
open Go.RowKit Go.Maps
structure Eh (w W : World) (gx gb : Nat) (A : Array Value) (L : List UInt8) : Prop where
  ne : gx ≠ gb
  lo : w.heap.size ≤ gx ∧ w.heap.size ≤ gb
  bx : W.heap[gx]? = some (.cells A 27 (0, 0))
  bb : W.heap[gb]? = some (.cells (cells8 L).toArray 5 (0, 0))
  bl : Below w.heap.size w W
theorem Eh.drew {w W : World} {gx gb : Nat} {A : Array Value} {L : List UInt8} (h : Eh w W gx gb A L) : Eh w W.drew gx gb A L := ⟨h.ne, h.lo, h.bx, h.bb, ⟨h.bl.os, h.bl.tape, h.bl.output, h.bl.size, h.bl.block⟩⟩
theorem Eh.upd {w W W' : World} {gx gb : Nat} {A : Array Value} {L L' : List UInt8} (h : Eh w W gx gb A L) (hk : Kept (fun k => k = gb) W W') (hb : W'.heap[gb]? = some (.cells (cells8 L').toArray 5 (0, 0))) : Eh w W' gx gb A L' :=
  ⟨h.ne, h.lo, by rw [hk.block _ (lt_of_heap h.bx) h.ne]; exact h.bx, hb, h.bl.trans (hk.below h.bl.size (fun x hx => by rw [hx]; exact h.lo.2))⟩
theorem Eh.fld {w W : World} {gx gb : Nat} {A : Array Value} {L : List UInt8} (h : Eh w W gx gb A L) (k : Nat) : W.cell? ⟨gx, k, none⟩ = A[k]? := cell_of_row W gx k _ _ _ h.bx
theorem Eh.below {w W W' : World} {gx gb : Nat} {A : Array Value} {L : List UInt8} (h : Eh w W gx gb A L) (hb : Below W.heap.size W W') : Eh w W' gx gb A L :=
  ⟨h.ne, h.lo, by rw [hb.block _ (lt_of_heap h.bx)]; exact h.bx, by rw [hb.block _ (lt_of_heap h.bb)]; exact h.bb, h.bl.trans (hb.mono h.bl.size)⟩
theorem Eh.bytes {w W : World} {gx gb : Nat} {A : Array Value} {L : List UInt8} (h : Eh w W gx gb A L) (hL : L.length = 512) (a n : Nat) (hn : a + n ≤ 512) : Bytes W (.slice (some ⟨gb, a, none⟩) n (512 - a)) ((L.drop a).take n) := by
  have ho : Own w.heap.size W (.slice (some ⟨gb, 0, none⟩) 512 512) L := own_of h.bb h.lo.2 hL (by decide)
  have hb := ho.bytes
  have hb' : Bytes W (.slice (some ⟨gb, 0, none⟩) L.length 512) L := by rw [hL]; exact hb
  have hd := hb'.drop a (by rw [hL]; omega)
  rw [← List.length_drop] at hd
  have ht := hd.take n (by rw [List.length_drop, hL]; omega)
  simp only [Option.map_some, add_plain, Nat.zero_add] at ht
  exact ht

/-- What stands ahead of the sum. -/
def hdN (kd cnt : Nat) : List UInt8 := [181, UInt8.ofNat kd] ++ leB 2 cnt
/-- A page's bytes, its sum still 0. -/
def en0 (kd cnt : Nat) (bd : List UInt8) : List UInt8 := zf (hdN kd cnt ++ [0, 0, 0, 0] ++ bd)
/-- A page's bytes. -/
def encL (kd cnt : Nat) (bd : List UInt8) : List UInt8 := splice (en0 kd cnt bd) 4 (leB 4 (crc ((en0 kd cnt bd).take 4 ++ (en0 kd cnt bd).drop 8)))
theorem hd_length (kd cnt : Nat) : (hdN kd cnt).length = 4 := by simp [hdN, leB_length]
theorem en0_length (kd cnt : Nat) (bd : List UInt8) (h : 8 + bd.length ≤ 512) : (en0 kd cnt bd).length = 512 := by unfold en0; rw [zf_length _ (by simp [hd_length]; omega)]
theorem encL_length (kd cnt : Nat) (bd : List UInt8) (h : 8 + bd.length ≤ 512) : (encL kd cnt bd).length = 512 := by
  unfold encL
  rw [length_splice _ _ _ (by rw [leB_length, en0_length kd cnt bd h]; omega), en0_length kd cnt bd h]
theorem zf_eight (l : List UInt8) (h : l.length = 4) : zf l = zf (l ++ [0, 0, 0, 0]) := by
  unfold zf
  rw [List.length_append, h, List.append_assoc]
  congr 1
theorem hd_splice (kd cnt : Nat) : splice (((List.replicate 512 (0 : UInt8)).set 0 181).set 1 (UInt8.ofNat kd)) 2 (leB 2 cnt) = zf (hdN kd cnt ++ [0, 0, 0, 0]) := by
  rw [← zf_eight _ (hd_length kd cnt)]
  have e : ((List.replicate 512 (0 : UInt8)).set 0 181).set 1 (UInt8.ofNat kd) = zf [181, UInt8.ofNat kd] := rfl
  rw [e, show (2 : Nat) = ([181, UInt8.ofNat kd] : List UInt8).length by rfl, zf_splice _ _ (by simp [leB_length])]
  rfl
theorem enc_put {w W : World} {gx gb : Nat} {A : Array Value} {L : List UInt8} (h : Eh w W gx gb A L) (off n cap x : Nat) (hn : n ≤ 8) (hc : n ≤ cap) (hm : cap ≤ maxLen) (hL : off + n ≤ L.length) (hx : x < 9223372036854775808) :
    Calls Try.prog 22 #[.slice (some ⟨gb, off, none⟩) n cap, .int .i64 (x : Int)] W fun e w' => e = .returned (.tuple #[]) ∧ Eh w w' gx gb A (splice L off (leB n x)) := by
  refine (put_any 5 gb off n cap x L W h.bb hn hc hm hL hx).mono ?_
  rintro e w' ⟨rfl, h1, h2⟩
  exact ⟨rfl, h.upd h2 h1⟩
theorem set_cells8 (L : List UInt8) (k : Nat) (c : UInt8) : (cells8 L).toArray.setIfInBounds k (.int .u8 (c8 c)) = (cells8 (L.set k c)).toArray := by
  apply Array.ext'
  rw [Array.toList_setIfInBounds]
  unfold cells8
  rw [List.map_set]
/-- withBody lays these bytes. -/
def Lays (n : Nd) (v : Nv) (bd : List UInt8) : Prop := ∀ (w0 w : World) (g m : Nat) (l : List UInt8), Fil w0 w g v n → Zr w g l → m = l.length → l.length + bd.length ≤ 512 →
  Calls Try.prog 24 #[.slice (some ⟨g, 0, none⟩) m 512, .agg (n.arr v)] w fun e w' => e = .returned (.slice (some ⟨g, 0, none⟩) (m + bd.length) 512) ∧ Zr w' g (l ++ bd) ∧ Kept (fun y => y = g) w w'
set_option maxHeartbeats 8000000 in
set_option maxRecDepth 100000 in
theorem encode_ok (n : Nd) (v : Nv) (w : World) (hv : Ls w v n) (hz : Sz n) (hf : fitB n = true) (kd : Nat) (hkd : n.kind = (kd : Int)) (hk3 : kd ≤ 3) (cnt : Nat) (hct : cnt = n.ents.length + n.keys.length + n.data.size) (hds : n.data.size ≤ 140737488355328) (hc16 : cnt < 65536) (bd : List UInt8) (hbd : 8 + bd.length ≤ 512) (hB : Lays n v bd) :
    Calls Try.prog 9 #[.agg (n.arr v)] w fun e w' => ∃ gb, e = .returned (.tuple #[.slice (some ⟨gb, 0, none⟩) 512 512, .int .i64 0]) ∧ Own w.heap.size w' (.slice (some ⟨gb, 0, none⟩) 512 512) (encL kd cnt bd) ∧ Below w.heap.size w w' := by
  have V := Lib.hid hv
  have Z := Lib.hid hz
  have LB := Lib.hid hB
  have HBD := Lib.hid hbd
  have NA : Hid (n.arr v = #[.int .i64 n.kind, v.e, v.c, v.k, v.h, .int .i64 n.next, .string n.data]) := Lib.hid rfl
  have CT := Lib.hid (And.intro hct hds)
  obtain ⟨nx, hnx⟩ : ∃ x, x = n.next := ⟨_, rfl⟩
  obtain ⟨dt, hdt⟩ : ∃ x, x = n.data := ⟨_, rfl⟩
  obtain ⟨ve, hve⟩ : ∃ x, x = v.e := ⟨_, rfl⟩
  obtain ⟨vc, hvc⟩ : ∃ x, x = v.c := ⟨_, rfl⟩
  obtain ⟨vk, hvk⟩ : ∃ x, x = v.k := ⟨_, rfl⟩
  obtain ⟨vh, hvh⟩ : ∃ x, x = v.h := ⟨_, rfl⟩
  rw [hkd, ← hnx, ← hdt, ← hve, ← hvc, ← hvk, ← hvh] at NA
  rw [NA.out]
  obtain ⟨gx, hgx⟩ : ∃ gx, gx = w.heap.size := ⟨_, rfl⟩
  obtain ⟨X, hX⟩ : ∃ X, X = w.alloc (.cells #[.int .i64 (kd : Int), ve, vc, vk, vh, .int .i64 nx, .string dt] 27) := ⟨_, rfl⟩
  have XX : Hid (Below w.heap.size w X ∧ gx < X.heap.size ∧ w.heap.size ≤ gx) := Lib.hid ⟨by rw [hX]; exact (Below.refl _ _).alloc (Nat.le_refl _) _, by rw [hX, hgx]; simp, by omega⟩
  have XG : Hid (X.heap[gx]? = some (.cells #[.int .i64 (kd : Int), ve, vc, vk, vh, .int .i64 nx, .string dt] 27 (0, 0))) := Lib.hid (by rw [hX, hgx]; exact heap_alloc_new _ _)
  obtain ⟨p0, p1, p2, p3, p4, p5, p6⟩ := node_cells XG.out
  have FI : Hid (Calls Try.prog 7 #[.agg #[.int .i64 (kd : Int), ve, vc, vk, vh, .int .i64 nx, .string dt]] X fun e w' => e = .returned (.bool true) ∧ Below X.heap.size X w') := Lib.hid (by
    rw [← NA.out, ← hf]
    exact Fits_any n v X (V.out.below XX.out.1) Z.out)
  have hX' := hX.symm
  have hgx' := hgx.symm
  have k8 : Hid ((kd : Int) = c8 (UInt8.ofNat kd)) := Lib.hid (c8_of _ (by omega)).symm
  have mk : ∀ (W : World), (Instr.makeSlice 33 (.int .i64 8) (.int .i64 512)).run Try.prog W = .ok (.slice (some ⟨W.heap.size, 0, none⟩) 8 512) (W.alloc (.cells (madeCells #[.int .u8 0] 512) 5)) := fun W => make_bytes W 8 512 rfl rfl (by decide) (by decide)
  clear hv hz hf hkd hct hds hbd hB hnx hdt hve hvc hvk hvh hX hgx
  go_enter Try.func9, Try.ntmps9
  go_wp2_with (go_at_call 7; refine FI.out.mono ?_; rintro e w1 ⟨rfl, hb⟩; have H1 := Lib.hid hb; clear hb; obtain ⟨gb, hgb⟩ : ∃ gb, gb = w1.heap.size := ⟨_, rfl⟩; obtain ⟨Y, hY⟩ : ∃ Y, Y = w1.alloc (.cells (madeCells #[.int .u8 0] 512) 5) := ⟨_, rfl⟩; have mk1 := mk w1; rw [← hgb, ← hY] at mk1; clear mk)
  obtain ⟨R, hR⟩ : ∃ R : List UInt8, R = List.replicate 512 0 := ⟨_, rfl⟩
  have RL : R.length = 512 := by rw [hR, List.length_replicate]
  have HR := Lib.hid hR
  have Yb : Y.heap[gb]? = some (.cells (cells8 R).toArray 5 (0, 0)) := by rw [hY, hgb, heap_alloc_new, made_zeros, hR]
  have YE : Hid (Eh w Y gx gb #[.int .i64 (kd : Int), ve, vc, vk, vh, .int .i64 nx, .string dt] R) := Lib.hid ⟨by have := XX.out.2.1; have := H1.out.size; omega, by have := XX.out.2; have := XX.out.1.size; have := H1.out.size; omega, by
    rw [hY, Below.heap_alloc _ _ _ (by have := XX.out.2.1; have := H1.out.size; omega), H1.out.block _ XX.out.2.1]; exact XG.out, Yb, by
    rw [hY]; exact (XX.out.1.trans (H1.out.mono XX.out.1.size)).alloc (by have := XX.out.1.size; have := H1.out.size; omega) _⟩
  have YD := Lib.hid YE.out.drew
  have ngb : gx ≠ gb := YE.out.ne
  obtain ⟨Z1, hZ1⟩ : ∃ Z1, Z1 = Y.drew.setCell ⟨gb, 0, none⟩ (.int .u8 181) := ⟨_, rfl⟩
  obtain ⟨Z2, hZ2⟩ : ∃ Z2, Z2 = Z1.setCell ⟨gb, 1, none⟩ (.int .u8 (kd : Int)) := ⟨_, rfl⟩
  have Z1E : Hid (Eh w Z1 gx gb #[.int .i64 (kd : Int), ve, vc, vk, vh, .int .i64 nx, .string dt] (R.set 0 181)) := Lib.hid (by
    rw [hZ1]
    refine YD.out.upd (kept_set (F := fun k => k = gb) _ _ _ rfl) ?_
    rw [heap_setCell_same _ _ _ _ _ _ YD.out.bb, show (Value.int .u8 181) = .int .u8 (c8 181) from rfl, set_cells8])
  have Z2E : Hid (Eh w Z2 gx gb #[.int .i64 (kd : Int), ve, vc, vk, vh, .int .i64 nx, .string dt] ((R.set 0 181).set 1 (UInt8.ofNat kd))) := Lib.hid (by
    rw [hZ2]
    refine Z1E.out.upd (kept_set (F := fun k => k = gb) _ _ _ rfl) ?_
    rw [heap_setCell_same _ _ _ _ _ _ Z1E.out.bb, k8.out, set_cells8])
  have q0 : Y.cell? ⟨gx, 0, none⟩ = some (.int .i64 (kd : Int)) := (node_cells YE.out.bx).1
  have q1 : Y.drew.cell? ⟨gx, 0, none⟩ = some (.int .i64 (kd : Int)) := q0
  have q2 : Z1.cell? ⟨gx, 0, none⟩ = some (.int .i64 (kd : Int)) := (node_cells Z1E.out.bx).1
  have cB : ∀ {W : World} {L : List UInt8} (k : Nat), W.heap[gb]? = some (.cells (cells8 L).toArray 5 (0, 0)) → L.length = 512 → k < 512 → ∃ u, W.cell? ⟨gb, k, none⟩ = some u := fun {W L} k h1 h2 h3 => by
    rw [cell_of_row _ _ _ _ _ _ h1]; exact ⟨_, Array.getElem?_eq_getElem (by rw [List.size_toArray, cells8_length, h2]; exact h3)⟩
  obtain ⟨u0, c0⟩ := cB 0 YE.out.bb RL (by omega)
  obtain ⟨u1, c1⟩ := cB 1 YE.out.bb RL (by omega)
  obtain ⟨u2, c2⟩ := cB 1 Z1E.out.bb (by rw [List.length_set]; exact RL) (by omega)
  have c0d : Y.drew.cell? ⟨gb, 0, none⟩ = some u0 := c0
  have c1d : Y.drew.cell? ⟨gb, 1, none⟩ = some u1 := c1
  have f0 : Y.frozen? ⟨gb, 0, none⟩ = false := frozen_of_row _ _ _ _ _ YE.out.bb
  have f0d : Y.drew.frozen? ⟨gb, 0, none⟩ = false := frozen_of_row _ _ _ _ _ YD.out.bb
  have f1 : Y.frozen? ⟨gb, 1, none⟩ = false := frozen_of_row _ _ _ _ _ YE.out.bb
  have f1d : Y.drew.frozen? ⟨gb, 1, none⟩ = false := frozen_of_row _ _ _ _ _ YD.out.bb
  have f2 : Z1.frozen? ⟨gb, 1, none⟩ = false := frozen_of_row _ _ _ _ _ Z1E.out.bb
  have hZ1' := hZ1.symm
  have hZ2' := hZ2.symm
  rw [← hY, ← hgb]
  clear hR RL Yb hY hgb hZ1 hZ2 cB
  go_region
  clear q0 q1 q2 c0 c1 c2 c0d c1d f0 f0d f1 f1d f2 hZ1' hZ2' Z1E YD YE hX' hgx' p0 p1 p2 p3 p4 p5 p6 mk1
  have KS : Hid (∀ {W : World} {L : List UInt8}, Eh w W gx gb #[.int .i64 (kd : Int), ve, vc, vk, vh, .int .i64 nx, .string dt] L → W.cell? ⟨gx, 0, none⟩ = some (.int .i64 (kd : Int)) ∧ W.cell? ⟨gx, 1, none⟩ = some ve ∧ W.cell? ⟨gx, 2, none⟩ = some vc ∧ W.cell? ⟨gx, 3, none⟩ = some vk ∧ W.cell? ⟨gx, 4, none⟩ = some vh ∧ W.cell? ⟨gx, 5, none⟩ = some (.int .i64 nx) ∧ W.cell? ⟨gx, 6, none⟩ = some (.string dt)) := Lib.hid (fun h => node_cells h.bx)
  have R5 : Hid (((R.set 0 181).set 1 (UInt8.ofNat kd)).length = 512 ∧ splice ((R.set 0 181).set 1 (UInt8.ofNat kd)) 2 (leB 2 cnt) = zf (hdN kd cnt ++ [0, 0, 0, 0])) := Lib.hid ⟨by rw [List.length_set, List.length_set, HR.out, List.length_replicate], by rw [HR.out]; exact hd_splice kd cnt⟩
  obtain ⟨L0, hL0⟩ : ∃ L0, L0 = (R.set 0 181).set 1 (UInt8.ofNat kd) := ⟨_, rfl⟩
  rw [← hL0] at Z2E R5
  clear hL0 HR
  have CN : Hid (Calls Try.prog 23 #[.agg #[.int .i64 (kd : Int), ve, vc, vk, vh, .int .i64 nx, .string dt]] Z2.drew fun e w' => e = .returned (.int .i64 (cnt : Int)) ∧ Eh w w' gx gb #[.int .i64 (kd : Int), ve, vc, vk, vh, .int .i64 nx, .string dt] L0) := Lib.hid (by
    rw [← NA.out]
    refine (count_any n v Z2.drew (V.out.below Z2E.out.drew.bl) Z.out CT.out.2).mono ?_
    rintro e w' ⟨rfl, hb⟩
    exact ⟨by rw [CT.out.1], by rw [NA.out]; exact Z2E.out.drew.below hb⟩)
  have PU : Hid (∀ W, Eh w W gx gb #[.int .i64 (kd : Int), ve, vc, vk, vh, .int .i64 nx, .string dt] L0 → Calls Try.prog 22 #[.slice (some ⟨gb, 2, none⟩) 2 510, .int .i64 (cnt : Int)] W fun e w' => e = .returned (.tuple #[]) ∧ Eh w w' gx gb #[.int .i64 (kd : Int), ve, vc, vk, vh, .int .i64 nx, .string dt] (zf (hdN kd cnt ++ [0, 0, 0, 0]))) := Lib.hid (fun W h => by
    rw [← R5.out.2]
    exact enc_put h 2 2 510 cnt (by decide) (by decide) (by decide) (by rw [R5.out.1]; decide) (by omega))
  go_wp2_with fail
  go_region_held (fun W : World => W.cell? ⟨gx, 0, none⟩ = some (.int .i64 (kd : Int)) ∧ W.cell? ⟨gx, 1, none⟩ = some ve ∧ W.cell? ⟨gx, 2, none⟩ = some vc ∧ W.cell? ⟨gx, 3, none⟩ = some vk ∧ W.cell? ⟨gx, 4, none⟩ = some vh ∧ W.cell? ⟨gx, 5, none⟩ = some (.int .i64 nx) ∧ W.cell? ⟨gx, 6, none⟩ = some (.string dt)) (first | exact KS.out h3 | exact KS.out h2 | exact KS.out Z2E.out.drew) (first | (go_at_call 23; refine CN.out.mono ?_; rintro e w2 ⟨rfl, h2⟩) | (go_at_call 22; refine (PU.out _ h2).mono ?_; rintro e w3 ⟨rfl, h3⟩))
  have H3 := Lib.hid h3
  clear h3 h2 CN PU Z2E R5
  obtain ⟨p0, p1, p2, p3, p4, p5, p6⟩ := KS.out H3.out
  have WB : Hid (Calls Try.prog 24 #[.slice (some ⟨gb, 0, none⟩) 8 512, .agg #[.int .i64 (kd : Int), ve, vc, vk, vh, .int .i64 nx, .string dt]] w3 fun e w' => e = .returned (.slice (some ⟨gb, 0, none⟩) (8 + bd.length) 512) ∧ Eh w w' gx gb #[.int .i64 (kd : Int), ve, vc, vk, vh, .int .i64 nx, .string dt] (en0 kd cnt bd)) := Lib.hid (by
    rw [← NA.out]
    have h8 : (hdN kd cnt ++ [0, 0, 0, 0]).length = 8 := by rw [List.length_append, hd_length]; rfl
    refine (LB.out w w3 gb 8 (hdN kd cnt ++ [0, 0, 0, 0]) ⟨V.out, H3.out.bl, H3.out.lo.2⟩ H3.out.bb h8.symm (by rw [h8]; exact HBD.out)).mono ?_
    rintro e w' ⟨rfl, hz, hk⟩
    exact ⟨rfl, by rw [NA.out]; exact H3.out.upd hk hz⟩)
  obtain ⟨bl, hbl⟩ : ∃ bl, bl = bd.length := ⟨_, rfl⟩
  have hbl9 : 8 + bl ≤ 512 := by rw [hbl]; exact HBD.out
  rw [← hbl] at WB
  have E0 : Hid ((en0 kd cnt bd).length = 512 ∧ (encL kd cnt bd).length = 512) := Lib.hid ⟨en0_length kd cnt bd HBD.out, encL_length kd cnt bd HBD.out⟩
  clear hbl
  go_wp2_with (go_at_call 24; refine WB.out.mono ?_; rintro e w4 ⟨rfl, h4⟩; have H4 := Lib.hid h4; clear h4)
  clear p0 p1 p2 p3 p4 p5 p6 WB H3
  obtain ⟨C, hC⟩ : ∃ C, C = crc ((en0 kd cnt bd).take 4 ++ (en0 kd cnt bd).drop 8) := ⟨_, rfl⟩
  have hC32 : C < 4294967296 := by rw [hC]; exact crc_lt _
  have CQ := Lib.hid hC
  have wC : IntKind.i64.wrap (C : Int) = (C : Int) := wrap_in (by omega) (by omega)
  obtain ⟨X7, hX7⟩ : ∃ X7, X7 = w4.drew.alloc (.cells #[.slice (some ⟨gb, 0, none⟩) 4 512, .slice (some ⟨gb, 8, none⟩) 504 504] 33) := ⟨_, rfl⟩
  have HX : Hid (Eh w X7 gx gb #[.int .i64 (kd : Int), ve, vc, vk, vh, .int .i64 nx, .string dt] (en0 kd cnt bd)) := Lib.hid (by rw [hX7]; exact H4.out.drew.below ((Below.refl _ _).alloc (Nat.le_refl _) _))
  have cx : ∀ k, X7.cell? ⟨w4.heap.size, k, none⟩ = (#[.slice (some ⟨gb, 0, none⟩) 4 512, .slice (some ⟨gb, 8, none⟩) 504 504] : Array Value)[k]? := fun k => by rw [hX7]; exact World.cell?_alloc_new _ _ _ _
  have PA : Hid (Calls Try.prog 25 #[.slice (some ⟨w4.heap.size, 0, none⟩) 2 2] X7 fun r w' => r = .returned (.int .u32 (C : Int)) ∧ Eh w w' gx gb #[.int .i64 (kd : Int), ve, vc, vk, vh, .int .i64 nx, .string dt] (en0 kd cnt bd)) := Lib.hid (by
    have b1 := HX.out.bytes E0.out.1 0 4 (by omega)
    have b2 := HX.out.bytes E0.out.1 8 504 (by omega)
    rw [List.drop_zero] at b1
    have e2 : ((en0 kd cnt bd).drop 8).take 504 = (en0 kd cnt bd).drop 8 := List.take_of_length_le (by rw [List.length_drop, E0.out.1]; omega)
    rw [e2] at b2
    refine (parts2_any w4.heap.size _ _ _ _ X7 b1 b2 (cx 0) (cx 1)).mono ?_
    rintro r w' ⟨rfl, hb⟩
    exact ⟨by rw [← CQ.out], HX.out.below hb⟩)
  have PU : Hid (∀ W, Eh w W gx gb #[.int .i64 (kd : Int), ve, vc, vk, vh, .int .i64 nx, .string dt] (en0 kd cnt bd) → Calls Try.prog 22 #[.slice (some ⟨gb, 4, none⟩) 4 508, .int .i64 (C : Int)] W fun r w' => r = .returned (.tuple #[]) ∧ Eh w w' gx gb #[.int .i64 (kd : Int), ve, vc, vk, vh, .int .i64 nx, .string dt] (encL kd cnt bd)) := Lib.hid (fun W h => by
    have e : encL kd cnt bd = splice (en0 kd cnt bd) 4 (leB 4 C) := by rw [CQ.out]; rfl
    rw [e]
    exact enc_put h 4 4 508 C (by decide) (by decide) (by decide) (by rw [E0.out.1]; decide) (by omega))
  have hX7' := hX7.symm
  clear hX7 hC cx
  go_region_held (fun _ : World => True) (exact trivial) (first | (go_at_call 25; refine PA.out.mono ?_; rintro r w8 ⟨rfl, h8⟩) | (go_at_call 22; refine (PU.out _ h8).mono ?_; rintro r w9 ⟨rfl, h9⟩))
  have H9 := Lib.hid h9
  clear h9 h8 PA PU HX H4 hX7'
  go_wp2_with fail
  go_ret2
  exact ⟨gb, rfl, own_of H9.out.bb H9.out.lo.2 E0.out.2 (by decide), H9.out.bl⟩
end Go.Proofs.Ytmoghdpjemidgaa
