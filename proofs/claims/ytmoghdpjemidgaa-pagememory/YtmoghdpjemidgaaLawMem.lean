/-
  PageMemory.
-/
import Derived.Test.YtmoghdpjemidgaaPmF
import Derived.Test.YtmoghdpjemidgaaLawPB
namespace Go.Proofs.Ytmoghdpjemidgaa
open Go.RowKit Go.Maps Pm
set_option maxHeartbeats 32000000 in
set_option maxRecDepth 100000 in
theorem memory_no (n : Nd) (nv : Nv) (w : World) (hn : Ls w nv n) (hs : Szs n) (hfit : fitB n = false) :
    Calls Try.prog 4 #[.agg (n.arr nv)] w fun e w' => e = .returned (.bool true) ∧ Below w.heap.size w w' := by
  have FF := Lib.hid hfit
  have SZ := Lib.hid hs
  obtain ⟨kd, hkd⟩ : ∃ x, x = n.kind := ⟨_, rfl⟩
  obtain ⟨nx, hnx⟩ : ∃ x, x = n.next := ⟨_, rfl⟩
  obtain ⟨dt, hdt⟩ : ∃ x, x = n.data := ⟨_, rfl⟩
  have NA : Hid (∀ ve vc vk vh, n.arr ⟨ve, vc, vk, vh⟩ = #[.int .i64 kd, ve, vc, vk, vh, .int .i64 nx, .string dt]) := Lib.hid (fun _ _ _ _ => by rw [hkd, hnx, hdt]; rfl)
  clear hkd hnx hdt
  obtain ⟨ve, vc, vk, vh⟩ := nv
  rw [NA.out]
  obtain ⟨g0, hg0⟩ : ∃ g0, g0 = w.heap.size := ⟨_, rfl⟩
  obtain ⟨X, hX⟩ : ∃ X, X = w.alloc (.cells #[.int .i64 kd, ve, vc, vk, vh, .int .i64 nx, .string dt] 27) := ⟨_, rfl⟩
  have BX : Hid (Below w.heap.size w X) := Lib.hid (by rw [hX]; exact (Below.refl _ _).alloc (Nat.le_refl _) _)
  have GX : Hid (X.heap[g0]? = some (.cells #[.int .i64 kd, ve, vc, vk, vh, .int .i64 nx, .string dt] 27 (0, 0))) := Lib.hid (by rw [hX, hg0]; exact heap_alloc_new _ _)
  have CX : Hid (∀ W, Below X.heap.size X W → W.heap[g0]? = some (.cells #[.int .i64 kd, ve, vc, vk, vh, .int .i64 nx, .string dt] 27 (0, 0))) := Lib.hid (fun W h => (h.block g0 (lt_of_heap GX.out)).trans GX.out)
  have LX : Hid (∀ W, Below X.heap.size X W → Ls W ⟨ve, vc, vk, vh⟩ n) := Lib.hid (fun W h => (hn.below BX.out).below h)
  have VX : Hid (∀ W, Below X.heap.size X W → Below w.heap.size w W) := Lib.hid (fun W h => BX.out.trans (h.mono BX.out.size))
  have FXD := Lib.hid fixed_any
  have CP : Hid (∀ W, Below X.heap.size X W → Calls Try.prog 8 #[.agg #[.int .i64 kd, ve, vc, vk, vh, .int .i64 nx, .string dt]] W fun e w' => ∃ e2 c2 k2 h2, e = .returned (.agg #[.int .i64 kd, e2, c2, k2, h2, .int .i64 nx, .string dt]) ∧ Hid (Ow W.heap.size w' ⟨e2, c2, k2, h2⟩ n ∧ Below W.heap.size W w')) := Lib.hid (fun W h => by
    have q := copied_any n ⟨ve, vc, vk, vh⟩ W (LX.out W h) SZ.out.e SZ.out.q
    rw [NA.out] at q
    refine q.mono ?_
    rintro e w' ⟨⟨e2, c2, k2, h2⟩, he, o1, o2, o3, o4, o5, hb⟩
    rw [NA.out] at he
    exact ⟨e2, c2, k2, h2, he, Lib.hid ⟨⟨o1, o2, o3, o4, o5⟩, hb⟩⟩)
  have EN : Hid (∀ (W : World) (e2 c2 k2 h2 : Value), Ls W ⟨e2, c2, k2, h2⟩ n → Calls Try.prog 9 #[.agg #[.int .i64 kd, e2, c2, k2, h2, .int .i64 nx, .string dt]] W fun e w' => e = .returned (.tuple #[.slice none 0 0, .int .i64 1]) ∧ Below W.heap.size W w') := Lib.hid (fun W e2 c2 k2 h2 h => by
    have q := encode_no n ⟨e2, c2, k2, h2⟩ W h SZ.out.z FF.out
    rw [NA.out] at q
    exact q)
  have hX' := hX.symm
  have hg0' := hg0.symm
  clear hn hs hfit hX hg0
  go_enter Try.func4, Try.ntmps4
  go_wp2_with fail
  refine (FXD.out _).mono ?_
  rintro e w1 ⟨rfl, hb⟩
  have B1 := Lib.hid hb
  obtain ⟨p0, p1, p2, p3, p4, p5, p6⟩ := node_cells (CX.out w1 hb)
  clear hb
  go_wp2_with fail
  refine (CP.out w1 B1.out).mono ?_
  rintro e w2 ⟨e2, c2, k2, h2, rfl, H2⟩
  clear p0 p1 p2 p3 p4 p5 p6 hX' hg0'
  have B2 := Lib.hid (B1.out.trans (H2.out.2.mono B1.out.size))
  obtain ⟨g4, hg4⟩ : ∃ g, g = w2.heap.size := ⟨_, rfl⟩
  obtain ⟨V2, hV2⟩ : ∃ V, V = w2.alloc (.cells #[.int .i64 0, .slice none 0 0, .slice none 0 0, .slice none 0 0, .slice none 0 0, .int .i64 0, .string ⟨#[]⟩] 27) := ⟨_, rfl⟩
  obtain ⟨Y2, hY2⟩ : ∃ V, V = V2.setRow g4 #[.int .i64 kd, e2, c2, k2, h2, .int .i64 nx, .string dt] := ⟨_, rfl⟩
  have GV2 : Hid (V2.heap[g4]? = some (.cells #[.int .i64 0, .slice none 0 0, .slice none 0 0, .slice none 0 0, .slice none 0 0, .int .i64 0, .string ⟨#[]⟩] 27 (0, 0))) := Lib.hid (by rw [hV2, hg4]; exact heap_alloc_new _ _)
  have BV2 : Hid (Below w2.heap.size w2 Y2 ∧ Y2.heap[g4]? = some (.cells #[.int .i64 kd, e2, c2, k2, h2, .int .i64 nx, .string dt] 27 (0, 0)) ∧ g4 = w2.heap.size) := Lib.hid (by
    refine ⟨?_, ?_, hg4⟩
    · rw [hY2, hV2, hg4]; exact (laid_node w2 _).1
    · rw [hY2, hV2, hg4]; exact (laid_node w2 _).2)
  have ON2 : Hid ((#[.int .i64 kd, e2, c2, k2, h2, .int .i64 nx, .string dt] : Array Value).all (·.oneCell') = true) := Lib.hid (arr_one _ _ _ (ls_one H2.out.1.ls))
  have hg4' := hg4.symm
  have hV2' := hV2.symm
  have hY2' := hY2.symm
  clear hg4 hV2 hY2
  obtain ⟨s0, s1, s2, s3, s4, s5, s6⟩ := node_cells BV2.out.2.1
  have D2 := Lib.hid (B2.out.trans (BV2.out.1.mono B2.out.size))
  go_wp2_with (refine wpList_store_row rfl 27 (.tmp 4) (.tmp 23) rfl g4 #[.int .i64 kd, e2, c2, k2, h2, .int .i64 nx, .string dt] rfl rfl 27 #[.int .i64 0, .slice none 0 0, .slice none 0 0, .slice none 0 0, .slice none 0 0, .int .i64 0, .string ⟨#[]⟩] GV2.out size_node rfl ON2.out ?_; rw [hY2'])
  refine (EN.out Y2 e2 c2 k2 h2 (H2.out.1.below BV2.out.1).ls).mono ?_
  rintro e w3 ⟨rfl, hb⟩
  have B3 := Lib.hid (D2.out.trans (hb.mono D2.out.size))
  have L3 := Lib.hid ((H2.out.1.below BV2.out.1).below hb).ls
  obtain ⟨s0, s1, s2, s3, s4, s5, s6⟩ := node_cells (show w3.heap[g4]? = _ from (hb.block g4 (lt_of_heap BV2.out.2.1)).trans BV2.out.2.1)
  clear hb
  go_wp2_with fail
  refine (EN.out w3 e2 c2 k2 h2 L3.out).mono ?_
  rintro e w4 ⟨rfl, hb⟩
  have B4 := Lib.hid (B3.out.trans (hb.mono B3.out.size))
  clear hb s0 s1 s2 s3 s4 s5 s6
  go_wp2_with fail
  go_ret
  exact ⟨rfl, VX.out _ B4.out⟩
set_option maxHeartbeats 32000000 in
set_option maxRecDepth 100000 in
theorem memory_yes (n : Nd) (nv : Nv) (w : World) (hn : Ls w nv n) (hs : Szs n) (hfit : fitB n = true) :
    Calls Try.prog 4 #[.agg (n.arr nv)] w fun e w' => e = .returned (.bool true) ∧ Below w.heap.size w w' := by
  have FF := Lib.hid hfit
  have SZ := Lib.hid hs
  obtain ⟨kd, hkd⟩ : ∃ x, x = n.kind := ⟨_, rfl⟩
  obtain ⟨nx, hnx⟩ : ∃ x, x = n.next := ⟨_, rfl⟩
  obtain ⟨dt, hdt⟩ : ∃ x, x = n.data := ⟨_, rfl⟩
  have NA : Hid (∀ ve vc vk vh, n.arr ⟨ve, vc, vk, vh⟩ = #[.int .i64 kd, ve, vc, vk, vh, .int .i64 nx, .string dt]) := Lib.hid (fun _ _ _ _ => by rw [hkd, hnx, hdt]; rfl)
  clear hkd hnx hdt
  obtain ⟨ve, vc, vk, vh⟩ := nv
  rw [NA.out]
  obtain ⟨g0, hg0⟩ : ∃ g0, g0 = w.heap.size := ⟨_, rfl⟩
  obtain ⟨X, hX⟩ : ∃ X, X = w.alloc (.cells #[.int .i64 kd, ve, vc, vk, vh, .int .i64 nx, .string dt] 27) := ⟨_, rfl⟩
  have BX : Hid (Below w.heap.size w X) := Lib.hid (by rw [hX]; exact (Below.refl _ _).alloc (Nat.le_refl _) _)
  have GX : Hid (X.heap[g0]? = some (.cells #[.int .i64 kd, ve, vc, vk, vh, .int .i64 nx, .string dt] 27 (0, 0))) := Lib.hid (by rw [hX, hg0]; exact heap_alloc_new _ _)
  have CX : Hid (∀ W, Below X.heap.size X W → W.heap[g0]? = some (.cells #[.int .i64 kd, ve, vc, vk, vh, .int .i64 nx, .string dt] 27 (0, 0))) := Lib.hid (fun W h => (h.block g0 (lt_of_heap GX.out)).trans GX.out)
  have LX : Hid (∀ W, Below X.heap.size X W → Ls W ⟨ve, vc, vk, vh⟩ n) := Lib.hid (fun W h => (hn.below BX.out).below h)
  have VX : Hid (∀ W, Below X.heap.size X W → Below w.heap.size w W) := Lib.hid (fun W h => BX.out.trans (h.mono BX.out.size))
  have FXD := Lib.hid fixed_any
  have CP : Hid (∀ W, Below X.heap.size X W → Calls Try.prog 8 #[.agg #[.int .i64 kd, ve, vc, vk, vh, .int .i64 nx, .string dt]] W fun e w' => ∃ e2 c2 k2 h2, e = .returned (.agg #[.int .i64 kd, e2, c2, k2, h2, .int .i64 nx, .string dt]) ∧ Hid (Ow W.heap.size w' ⟨e2, c2, k2, h2⟩ n ∧ Below W.heap.size W w')) := Lib.hid (fun W h => by
    have q := copied_any n ⟨ve, vc, vk, vh⟩ W (LX.out W h) SZ.out.e SZ.out.q
    rw [NA.out] at q
    refine q.mono ?_
    rintro e w' ⟨⟨e2, c2, k2, h2⟩, he, o1, o2, o3, o4, o5, hb⟩
    rw [NA.out] at he
    exact ⟨e2, c2, k2, h2, he, Lib.hid ⟨⟨o1, o2, o3, o4, o5⟩, hb⟩⟩)
  have EN : Hid (∀ (W : World) (e2 c2 k2 h2 : Value), Ls W ⟨e2, c2, k2, h2⟩ n → Calls Try.prog 9 #[.agg #[.int .i64 kd, e2, c2, k2, h2, .int .i64 nx, .string dt]] W fun e w' => ∃ gb, e = .returned (.tuple #[.slice (some ⟨gb, 0, none⟩) 512 512, .int .i64 0]) ∧ Hid (Own W.heap.size w' (.slice (some ⟨gb, 0, none⟩) 512 512) (encN n) ∧ Below W.heap.size W w')) := Lib.hid (fun W e2 c2 k2 h2 h => by
    have q := encode_yes n ⟨e2, c2, k2, h2⟩ W h SZ.out.z FF.out
    rw [NA.out] at q
    refine q.mono ?_
    rintro e w' ⟨gb, he, o, hb⟩
    exact ⟨gb, he, Lib.hid ⟨o, hb⟩⟩)
  have PE := Lib.hid (pg_enc FF.out)
  have LE : Hid ((encN n).length = 512) := Lib.hid (se_enc FF.out).2.1
  have DC : Hid (∀ (W : World) (g c : Nat), Bytes W (.slice (some ⟨g, 0, none⟩) 512 c) (encN n) → Calls Try.prog 11 #[.slice (some ⟨g, 0, none⟩) 512 c] W fun e w' => ∃ e2 c2 k2 h2, e = .returned (.tuple #[.agg #[.int .i64 kd, e2, c2, k2, h2, .int .i64 nx, .string dt], .int .i64 0]) ∧ Hid (Ow W.heap.size w' ⟨e2, c2, k2, h2⟩ n ∧ Below W.heap.size W w')) := Lib.hid (fun W g c h => by
    have q := decode_pg g 0 c (encN n) W h LE.out PE.out.1
    rw [PE.out.2] at q
    refine q.mono ?_
    rintro e w' ⟨⟨e2, c2, k2, h2⟩, he, o, hb⟩
    rw [NA.out] at he
    exact ⟨e2, c2, k2, h2, he, Lib.hid ⟨o, hb⟩⟩)
  have SN : Hid (∀ (W : World) (e2 c2 k2 h2 : Value), Ls W ⟨e2, c2, k2, h2⟩ n → Below X.heap.size X W → Calls Try.prog 12 #[.agg #[.int .i64 kd, e2, c2, k2, h2, .int .i64 nx, .string dt], .agg #[.int .i64 kd, ve, vc, vk, vh, .int .i64 nx, .string dt]] W fun e w' => e = .returned (.bool true) ∧ Below W.heap.size W w') := Lib.hid (fun W e2 c2 k2 h2 h hb => by
    have q := sameNode_yes n ⟨e2, c2, k2, h2⟩ ⟨ve, vc, vk, vh⟩ W h (LX.out W hb)
    rw [NA.out, NA.out] at q
    exact q)
  have FL := Lib.hid (fit_len FF.out)
  have hX' := hX.symm
  have hg0' := hg0.symm
  clear hn hs hfit hX hg0
  go_enter Try.func4, Try.ntmps4
  go_wp2_with fail
  refine (FXD.out _).mono ?_
  rintro e w1 ⟨rfl, hb⟩
  have B1 := Lib.hid hb
  obtain ⟨p0, p1, p2, p3, p4, p5, p6⟩ := node_cells (CX.out w1 hb)
  clear hb
  go_wp2_with fail
  refine (CP.out w1 B1.out).mono ?_
  rintro e w2 ⟨e2, c2, k2, h2, rfl, H2⟩
  clear p0 p1 p2 p3 p4 p5 p6 hX' hg0'
  have B2 := Lib.hid (B1.out.trans (H2.out.2.mono B1.out.size))
  obtain ⟨g4, hg4⟩ : ∃ g, g = w2.heap.size := ⟨_, rfl⟩
  obtain ⟨V2, hV2⟩ : ∃ V, V = w2.alloc (.cells #[.int .i64 0, .slice none 0 0, .slice none 0 0, .slice none 0 0, .slice none 0 0, .int .i64 0, .string ⟨#[]⟩] 27) := ⟨_, rfl⟩
  obtain ⟨Y2, hY2⟩ : ∃ V, V = V2.setRow g4 #[.int .i64 kd, e2, c2, k2, h2, .int .i64 nx, .string dt] := ⟨_, rfl⟩
  have GV2 : Hid (V2.heap[g4]? = some (.cells #[.int .i64 0, .slice none 0 0, .slice none 0 0, .slice none 0 0, .slice none 0 0, .int .i64 0, .string ⟨#[]⟩] 27 (0, 0))) := Lib.hid (by rw [hV2, hg4]; exact heap_alloc_new _ _)
  have BV2 : Hid (Below w2.heap.size w2 Y2 ∧ Y2.heap[g4]? = some (.cells #[.int .i64 kd, e2, c2, k2, h2, .int .i64 nx, .string dt] 27 (0, 0)) ∧ g4 = w2.heap.size) := Lib.hid (by
    refine ⟨?_, ?_, hg4⟩
    · rw [hY2, hV2, hg4]; exact (laid_node w2 _).1
    · rw [hY2, hV2, hg4]; exact (laid_node w2 _).2)
  have ON2 : Hid ((#[.int .i64 kd, e2, c2, k2, h2, .int .i64 nx, .string dt] : Array Value).all (·.oneCell') = true) := Lib.hid (arr_one _ _ _ (ls_one H2.out.1.ls))
  have hg4' := hg4.symm
  have hV2' := hV2.symm
  have hY2' := hY2.symm
  clear hg4 hV2 hY2
  obtain ⟨s0, s1, s2, s3, s4, s5, s6⟩ := node_cells BV2.out.2.1
  have D2 := Lib.hid (B2.out.trans (BV2.out.1.mono B2.out.size))
  go_wp2_with (refine wpList_store_row rfl 27 (.tmp 4) (.tmp 23) rfl g4 #[.int .i64 kd, e2, c2, k2, h2, .int .i64 nx, .string dt] rfl rfl 27 #[.int .i64 0, .slice none 0 0, .slice none 0 0, .slice none 0 0, .slice none 0 0, .int .i64 0, .string ⟨#[]⟩] GV2.out size_node rfl ON2.out ?_; rw [hY2'])
  refine (EN.out Y2 e2 c2 k2 h2 (H2.out.1.below BV2.out.1).ls).mono ?_
  rintro e w3 ⟨ga, rfl, H3⟩
  have B3 := Lib.hid (D2.out.trans (H3.out.2.mono D2.out.size))
  have L3 := Lib.hid ((H2.out.1.below BV2.out.1).below H3.out.2).ls
  obtain ⟨s0, s1, s2, s3, s4, s5, s6⟩ := node_cells (show w3.heap[g4]? = _ from (H3.out.2.block g4 (lt_of_heap BV2.out.2.1)).trans BV2.out.2.1)
  go_wp2_with fail
  refine (EN.out w3 e2 c2 k2 h2 L3.out).mono ?_
  rintro e w4 ⟨gb, rfl, H4⟩
  clear s0 s1 s2 s3 s4 s5 s6 hg4' hV2' hY2'
  have B4 := Lib.hid (B3.out.trans (H4.out.2.mono B3.out.size))
  have OA4 := Lib.hid (H3.out.1.below H4.out.2)
  go_wp2_with fail
  refine (ownW_any _ (encN n) w4 OA4.out.bytes (by have := LE.out; omega)).mono ?_
  rintro e w5 ⟨v5, rfl, o5, hb5⟩
  obtain ⟨g9, c9, e9, -, -⟩ := own_slice o5 LE.out
  subst e9
  have H5 := Lib.hid (And.intro o5 hb5)
  have B5 := Lib.hid (B4.out.trans (hb5.mono B4.out.size))
  have OA5 := Lib.hid (OA4.out.below hb5)
  clear o5 hb5
  go_wp2_with fail
  refine (DC.out w5 ga 512 OA5.out.bytes).mono ?_
  rintro e w6 ⟨e6, c6, k6, h6, rfl, H6⟩
  have B6 := Lib.hid (B5.out.trans (H6.out.2.mono B5.out.size))
  obtain ⟨g10, hg10⟩ : ∃ g, g = w6.heap.size := ⟨_, rfl⟩
  obtain ⟨V6, hV6⟩ : ∃ V, V = w6.alloc (.cells #[.int .i64 0, .slice none 0 0, .slice none 0 0, .slice none 0 0, .slice none 0 0, .int .i64 0, .string ⟨#[]⟩] 27) := ⟨_, rfl⟩
  obtain ⟨Y6, hY6⟩ : ∃ V, V = V6.setRow g10 #[.int .i64 kd, e6, c6, k6, h6, .int .i64 nx, .string dt] := ⟨_, rfl⟩
  have GV6 : Hid (V6.heap[g10]? = some (.cells #[.int .i64 0, .slice none 0 0, .slice none 0 0, .slice none 0 0, .slice none 0 0, .int .i64 0, .string ⟨#[]⟩] 27 (0, 0))) := Lib.hid (by rw [hV6, hg10]; exact heap_alloc_new _ _)
  have BV6 : Hid (Below w6.heap.size w6 Y6 ∧ Y6.heap[g10]? = some (.cells #[.int .i64 kd, e6, c6, k6, h6, .int .i64 nx, .string dt] 27 (0, 0)) ∧ g10 = w6.heap.size) := Lib.hid (by
    refine ⟨?_, ?_, hg10⟩
    · rw [hY6, hV6, hg10]; exact (laid_node w6 _).1
    · rw [hY6, hV6, hg10]; exact (laid_node w6 _).2)
  have ON6 : Hid ((#[.int .i64 kd, e6, c6, k6, h6, .int .i64 nx, .string dt] : Array Value).all (·.oneCell') = true) := Lib.hid (arr_one _ _ _ (ls_one H6.out.1.ls))
  have hg10' := hg10.symm
  have hV6' := hV6.symm
  have hY6' := hY6.symm
  clear hg10 hV6 hY6
  have D6 := Lib.hid (B6.out.trans (BV6.out.1.mono B6.out.size))
  have OA6 := Lib.hid ((OA5.out.below H6.out.2).below BV6.out.1)
  go_wp2_with (refine wpList_store_row rfl 27 (.tmp 10) (.tmp 48) rfl g10 #[.int .i64 kd, e6, c6, k6, h6, .int .i64 nx, .string dt] rfl rfl 27 #[.int .i64 0, .slice none 0 0, .slice none 0 0, .slice none 0 0, .slice none 0 0, .int .i64 0, .string ⟨#[]⟩] GV6.out size_node rfl ON6.out ?_; rw [hY6'])
  refine (DC.out Y6 ga 512 OA6.out.bytes).mono ?_
  rintro e w7 ⟨e7, c7, k7, h7, rfl, H7⟩
  clear hg10' hV6' hY6'
  have B7 := Lib.hid (D6.out.trans (H7.out.2.mono D6.out.size))
  obtain ⟨g11, hg11⟩ : ∃ g, g = w7.heap.size := ⟨_, rfl⟩
  obtain ⟨V7, hV7⟩ : ∃ V, V = w7.alloc (.cells #[.int .i64 0, .slice none 0 0, .slice none 0 0, .slice none 0 0, .slice none 0 0, .int .i64 0, .string ⟨#[]⟩] 27) := ⟨_, rfl⟩
  obtain ⟨Y7, hY7⟩ : ∃ V, V = V7.setRow g11 #[.int .i64 kd, e7, c7, k7, h7, .int .i64 nx, .string dt] := ⟨_, rfl⟩
  have GV7 : Hid (V7.heap[g11]? = some (.cells #[.int .i64 0, .slice none 0 0, .slice none 0 0, .slice none 0 0, .slice none 0 0, .int .i64 0, .string ⟨#[]⟩] 27 (0, 0))) := Lib.hid (by rw [hV7, hg11]; exact heap_alloc_new _ _)
  have BV7 : Hid (Below w7.heap.size w7 Y7 ∧ Y7.heap[g11]? = some (.cells #[.int .i64 kd, e7, c7, k7, h7, .int .i64 nx, .string dt] 27 (0, 0)) ∧ g11 = w7.heap.size) := Lib.hid (by
    refine ⟨?_, ?_, hg11⟩
    · rw [hY7, hV7, hg11]; exact (laid_node w7 _).1
    · rw [hY7, hV7, hg11]; exact (laid_node w7 _).2)
  have ON7 : Hid ((#[.int .i64 kd, e7, c7, k7, h7, .int .i64 nx, .string dt] : Array Value).all (·.oneCell') = true) := Lib.hid (arr_one _ _ _ (ls_one H7.out.1.ls))
  have hg11' := hg11.symm
  have hV7' := hV7.symm
  have hY7' := hY7.symm
  clear hg11 hV7 hY7
  have D7 := Lib.hid (B7.out.trans (BV7.out.1.mono B7.out.size))
  have S7 : Hid (∃ f, Six X f Y7 g4 g10 g11 ⟨e2, c2, k2, h2⟩ ⟨e6, c6, k6, h6⟩ ⟨e7, c7, k7, h7⟩ n n n (.slice (some ⟨ga, 0, none⟩) 512 512) (.slice (some ⟨gb, 0, none⟩) 512 512) (.slice (some ⟨g9, 0, none⟩) 512 c9) (encN n) (encN n) (encN n)) := Lib.hid (six_make B1.out H2.out.1 H2.out.2 BV2.out.1 (by rw [NA.out]; exact BV2.out.2.1) BV2.out.2.2 H3.out.1 H3.out.2 H4.out.1 H4.out.2 H5.out.1 H5.out.2 H6.out.1 H6.out.2 BV6.out.1 (by rw [NA.out]; exact BV6.out.2.1) BV6.out.2.2 H7.out.1 H7.out.2 BV7.out.1 (by rw [NA.out]; exact BV7.out.2.1) BV7.out.2.2)
  clear H2 BV2 H3 H4 H5 H6 H7 BV6 L3 OA4 OA5 OA6 D2 B2 B3 B4 B5 B6 B7 D6
  obtain ⟨x0, x1, x2, x3, x4, x5, x6⟩ := node_cells (show Y7.heap[g10]? = some (.cells #[.int .i64 kd, e6, c6, k6, h6, .int .i64 nx, .string dt] 27 (0, 0)) by obtain ⟨f, q⟩ := S7.out; have := q.x.x; rw [NA.out] at this; exact this)
  obtain ⟨p0, p1, p2, p3, p4, p5, p6⟩ := node_cells (CX.out Y7 D7.out)
  go_wp2_with (refine wpList_store_row rfl 27 (.tmp 11) (.tmp 53) rfl g11 #[.int .i64 kd, e7, c7, k7, h7, .int .i64 nx, .string dt] rfl rfl 27 #[.int .i64 0, .slice none 0 0, .slice none 0 0, .slice none 0 0, .slice none 0 0, .int .i64 0, .string ⟨#[]⟩] GV7.out size_node rfl ON7.out ?_; rw [hY7'])
  refine (SN.out Y7 e6 c6 k6 h6 (by obtain ⟨f, q⟩ := S7.out; exact q.x.o.ls) D7.out).mono ?_
  rintro e w8 ⟨rfl, hb⟩
  have S8 : Hid (∃ f, Six X f w8 g4 g10 g11 ⟨e2, c2, k2, h2⟩ ⟨e6, c6, k6, h6⟩ ⟨e7, c7, k7, h7⟩ n n n (.slice (some ⟨ga, 0, none⟩) 512 512) (.slice (some ⟨gb, 0, none⟩) 512 512) (.slice (some ⟨g9, 0, none⟩) 512 c9) (encN n) (encN n) (encN n)) := Lib.hid (by obtain ⟨f, q⟩ := S7.out; exact ⟨f, q.below hb⟩)
  clear x0 x1 x2 x3 x4 x5 x6 p0 p1 p2 p3 p4 p5 p6 hb S7 D7 hg11' hV7' hY7'
  have B8 : Hid (Below X.heap.size X w8) := Lib.hid (by obtain ⟨f, q⟩ := S8.out; exact q.bl)
  obtain ⟨x0, x1, x2, x3, x4, x5, x6⟩ := node_cells (show w8.heap[g11]? = some (.cells #[.int .i64 kd, e7, c7, k7, h7, .int .i64 nx, .string dt] 27 (0, 0)) by obtain ⟨f, q⟩ := S8.out; have := q.y.x; rw [NA.out] at this; exact this)
  obtain ⟨p0, p1, p2, p3, p4, p5, p6⟩ := node_cells (CX.out w8 B8.out)
  go_wp2_with fail
  refine (SN.out w8 e7 c7 k7 h7 (by obtain ⟨f, q⟩ := S8.out; exact q.y.o.ls) B8.out).mono ?_
  rintro e w9 ⟨rfl, hb⟩
  have S9 : Hid (∃ f, Six X f w9 g4 g10 g11 ⟨e2, c2, k2, h2⟩ ⟨e6, c6, k6, h6⟩ ⟨e7, c7, k7, h7⟩ n n n (.slice (some ⟨ga, 0, none⟩) 512 512) (.slice (some ⟨gb, 0, none⟩) 512 512) (.slice (some ⟨g9, 0, none⟩) 512 c9) (encN n) (encN n) (encN n)) := Lib.hid (by obtain ⟨f, q⟩ := S8.out; exact ⟨f, q.below hb⟩)
  clear x0 x1 x2 x3 x4 x5 x6 p0 p1 p2 p3 p4 p5 p6 hb S8 B8
  go_wp2_with fail
  refine (sameW_any _ _ (encN n) (encN n) w9 (by obtain ⟨f, q⟩ := S9.out; exact q.a.o.bytes) (by obtain ⟨f, q⟩ := S9.out; exact q.b.o.bytes)).mono ?_
  rw [decide_eq_true rfl]
  rintro e w9 ⟨rfl, rfl⟩
  go_wp2_with fail
  have T0 : Hid (∃ f, Six X f w9 g4 g10 g11 ⟨e2, c2, k2, h2⟩ ⟨e6, c6, k6, h6⟩ ⟨e7, c7, k7, h7⟩ n n n (.slice (some ⟨ga, 0, none⟩) 512 512) (.slice (some ⟨gb, 0, none⟩) 512 512) (.slice (some ⟨g9, 0, none⟩) 512 c9) (fil 0 65 (encN n)) (fil 0 66 (encN n)) (encN n)) := Lib.hid (by have q := S9.out; simpa [fil] using q)
  clear S9
  go_loopg [12] 512 (fun gg s wr => ∃ i : Nat, i ≤ 512 ∧ gg = 512 - i ∧ s = .int .i64 i ∧ Hid (∃ f, Six X f wr g4 g10 g11 ⟨e2, c2, k2, h2⟩ ⟨e6, c6, k6, h6⟩ ⟨e7, c7, k7, h7⟩ n n n (.slice (some ⟨ga, 0, none⟩) 512 512) (.slice (some ⟨gb, 0, none⟩) 512 512) (.slice (some ⟨g9, 0, none⟩) 512 c9) (fil i 65 (encN n)) (fil i 66 (encN n)) (encN n)))
  case atStart => exact ⟨0, Nat.zero_le _, rfl, rfl, T0⟩
  case round =>
    clear T0
    obtain ⟨i, hi, hg, rfl, S⟩ := hrel
    have G := Lib.hid hg
    clear hg
    by_cases hlt : i < 512
    · have hlt' : (i : Int) < 512 := by omega
      have cf1 : wr.cell? ⟨ga, i, none⟩ = some (.int .u8 (c8 ((fil i 65 (encN n)).getD i 0))) := by obtain ⟨f, q⟩ := S.out; exact (own_cell1 q.a.o i (by rw [fil_len _ _ _ (by rw [LE.out]; omega), LE.out]; exact hlt)).1
      have ff1 : wr.frozen? ⟨ga, i, none⟩ = false := by obtain ⟨f, q⟩ := S.out; exact (own_cell1 q.a.o i (by rw [fil_len _ _ _ (by rw [LE.out]; omega), LE.out]; exact hlt)).2
      obtain ⟨A1, hA1⟩ : ∃ Z, wr.setCell ⟨ga, i, none⟩ (.int .u8 65) = Z := ⟨_, rfl⟩
      have SA : Hid (∃ f, Six X f A1 g4 g10 g11 ⟨e2, c2, k2, h2⟩ ⟨e6, c6, k6, h6⟩ ⟨e7, c7, k7, h7⟩ n n n (.slice (some ⟨ga, 0, none⟩) 512 512) (.slice (some ⟨gb, 0, none⟩) 512 512) (.slice (some ⟨g9, 0, none⟩) 512 c9) (fil (i + 1) 65 (encN n)) (fil i 66 (encN n)) (encN n)) := Lib.hid (by
        obtain ⟨f, q⟩ := S.out
        have o := own_set1 q.a.o i 65
        rw [fil_step _ _ _ (by rw [LE.out]; exact hlt), show c8 65 = 65 from rfl, hA1] at o
        have k := kept_one wr ga i 512 512 (.int .u8 65)
        rw [hA1] at k
        exact ⟨_, q.by4 k (At.refl _ _) o⟩)
      have cf2 : A1.cell? ⟨gb, i, none⟩ = some (.int .u8 (c8 ((fil i 66 (encN n)).getD i 0))) := by obtain ⟨f, q⟩ := SA.out; exact (own_cell1 q.b.o i (by rw [fil_len _ _ _ (by rw [LE.out]; omega), LE.out]; exact hlt)).1
      have ff2 : A1.frozen? ⟨gb, i, none⟩ = false := by obtain ⟨f, q⟩ := SA.out; exact (own_cell1 q.b.o i (by rw [fil_len _ _ _ (by rw [LE.out]; omega), LE.out]; exact hlt)).2
      obtain ⟨A2, hA2⟩ : ∃ Z, A1.setCell ⟨gb, i, none⟩ (.int .u8 66) = Z := ⟨_, rfl⟩
      have SB : Hid (∃ f, Six X f A2 g4 g10 g11 ⟨e2, c2, k2, h2⟩ ⟨e6, c6, k6, h6⟩ ⟨e7, c7, k7, h7⟩ n n n (.slice (some ⟨ga, 0, none⟩) 512 512) (.slice (some ⟨gb, 0, none⟩) 512 512) (.slice (some ⟨g9, 0, none⟩) 512 c9) (fil (i + 1) 65 (encN n)) (fil (i + 1) 66 (encN n)) (encN n)) := Lib.hid (by
        obtain ⟨f, q⟩ := SA.out
        have o := own_set1 q.b.o i 66
        rw [fil_step _ _ _ (by rw [LE.out]; exact hlt), show c8 66 = 66 from rfl, hA2] at o
        have k := kept_one A1 gb i 512 512 (.int .u8 66)
        rw [hA2] at k
        exact ⟨_, q.by5 k (At.refl _ _) o⟩)
      go_wp2_with fail
      go_roundg (512 - (i + 1))
      case measure => have := G.out; omega
      case rel => exact ⟨i + 1, by omega, rfl, by go_num, SB⟩
    · have hge : ¬ (i : Int) < 512 := by omega
      have T1 : Hid (∃ f, Six X f wr g4 g10 g11 ⟨e2, c2, k2, h2⟩ ⟨e6, c6, k6, h6⟩ ⟨e7, c7, k7, h7⟩ n n n (.slice (some ⟨ga, 0, none⟩) 512 512) (.slice (some ⟨gb, 0, none⟩) 512 512) (.slice (some ⟨g9, 0, none⟩) 512 c9) (List.replicate 512 65) (List.replicate 512 66) (encN n)) := Lib.hid (by
        have q := S.out
        have e : i = (encN n).length := by rw [LE.out]; omega
        rw [e, fil_end, fil_end, LE.out] at q
        exact q)
      clear S G hlt
      obtain ⟨x0, x1, x2, x3, x4, x5, x6⟩ := node_cells (show wr.heap[g4]? = some (.cells #[.int .i64 kd, e2, c2, k2, h2, .int .i64 nx, .string dt] 27 (0, 0)) by obtain ⟨f, q⟩ := T1.out; have := q.i.x; rw [← NA.out]; exact this)
      go_wp2_with fail
      have Q := six_write1 T1.out SZ.out.z
      rw [NA.out] at Q
      refine Q.mono ?_
      clear Q
      rintro e w10 ⟨rfl, S10⟩
      clear x0 x1 x2 x3 x4 x5 x6 T1
      obtain ⟨x0, x1, x2, x3, x4, x5, x6⟩ := node_cells (show w10.heap[g10]? = some (.cells #[.int .i64 kd, e6, c6, k6, h6, .int .i64 nx, .string dt] 27 (0, 0)) by obtain ⟨f, q⟩ := S10.out; have := q.x.x; rw [← NA.out]; exact this)
      go_wp2_with fail
      have Q := six_write2 S10.out SZ.out.z
      rw [NA.out] at Q
      refine Q.mono ?_
      clear Q
      rintro e w11 ⟨rfl, S11⟩
      clear x0 x1 x2 x3 x4 x5 x6 S10
      obtain ⟨x0, x1, x2, x3, x4, x5, x6⟩ := node_cells (show w11.heap[g11]? = some (.cells #[.int .i64 kd, e7, c7, k7, h7, .int .i64 nx, .string dt] 27 (0, 0)) by obtain ⟨f, q⟩ := S11.out; have := q.y.x; rw [← NA.out]; exact this)
      go_wp2_with fail
      have Q := six_write3 S11.out SZ.out.z
      rw [NA.out] at Q
      refine Q.mono ?_
      clear Q
      rintro e w12 ⟨rfl, S12⟩
      clear x0 x1 x2 x3 x4 x5 x6 S11
      go_wp2_with fail
      have T2 : Hid (∃ f, Six X f w12 g4 g10 g11 ⟨e2, c2, k2, h2⟩ ⟨e6, c6, k6, h6⟩ ⟨e7, c7, k7, h7⟩ (mkN 1 n) (mkN 2 n) (mkN 3 n) (.slice (some ⟨ga, 0, none⟩) 512 512) (.slice (some ⟨gb, 0, none⟩) 512 512) (.slice (some ⟨g9, 0, none⟩) 512 c9) (List.replicate 512 65 ++ List.replicate 0 81) (List.replicate 512 66 ++ List.replicate 0 82) (encN n)) := Lib.hid (by have q := S12.out; simpa using q)
      clear S12
      go_loopg [5, 7, 13] 600 (fun gg sa sb s wr => ∃ (i : Nat) (a1 : Option Addr) (a2 a3 : Nat) (b1 : Option Addr) (b2 b3 : Nat), i ≤ 600 ∧ gg = 600 - i ∧ s = .int .i64 i ∧ sa = .slice a1 a2 a3 ∧ sb = .slice b1 b2 b3 ∧ Hid (∃ f, Six X f wr g4 g10 g11 ⟨e2, c2, k2, h2⟩ ⟨e6, c6, k6, h6⟩ ⟨e7, c7, k7, h7⟩ (mkN 1 n) (mkN 2 n) (mkN 3 n) (.slice a1 a2 a3) (.slice b1 b2 b3) (.slice (some ⟨g9, 0, none⟩) 512 c9) (List.replicate 512 65 ++ List.replicate i 81) (List.replicate 512 66 ++ List.replicate i 82) (encN n)))
      case atStart => exact ⟨0, _, _, _, _, _, _, Nat.zero_le _, rfl, rfl, rfl, rfl, T2⟩
      case round =>
        clear T2
        obtain ⟨i, a1, a2, a3, b1, b2, b3, hi, hg, rfl, rfl, rfl, S⟩ := hrel
        have G := Lib.hid hg
        clear hg
        by_cases hlt : i < 600
        · have hlt' : (i : Int) < 600 := by omega
          have OA : Hid (Own X.heap.size wr (.slice a1 a2 a3) (List.replicate 512 65 ++ List.replicate i 81) ∧ X.heap.size ≤ wr.heap.size) := Lib.hid (by obtain ⟨f, q⟩ := S.out; exact ⟨q.a.o, q.bl.size⟩)
          have M1 : True := trivial
          go_wp2_with (first
            | (at_builtin; clear M1; refine app_byteX rfl (.tmp 101) (.tmp 102) rfl rfl OA.out.1 OA.out.2 81 81 rfl rfl (by simp; omega) ?_; intro a1' a2' a3' w20 H20
               have S20 : Hid (∃ f, Six X f w20 g4 g10 g11 ⟨e2, c2, k2, h2⟩ ⟨e6, c6, k6, h6⟩ ⟨e7, c7, k7, h7⟩ (mkN 1 n) (mkN 2 n) (mkN 3 n) (.slice a1' a2' a3') (.slice b1 b2 b3) (.slice (some ⟨g9, 0, none⟩) 512 c9) (List.replicate 512 65 ++ List.replicate (i + 1) 81) (List.replicate 512 66 ++ List.replicate i 82) (encN n)) := Lib.hid (by
                 obtain ⟨f, q⟩ := S.out
                 have o := H20.out.1
                 rw [List.append_assoc, ← List.replicate_succ'] at o
                 exact ⟨_, q.by4 (grown_kept H20.out.2.1) H20.out.2.2 o⟩)
               have OB : Hid (Own X.heap.size w20 (.slice b1 b2 b3) (List.replicate 512 66 ++ List.replicate i 82) ∧ X.heap.size ≤ w20.heap.size) := Lib.hid (by obtain ⟨f, q⟩ := S20.out; exact ⟨q.b.o, q.bl.size⟩))
            | (at_builtin; refine app_byteX rfl (.tmp 104) (.tmp 105) rfl rfl OB.out.1 OB.out.2 82 82 rfl rfl (by simp; omega) ?_; intro b1' b2' b3' w21 H21
               have S21 : Hid (∃ f, Six X f w21 g4 g10 g11 ⟨e2, c2, k2, h2⟩ ⟨e6, c6, k6, h6⟩ ⟨e7, c7, k7, h7⟩ (mkN 1 n) (mkN 2 n) (mkN 3 n) (.slice a1' a2' a3') (.slice b1' b2' b3') (.slice (some ⟨g9, 0, none⟩) 512 c9) (List.replicate 512 65 ++ List.replicate (i + 1) 81) (List.replicate 512 66 ++ List.replicate (i + 1) 82) (encN n)) := Lib.hid (by
                 obtain ⟨f, q⟩ := S20.out
                 have o := H21.out.1
                 rw [List.append_assoc, ← List.replicate_succ'] at o
                 exact ⟨_, q.by5 (grown_kept H21.out.2.1) H21.out.2.2 o⟩)))
          go_roundg (600 - (i + 1))
          case measure => have := G.out; omega
          case rel => exact ⟨i + 1, a1', a2', a3', b1', b2', b3', by omega, rfl, by go_num, rfl, rfl, S21⟩
        · have hge : ¬ (i : Int) < 600 := by omega
          have T3 : Hid (∃ f, Six X f wr g4 g10 g11 ⟨e2, c2, k2, h2⟩ ⟨e6, c6, k6, h6⟩ ⟨e7, c7, k7, h7⟩ (mkN 1 n) (mkN 2 n) (mkN 3 n) (.slice a1 a2 a3) (.slice b1 b2 b3) (.slice (some ⟨g9, 0, none⟩) 512 c9) (List.replicate 512 65 ++ List.replicate 600 81) (List.replicate 512 66 ++ List.replicate 600 82) (encN n)) := Lib.hid (by
            have q := S.out
            rw [show i = 600 by omega] at q
            exact q)
          clear S G hlt
          obtain ⟨ga2, ca2, eA, hca, _⟩ : ∃ g cap, (Value.slice a1 a2 a3) = .slice (some ⟨g, 0, none⟩) 1112 cap ∧ cap ≤ 9223372036854775807 ∧ 1112 ≤ cap := by
            obtain ⟨f, q⟩ := T3.out
            have := own_form q.a.o (by simp)
            simpa using this
          obtain ⟨gb2, cb2, eB, hcb, _⟩ : ∃ g cap, (Value.slice b1 b2 b3) = .slice (some ⟨g, 0, none⟩) 1112 cap ∧ cap ≤ 9223372036854775807 ∧ 1112 ≤ cap := by
            obtain ⟨f, q⟩ := T3.out
            have := own_form q.b.o (by simp)
            simpa using this
          simp only [Value.slice.injEq] at eA eB
          obtain ⟨rfl, rfl, rfl⟩ := eA
          obtain ⟨rfl, rfl, rfl⟩ := eB
          obtain ⟨x0, x1, x2, x3, x4, x5, x6⟩ := node_cells (show wr.heap[g4]? = some (.cells #[.int .i64 kd, e2, c2, k2, h2, .int .i64 nx, .string dt] 27 (0, 0)) by obtain ⟨f, q⟩ := T3.out; have := q.i.x; rw [← NA.out]; exact this)
          go_wp2_with fail
          have Q := six_longer1 T3.out (mk_len 1 FL.out)
          rw [show (mkN 1 n).arr ⟨e2, c2, k2, h2⟩ = #[.int .i64 kd, e2, c2, k2, h2, .int .i64 nx, .string dt] from NA.out _ _ _ _] at Q
          refine Q.mono ?_
          clear Q
          rintro e w22 ⟨⟨e22, c22, k22, h22⟩, rfl, HH⟩
          rw [show (mkN 1 n).arr ⟨e22, c22, k22, h22⟩ = #[.int .i64 kd, e22, c22, k22, h22, .int .i64 nx, .string dt] from NA.out _ _ _ _] at HH ⊢
          obtain ⟨Y22, hY22⟩ : ∃ Z, w22.setRow g4 #[.int .i64 kd, e22, c22, k22, h22, .int .i64 nx, .string dt] = Z := ⟨_, rfl⟩
          have S22 : Hid (∃ f, Six X f Y22 g4 g10 g11 ⟨e22, c22, k22, h22⟩ ⟨e6, c6, k6, h6⟩ ⟨e7, c7, k7, h7⟩ (lgN 1 (mkN 1 n)) (mkN 2 n) (mkN 3 n) (.slice (some ⟨ga2, 0, none⟩) 1112 a3) (.slice (some ⟨gb2, 0, none⟩) 1112 b3) (.slice (some ⟨g9, 0, none⟩) 512 c9) (List.replicate 512 65 ++ List.replicate 600 81) (List.replicate 512 66 ++ List.replicate 600 82) (encN n)) := Lib.hid (by
            have q := HH.out.1
            rw [hY22] at q
            exact q)
          have GH : Hid (w22.heap[g4]? = some (.cells #[.int .i64 kd, e2, c2, k2, h2, .int .i64 nx, .string dt] 27 (0, 0))) := Lib.hid HH.out.2.1
          have ONH : Hid ((#[.int .i64 kd, e22, c22, k22, h22, .int .i64 nx, .string dt] : Array Value).all (·.oneCell') = true) := Lib.hid (arr_one _ _ _ HH.out.2.2)
          clear x0 x1 x2 x3 x4 x5 x6 T3 HH
          obtain ⟨x0, x1, x2, x3, x4, x5, x6⟩ := node_cells (show Y22.heap[g10]? = some (.cells #[.int .i64 kd, e6, c6, k6, h6, .int .i64 nx, .string dt] 27 (0, 0)) by obtain ⟨f, q⟩ := S22.out; have := q.x.x; rw [← NA.out]; exact this)
          go_wp2_with (refine wpList_store_row rfl 27 (.tmp 4) (.tmp 108) rfl g4 #[.int .i64 kd, e22, c22, k22, h22, .int .i64 nx, .string dt] rfl rfl 27 #[.int .i64 kd, e2, c2, k2, h2, .int .i64 nx, .string dt] GH.out size_node rfl ONH.out ?_; rw [hY22])
          clear hY22 GH ONH
          go_wp2_with fail
          have Q := six_longer2 S22.out (mk_len 2 FL.out)
          rw [show (mkN 2 n).arr ⟨e6, c6, k6, h6⟩ = #[.int .i64 kd, e6, c6, k6, h6, .int .i64 nx, .string dt] from NA.out _ _ _ _] at Q
          refine Q.mono ?_
          clear Q
          rintro e w23 ⟨⟨e23, c23, k23, h23⟩, rfl, HH⟩
          rw [show (mkN 2 n).arr ⟨e23, c23, k23, h23⟩ = #[.int .i64 kd, e23, c23, k23, h23, .int .i64 nx, .string dt] from NA.out _ _ _ _] at HH ⊢
          obtain ⟨Y23, hY23⟩ : ∃ Z, w23.setRow g10 #[.int .i64 kd, e23, c23, k23, h23, .int .i64 nx, .string dt] = Z := ⟨_, rfl⟩
          have S23 : Hid (∃ f, Six X f Y23 g4 g10 g11 ⟨e22, c22, k22, h22⟩ ⟨e23, c23, k23, h23⟩ ⟨e7, c7, k7, h7⟩ (lgN 1 (mkN 1 n)) (lgN 2 (mkN 2 n)) (mkN 3 n) (.slice (some ⟨ga2, 0, none⟩) 1112 a3) (.slice (some ⟨gb2, 0, none⟩) 1112 b3) (.slice (some ⟨g9, 0, none⟩) 512 c9) (List.replicate 512 65 ++ List.replicate 600 81) (List.replicate 512 66 ++ List.replicate 600 82) (encN n)) := Lib.hid (by
            have q := HH.out.1
            rw [hY23] at q
            exact q)
          have GH : Hid (w23.heap[g10]? = some (.cells #[.int .i64 kd, e6, c6, k6, h6, .int .i64 nx, .string dt] 27 (0, 0))) := Lib.hid HH.out.2.1
          have ONH : Hid ((#[.int .i64 kd, e23, c23, k23, h23, .int .i64 nx, .string dt] : Array Value).all (·.oneCell') = true) := Lib.hid (arr_one _ _ _ HH.out.2.2)
          clear x0 x1 x2 x3 x4 x5 x6 S22 HH
          obtain ⟨x0, x1, x2, x3, x4, x5, x6⟩ := node_cells (show Y23.heap[g11]? = some (.cells #[.int .i64 kd, e7, c7, k7, h7, .int .i64 nx, .string dt] 27 (0, 0)) by obtain ⟨f, q⟩ := S23.out; have := q.y.x; rw [← NA.out]; exact this)
          go_wp2_with (refine wpList_store_row rfl 27 (.tmp 10) (.tmp 110) rfl g10 #[.int .i64 kd, e23, c23, k23, h23, .int .i64 nx, .string dt] rfl rfl 27 #[.int .i64 kd, e6, c6, k6, h6, .int .i64 nx, .string dt] GH.out size_node rfl ONH.out ?_; rw [hY23])
          clear hY23 GH ONH
          go_wp2_with fail
          have Q := six_longer3 S23.out (mk_len 3 FL.out)
          rw [show (mkN 3 n).arr ⟨e7, c7, k7, h7⟩ = #[.int .i64 kd, e7, c7, k7, h7, .int .i64 nx, .string dt] from NA.out _ _ _ _] at Q
          refine Q.mono ?_
          clear Q
          rintro e w24 ⟨⟨e24, c24, k24, h24⟩, rfl, HH⟩
          rw [show (mkN 3 n).arr ⟨e24, c24, k24, h24⟩ = #[.int .i64 kd, e24, c24, k24, h24, .int .i64 nx, .string dt] from NA.out _ _ _ _] at HH ⊢
          obtain ⟨Y24, hY24⟩ : ∃ Z, w24.setRow g11 #[.int .i64 kd, e24, c24, k24, h24, .int .i64 nx, .string dt] = Z := ⟨_, rfl⟩
          have S24 : Hid (∃ f, Six X f Y24 g4 g10 g11 ⟨e22, c22, k22, h22⟩ ⟨e23, c23, k23, h23⟩ ⟨e24, c24, k24, h24⟩ (lgN 1 (mkN 1 n)) (lgN 2 (mkN 2 n)) (lgN 3 (mkN 3 n)) (.slice (some ⟨ga2, 0, none⟩) 1112 a3) (.slice (some ⟨gb2, 0, none⟩) 1112 b3) (.slice (some ⟨g9, 0, none⟩) 512 c9) (List.replicate 512 65 ++ List.replicate 600 81) (List.replicate 512 66 ++ List.replicate 600 82) (encN n)) := Lib.hid (by
            have q := HH.out.1
            rw [hY24] at q
            exact q)
          have GH : Hid (w24.heap[g11]? = some (.cells #[.int .i64 kd, e7, c7, k7, h7, .int .i64 nx, .string dt] 27 (0, 0))) := Lib.hid HH.out.2.1
          have ONH : Hid ((#[.int .i64 kd, e24, c24, k24, h24, .int .i64 nx, .string dt] : Array Value).all (·.oneCell') = true) := Lib.hid (arr_one _ _ _ HH.out.2.2)
          clear x0 x1 x2 x3 x4 x5 x6 S23 HH
          go_wp2_with (refine wpList_store_row rfl 27 (.tmp 11) (.tmp 112) rfl g11 #[.int .i64 kd, e24, c24, k24, h24, .int .i64 nx, .string dt] rfl rfl 27 #[.int .i64 kd, e7, c7, k7, h7, .int .i64 nx, .string dt] GH.out size_node rfl ONH.out ?_; rw [hY24])
          clear hY24 GH ONH
          have CA : Hid (∀ i, i < 1112 → Y24.cell? ⟨ga2, i, none⟩ = some (.int .u8 (if i < 512 then 65 else 81)) ∧ Y24.cell? ⟨gb2, i, none⟩ = some (.int .u8 (if i < 512 then 66 else 82))) := Lib.hid (fun i hi => by
            obtain ⟨f, q⟩ := S24.out
            have h1 := (own_cell1 q.a.o i (by simp; exact hi)).1
            have h2 := (own_cell1 q.b.o i (by simp; exact hi)).1
            rw [h1, h2, two_at _ _ _ _ _ hi, two_at _ _ _ _ _ hi]
            by_cases h : i < 512
            · rw [if_pos h, if_pos h, if_pos h, if_pos h]; exact ⟨rfl, rfl⟩
            · rw [if_neg h, if_neg h, if_neg h, if_neg h]; exact ⟨rfl, rfl⟩)
          go_loopg [14] 1112 (fun gg s wr => ∃ i : Nat, i ≤ 1112 ∧ gg = 1112 - i ∧ s = .int .i64 i ∧ wr = Y24)
          case atStart => exact ⟨0, Nat.zero_le _, rfl, rfl, rfl⟩
          case round =>
            obtain ⟨i, hi, hg, rfl, hw⟩ := hrel
            subst wr
            have G := Lib.hid hg
            clear hg
            by_cases hlt : i < 1112
            · have hlt' : (i : Int) < 1112 := by omega
              obtain ⟨ca, cb⟩ := CA.out i hlt
              by_cases h5 : i < 512
              · have h5' : (i : Int) < 512 := by omega
                have d1 : decide ((i : Int) < 512) = true := decide_eq_true h5'
                rw [if_pos h5] at ca cb
                have d2 : ((65 : Int) != 65) = false := rfl
                have d3 : ((66 : Int) != 66) = false := rfl
                have d4 : decide ((i : Int) ≥ 512) = false := decide_eq_false (by omega)
                have d5 : decide (512 ≤ (i : Int)) = false := decide_eq_false (by omega)
                go_wp2_with fail
                go_roundg (1112 - (i + 1))
                case measure => have := G.out; omega
                case rel => exact ⟨i + 1, by omega, rfl, by go_num, rfl⟩
              · have h5' : ¬ (i : Int) < 512 := by omega
                have d1 : decide ((i : Int) < 512) = false := decide_eq_false h5'
                rw [if_neg h5] at ca cb
                have d4 : decide ((i : Int) ≥ 512) = true := decide_eq_true (by omega)
                have d5 : decide (512 ≤ (i : Int)) = true := decide_eq_true (by omega)
                go_wp2_with fail
                go_roundg (1112 - (i + 1))
                case measure => have := G.out; omega
                case rel => exact ⟨i + 1, by omega, rfl, by go_num, rfl⟩
            · have hge : ¬ (i : Int) < 1112 := by omega
              clear CA G hlt
              have K24 : Hid (Below X.heap.size X Y24) := Lib.hid (by obtain ⟨f, q⟩ := S24.out; exact q.bl)
              go_wp2_with fail
              refine (ownW_any _ (encN n) Y24 (by obtain ⟨f, q⟩ := S24.out; exact q.k.o.bytes) (by have := LE.out; omega)).mono ?_
              rintro e w25 ⟨v25, rfl, o25, hb25⟩
              obtain ⟨g25, c25, e25, -, -⟩ := own_slice o25 LE.out
              subst e25
              have O25 := Lib.hid o25
              have E25 := Lib.hid hb25
              have K25 := Lib.hid (K24.out.trans (hb25.mono K24.out.size))
              clear o25 hb25
              go_wp2_with fail
              refine (DC.out w25 g25 c25 O25.out.bytes).mono ?_
              rintro e w26 ⟨e26, c26, k26, h26, rfl, H26⟩
              have E26 := Lib.hid (E25.out.trans (H26.out.2.mono E25.out.size))
              have K26 := Lib.hid (K25.out.trans (H26.out.2.mono K25.out.size))
              obtain ⟨g15, hg15⟩ : ∃ g, g = w26.heap.size := ⟨_, rfl⟩
              obtain ⟨V26, hV26⟩ : ∃ V, V = w26.alloc (.cells #[.int .i64 0, .slice none 0 0, .slice none 0 0, .slice none 0 0, .slice none 0 0, .int .i64 0, .string ⟨#[]⟩] 27) := ⟨_, rfl⟩
              obtain ⟨Y26, hY26⟩ : ∃ V, V = V26.setRow g15 #[.int .i64 kd, e26, c26, k26, h26, .int .i64 nx, .string dt] := ⟨_, rfl⟩
              have GV26 : Hid (V26.heap[g15]? = some (.cells #[.int .i64 0, .slice none 0 0, .slice none 0 0, .slice none 0 0, .slice none 0 0, .int .i64 0, .string ⟨#[]⟩] 27 (0, 0))) := Lib.hid (by rw [hV26, hg15]; exact heap_alloc_new _ _)
              have BV26 : Hid (Below w26.heap.size w26 Y26 ∧ Y26.heap[g15]? = some (.cells #[.int .i64 kd, e26, c26, k26, h26, .int .i64 nx, .string dt] 27 (0, 0)) ∧ g15 = w26.heap.size) := Lib.hid (by
                refine ⟨?_, ?_, hg15⟩
                · rw [hY26, hV26, hg15]; exact (laid_node w26 _).1
                · rw [hY26, hV26, hg15]; exact (laid_node w26 _).2)
              have ON26 : Hid ((#[.int .i64 kd, e26, c26, k26, h26, .int .i64 nx, .string dt] : Array Value).all (·.oneCell') = true) := Lib.hid (arr_one _ _ _ (ls_one H26.out.1.ls))
              have hg15' := hg15.symm
              have hV26' := hV26.symm
              have hY26' := hY26.symm
              clear hg15 hV26 hY26
              have E27 := Lib.hid (E26.out.trans (BV26.out.1.mono E26.out.size))
              have K27 := Lib.hid (K26.out.trans (BV26.out.1.mono K26.out.size))
              obtain ⟨p0, p1, p2, p3, p4, p5, p6⟩ := node_cells (CX.out Y26 K27.out)
              go_wp2_with (refine wpList_store_row rfl 27 (.tmp 15) (.tmp 157) rfl g15 #[.int .i64 kd, e26, c26, k26, h26, .int .i64 nx, .string dt] rfl rfl 27 #[.int .i64 0, .slice none 0 0, .slice none 0 0, .slice none 0 0, .slice none 0 0, .int .i64 0, .string ⟨#[]⟩] GV26.out size_node rfl ON26.out ?_; rw [hY26'])
              refine (CP.out Y26 K27.out).mono ?_
              rintro e w28 ⟨e28, c28, k28, h28, rfl, H28⟩
              clear p0 p1 p2 p3 p4 p5 p6 hg15' hV26' hY26'
              have E28 := Lib.hid (E27.out.trans (H28.out.2.mono E27.out.size))
              have K28 := Lib.hid (K27.out.trans (H28.out.2.mono K27.out.size))
              go_wp2_with fail
              refine (EN.out w28 e28 c28 k28 h28 H28.out.1.ls).mono ?_
              rintro e w29 ⟨gc, rfl, H29⟩
              have E29 := Lib.hid (E28.out.trans (H29.out.2.mono E28.out.size))
              have K29 := Lib.hid (K28.out.trans (H29.out.2.mono K28.out.size))
              obtain ⟨x0, x1, x2, x3, x4, x5, x6⟩ := node_cells (show w29.heap[g4]? = some (.cells #[.int .i64 kd, e22, c22, k22, h22, .int .i64 nx, .string dt] 27 (0, 0)) by obtain ⟨f, q⟩ := S24.out; have := (q.i.below E29.out).x; rw [← NA.out]; exact this)
              go_wp2_with fail
              have Q : Calls Try.prog 16 #[.agg #[.int .i64 kd, e22, c22, k22, h22, .int .i64 nx, .string dt], .int .i64 1] w29 fun e w' => e = .returned (.bool true) ∧ Below w29.heap.size w29 w' := by
                obtain ⟨f, q⟩ := S24.out
                obtain ⟨r1, r2, r3, r4⟩ := lg_brs 1 (by decide) FL.out
                have t := bears_any 1 (by decide) (lgN 1 (mkN 1 n)) ⟨e22, c22, k22, h22⟩ w29 (q.i.below E29.out).o.ls r2 r1 r3 r4
                rw [show (lgN 1 (mkN 1 n)).arr ⟨e22, c22, k22, h22⟩ = #[.int .i64 kd, e22, c22, k22, h22, .int .i64 nx, .string dt] from NA.out _ _ _ _] at t
                exact t
              refine Q.mono ?_
              clear Q
              rintro e w30 ⟨rfl, hb⟩
              have E30 := Lib.hid (E29.out.trans (hb.mono E29.out.size))
              have K30 := Lib.hid (K29.out.trans (hb.mono K29.out.size))
              have N30 := Lib.hid hb
              clear x0 x1 x2 x3 x4 x5 x6 hb
              obtain ⟨x0, x1, x2, x3, x4, x5, x6⟩ := node_cells (show w30.heap[g10]? = some (.cells #[.int .i64 kd, e23, c23, k23, h23, .int .i64 nx, .string dt] 27 (0, 0)) by obtain ⟨f, q⟩ := S24.out; have := (q.x.below E30.out).x; rw [← NA.out]; exact this)
              go_wp2_with fail
              have Q : Calls Try.prog 16 #[.agg #[.int .i64 kd, e23, c23, k23, h23, .int .i64 nx, .string dt], .int .i64 2] w30 fun e w' => e = .returned (.bool true) ∧ Below w30.heap.size w30 w' := by
                obtain ⟨f, q⟩ := S24.out
                obtain ⟨r1, r2, r3, r4⟩ := lg_brs 2 (by decide) FL.out
                have t := bears_any 2 (by decide) (lgN 2 (mkN 2 n)) ⟨e23, c23, k23, h23⟩ w30 (q.x.below E30.out).o.ls r2 r1 r3 r4
                rw [show (lgN 2 (mkN 2 n)).arr ⟨e23, c23, k23, h23⟩ = #[.int .i64 kd, e23, c23, k23, h23, .int .i64 nx, .string dt] from NA.out _ _ _ _] at t
                exact t
              refine Q.mono ?_
              clear Q
              rintro e w31 ⟨rfl, hb⟩
              have E31 := Lib.hid (E30.out.trans (hb.mono E30.out.size))
              have K31 := Lib.hid (K30.out.trans (hb.mono K30.out.size))
              have N31 := Lib.hid hb
              clear x0 x1 x2 x3 x4 x5 x6 hb
              obtain ⟨x0, x1, x2, x3, x4, x5, x6⟩ := node_cells (show w31.heap[g11]? = some (.cells #[.int .i64 kd, e24, c24, k24, h24, .int .i64 nx, .string dt] 27 (0, 0)) by obtain ⟨f, q⟩ := S24.out; have := (q.y.below E31.out).x; rw [← NA.out]; exact this)
              go_wp2_with fail
              have Q : Calls Try.prog 16 #[.agg #[.int .i64 kd, e24, c24, k24, h24, .int .i64 nx, .string dt], .int .i64 3] w31 fun e w' => e = .returned (.bool true) ∧ Below w31.heap.size w31 w' := by
                obtain ⟨f, q⟩ := S24.out
                obtain ⟨r1, r2, r3, r4⟩ := lg_brs 3 (by decide) FL.out
                have t := bears_any 3 (by decide) (lgN 3 (mkN 3 n)) ⟨e24, c24, k24, h24⟩ w31 (q.y.below E31.out).o.ls r2 r1 r3 r4
                rw [show (lgN 3 (mkN 3 n)).arr ⟨e24, c24, k24, h24⟩ = #[.int .i64 kd, e24, c24, k24, h24, .int .i64 nx, .string dt] from NA.out _ _ _ _] at t
                exact t
              refine Q.mono ?_
              clear Q
              rintro e w32 ⟨rfl, hb⟩
              have E32 := Lib.hid (E31.out.trans (hb.mono E31.out.size))
              have K32 := Lib.hid (K31.out.trans (hb.mono K31.out.size))
              have N32 := Lib.hid hb
              clear x0 x1 x2 x3 x4 x5 x6 hb
              have Z32 : Hid (Below Y26.heap.size Y26 w32 ∧ Below w29.heap.size w29 w32) := Lib.hid (by
                have a := N30.out.trans ((N31.out.trans (N32.out.mono N31.out.size)).mono N30.out.size)
                exact ⟨H28.out.2.trans ((H29.out.2.trans (a.mono H29.out.2.size)).mono H28.out.2.size), a⟩)
              obtain ⟨x0, x1, x2, x3, x4, x5, x6⟩ := node_cells (show w32.heap[g15]? = some (.cells #[.int .i64 kd, e26, c26, k26, h26, .int .i64 nx, .string dt] 27 (0, 0)) from (Z32.out.1.block g15 (lt_of_heap BV26.out.2.1)).trans BV26.out.2.1)
              obtain ⟨p0, p1, p2, p3, p4, p5, p6⟩ := node_cells (CX.out w32 K32.out)
              go_wp2_with fail
              refine (SN.out w32 e26 c26 k26 h26 ((H26.out.1.below BV26.out.1).below Z32.out.1).ls K32.out).mono ?_
              rintro e w33 ⟨rfl, hb⟩
              have K33 := Lib.hid (K32.out.trans (hb.mono K32.out.size))
              have OC := Lib.hid ((H29.out.1.below Z32.out.2).below hb)
              have OK : Hid (Bytes w33 (.slice (some ⟨g9, 0, none⟩) 512 c9) (encN n)) := Lib.hid (by obtain ⟨f, q⟩ := S24.out; exact ((q.k.below E32.out).below hb).o.bytes)
              clear x0 x1 x2 x3 x4 x5 x6 p0 p1 p2 p3 p4 p5 p6 hb
              go_wp2_with fail
              refine (sameW_any _ _ (encN n) (encN n) w33 OC.out.bytes OK.out).mono ?_
              rw [decide_eq_true rfl]
              rintro e w33 ⟨rfl, rfl⟩
              go_wp2_with fail
              go_ret
              exact ⟨rfl, VX.out _ K33.out⟩
theorem pageMemory_walk (v0 : Value) (n : Nd) (w : World) (hn : Nin w v0 n) (hs : Szs n) :
    Calls Try.prog 4 #[v0] w fun e w' => e = .returned (.bool true) ∧ Below w.heap.size w w' := by
  obtain ⟨nv, rfl, hl⟩ := hn
  cases hf : fitB n with
  | true => exact memory_yes n nv w hl hs hf
  | false => exact memory_no n nv w hl hs hf
end Go.Proofs.Ytmoghdpjemidgaa
