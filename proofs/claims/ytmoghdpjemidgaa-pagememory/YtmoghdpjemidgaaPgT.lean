/-
  Size, Fits.
-/
import Derived.Test.YtmoghdpjemidgaaPgI
import Derived.Test.YtmoghdpjemidgaaPgS
namespace Go.Proofs.Ytmoghdpjemidgaa
open Go.RowKit Go.Maps
theorem folB_size {l k : ByteArray} (h : folB l k = true) : k.size ≤ 120 := by
  unfold folB at h
  rw [Bool.and_eq_true] at h
  exact of_decide_eq_true h.2
theorem staB_size {v : ByteArray} {c : Int} (h : staB v c = true) : v.size ≤ 64 := by
  unfold staB at h
  split at h
  · exact of_decide_eq_true h
  · rw [Bool.and_eq_true] at h
    have := of_decide_eq_true h.2
    omega
theorem leafG_sizes : ∀ (es : List Ent) (cs : List Int) (l : ByteArray), leafG l es cs = true → ∀ e ∈ es, e.1.size ≤ 120 ∧ e.2.size ≤ 64
  | [], _, _, _, e, he => by simp at he
  | x :: es, [], l, h, e, he => by simp [leafG] at h
  | x :: es, c :: cs, l, h, e, he => by
    rw [leafG, Bool.and_eq_true, Bool.and_eq_true] at h
    rcases List.mem_cons.1 he with rfl | hm
    · exact ⟨folB_size h.1.1, staB_size h.1.2⟩
    · exact leafG_sizes es cs x.1 h.2 e hm
theorem innG_sizes : ∀ (ks : List ByteArray) (l : ByteArray), innG l ks = true → ∀ e ∈ ks, e.size ≤ 120
  | [], _, _, e, he => by simp at he
  | k :: ks, l, h, e, he => by
    rw [innG, Bool.and_eq_true] at h
    rcases List.mem_cons.1 he with rfl | hm
    · exact folB_size h.1
    · exact innG_sizes ks k h.2 e hm
/-- What holds of a leaf. -/
structure IsLeaf (n : Nd) : Prop where
  k : n.kind = 1
  e : n.ents.length ≠ 0
  c : n.chs.length = n.ents.length
  y : n.keys.length = 0
  h : n.kids.length = 0
  n0 : n.next = 0
  d : n.data.size = 0
  g : leafG ⟨#[]⟩ n.ents n.chs = true
theorem leaf_iff (n : Nd) : leafB n = true ↔ IsLeaf n := by
  unfold leafB
  simp only [Bool.and_eq_true, decide_eq_true_iff]
  constructor
  · rintro ⟨h1, h2, h3, h4, h5, h6, h7, h8⟩; exact ⟨h1, h2, h3, h4, h5, h6, h7, h8⟩
  · rintro ⟨h1, h2, h3, h4, h5, h6, h7, h8⟩; exact ⟨h1, h2, h3, h4, h5, h6, h7, h8⟩
/-- What holds of an inner page. -/
structure IsInn (n : Nd) : Prop where
  k : n.kind = 2
  y : n.keys.length ≠ 0
  h : n.kids.length = n.keys.length + 1
  e : n.ents.length = 0
  c : n.chs.length = 0
  n0 : n.next = 0
  d : n.data.size = 0
  g : innG ⟨#[]⟩ n.keys = true
  u : unlB n.kids = true
theorem inn_iff (n : Nd) : innB n = true ↔ IsInn n := by
  unfold innB
  simp only [Bool.and_eq_true, decide_eq_true_iff]
  constructor
  · rintro ⟨h1, h2, h3, h4, h5, h6, h7, h8, h9⟩; exact ⟨h1, h2, h3, h4, h5, h6, h7, h8, h9⟩
  · rintro ⟨h1, h2, h3, h4, h5, h6, h7, h8, h9⟩; exact ⟨h1, h2, h3, h4, h5, h6, h7, h8, h9⟩
/-- What holds of a chain's page. -/
structure IsCh (n : Nd) : Prop where
  k : n.kind = 3
  d0 : n.data.size ≠ 0
  d : n.data.size ≤ 500
  e : n.ents.length = 0
  c : n.chs.length = 0
  y : n.keys.length = 0
  h : n.kids.length = 0
  x : (decide (n.next = 0) || blkB n.next) = true
theorem ch_iff (n : Nd) : chB n = true ↔ IsCh n := by
  unfold chB
  simp only [Bool.and_eq_true, decide_eq_true_iff]
  constructor
  · rintro ⟨h1, h2, h3, h4, h5, h6, h7, h8⟩; exact ⟨h1, h2, h3, h4, h5, h6, h7, h8⟩
  · rintro ⟨h1, h2, h3, h4, h5, h6, h7, h8⟩; exact ⟨h1, h2, h3, h4, h5, h6, h7, h8⟩
theorem node_cells {W : World} {g : Nat} {kd nx : Int} {dt : ByteArray} {ve vc vk vh : Value} (h : W.heap[g]? = some (.cells #[.int .i64 kd, ve, vc, vk, vh, .int .i64 nx, .string dt] 27 (0, 0))) : W.cell? ⟨g, 0, none⟩ = some (.int .i64 kd) ∧ W.cell? ⟨g, 1, none⟩ = some ve ∧ W.cell? ⟨g, 2, none⟩ = some vc ∧ W.cell? ⟨g, 3, none⟩ = some vk ∧ W.cell? ⟨g, 4, none⟩ = some vh ∧ W.cell? ⟨g, 5, none⟩ = some (.int .i64 nx) ∧ W.cell? ⟨g, 6, none⟩ = some (.string dt) := by
  refine ⟨?_, ?_, ?_, ?_, ?_, ?_, ?_⟩ <;> (rw [cell_of_row W g _ _ _ _ h]; rfl)
def sizeN (n : Nd) : Int := if leafB n = true then ((8 + (szL n).sum : Nat) : Int) else if innB n = true then ((12 + (szI n).sum : Nat) : Int) else if chB n = true then ((12 + n.data.size : Nat) : Int) else -1
def fitB (n : Nd) : Bool := decide (0 ≤ sizeN n) && decide (sizeN n ≤ 512)
set_option maxHeartbeats 2000000 in
set_option maxRecDepth 100000 in
theorem Size_any (n : Nd) (v : Nv) (w : World) (hv : Ls w v n) (hz : Sz n) :
    Calls Try.prog 6 #[.agg (n.arr v)] w fun e w' => e = .returned (.int .i64 (sizeN n)) ∧ Below w.heap.size w w' := by
  obtain ⟨r, hr⟩ : ∃ r, r = sizeN n := ⟨_, rfl⟩
  rw [← hr]
  have RR := Lib.hid hr
  unfold sizeN at RR
  have V := Lib.hid hv
  have Z := Lib.hid hz
  obtain ⟨kd, hkd⟩ : ∃ x, x = n.kind := ⟨_, rfl⟩
  obtain ⟨nx, hnx⟩ : ∃ x, x = n.next := ⟨_, rfl⟩
  obtain ⟨dt, hdt⟩ : ∃ x, x = n.data := ⟨_, rfl⟩
  obtain ⟨ve, hve⟩ : ∃ x, x = v.e := ⟨_, rfl⟩
  obtain ⟨vc, hvc⟩ : ∃ x, x = v.c := ⟨_, rfl⟩
  obtain ⟨vk, hvk⟩ : ∃ x, x = v.k := ⟨_, rfl⟩
  obtain ⟨vh, hvh⟩ : ∃ x, x = v.h := ⟨_, rfl⟩
  have hA : #[.int .i64 kd, ve, vc, vk, vh, .int .i64 nx, .string dt] = n.arr v := by rw [hkd, hnx, hdt, hve, hvc, hvk, hvh]; rfl
  rw [← hA]
  obtain ⟨gx, hgx⟩ : ∃ gx, gx = w.heap.size := ⟨_, rfl⟩
  obtain ⟨X, hX⟩ : ∃ X, X = w.alloc (.cells #[.int .i64 kd, ve, vc, vk, vh, .int .i64 nx, .string dt] 27) := ⟨_, rfl⟩
  have XX : Hid (Below w.heap.size w X ∧ gx < X.heap.size) := Lib.hid ⟨by rw [hX]; exact (Below.refl _ _).alloc (Nat.le_refl _) _, by rw [hX, hgx]; simp⟩
  have XG : Hid (X.heap[gx]? = some (.cells #[.int .i64 kd, ve, vc, vk, vh, .int .i64 nx, .string dt] 27 (0, 0))) := Lib.hid (by rw [hX, hgx]; exact heap_alloc_new _ _)
  have CC : Hid (∀ W, Below X.heap.size X W → W.cell? ⟨gx, 0, none⟩ = some (.int .i64 kd) ∧ W.cell? ⟨gx, 1, none⟩ = some ve ∧ W.cell? ⟨gx, 2, none⟩ = some vc ∧ W.cell? ⟨gx, 3, none⟩ = some vk ∧ W.cell? ⟨gx, 4, none⟩ = some vh ∧ W.cell? ⟨gx, 5, none⟩ = some (.int .i64 nx) ∧ W.cell? ⟨gx, 6, none⟩ = some (.string dt)) := Lib.hid (fun W h => node_cells (by rw [h.block _ XX.out.2]; exact XG.out))
  have VB : Hid (∀ W, Below X.heap.size X W → Ls W v n) := Lib.hid (fun W h => V.out.below (XX.out.1.trans (h.mono XX.out.1.size)))
  have EN : Hid (∀ W, Below X.heap.size X W → Below w.heap.size w W) := Lib.hid (fun W h => XX.out.1.trans (h.mono XX.out.1.size))
  have C1 : Hid (∀ W, Below X.heap.size X W → Calls Try.prog 17 #[.agg #[.int .i64 kd, ve, vc, vk, vh, .int .i64 nx, .string dt]] W fun e w' => e = .returned (.bool (leafB n)) ∧ Below X.heap.size X w') := Lib.hid (fun W h => by
    rw [hA]
    refine (isLeaf_any n v W (VB.out W h) Z.out).mono ?_
    rintro e w' ⟨rfl, hb⟩
    exact ⟨rfl, h.trans (hb.mono h.size)⟩)
  have C2 : Hid (∀ W, Below X.heap.size X W → Calls Try.prog 19 #[.agg #[.int .i64 kd, ve, vc, vk, vh, .int .i64 nx, .string dt]] W fun e w' => e = .returned (.bool (innB n)) ∧ Below X.heap.size X w') := Lib.hid (fun W h => by
    rw [hA]
    refine (isInner_any n v W (VB.out W h) Z.out).mono ?_
    rintro e w' ⟨rfl, hb⟩
    exact ⟨rfl, h.trans (hb.mono h.size)⟩)
  have C3 : Hid (∀ W, Below X.heap.size X W → Calls Try.prog 21 #[.agg #[.int .i64 kd, ve, vc, vk, vh, .int .i64 nx, .string dt]] W fun e w' => e = .returned (.bool (chB n)) ∧ Below X.heap.size X w') := Lib.hid (fun W h => by
    rw [hA]
    refine (isChain_any n v W (VB.out W h) Z.out).mono ?_
    rintro e w' ⟨rfl, hb⟩
    exact ⟨rfl, h.trans (hb.mono h.size)⟩)
  have C4 : Hid (leafB n = true → ∀ W, Below X.heap.size X W → Calls Try.prog 18 #[.agg #[.int .i64 kd, ve, vc, vk, vh, .int .i64 nx, .string dt]] W fun e w' => e = .returned (.int .i64 ((8 + (szL n).sum : Nat) : Int)) ∧ Below X.heap.size X w') := Lib.hid (fun hl W h => by
    rw [hA]
    have il := (leaf_iff n).1 hl
    refine (leafSize_any n v W (VB.out W h) Z.out il.c (leafG_sizes _ _ _ il.g)).mono ?_
    rintro e w' ⟨rfl, hb⟩
    exact ⟨rfl, h.trans (hb.mono h.size)⟩)
  have C5 : Hid (innB n = true → ∀ W, Below X.heap.size X W → Calls Try.prog 20 #[.agg #[.int .i64 kd, ve, vc, vk, vh, .int .i64 nx, .string dt]] W fun e w' => e = .returned (.int .i64 ((12 + (szI n).sum : Nat) : Int)) ∧ Below X.heap.size X w') := Lib.hid (fun hl W h => by
    rw [hA]
    have il := (inn_iff n).1 hl
    refine (innerSize_any n v W (VB.out W h) Z.out (innG_sizes _ _ il.g)).mono ?_
    rintro e w' ⟨rfl, hb⟩
    exact ⟨rfl, h.trans (hb.mono h.size)⟩)
  have XX0 := Lib.hid (Below.refl X.heap.size X)
  obtain ⟨p0, p1, p2, p3, p4, p5, p6⟩ := CC.out X XX0.out
  have hX' := hX.symm
  have hgx' := hgx.symm
  have DT := Lib.hid hdt
  clear hr hv hz hA hX hgx hkd hnx hdt hve hvc hvk hvh
  cases b1 : leafB n with
  | true =>
    rw [if_pos b1] at RR
    rw [b1] at C1
    have C4' := Lib.hid (C4.out b1)
    clear C4 b1
    obtain ⟨S, hS⟩ : ∃ S : Int, S = ((8 + (szL n).sum : Nat) : Int) := ⟨_, rfl⟩
    rw [← hS] at RR C4'
    clear hS
    go_enter Try.func6, Try.ntmps6
    go_wp2_with (first | (go_at_call 17; refine (C1.out _ XX0.out).mono ?_; rintro e w1 ⟨rfl, hb⟩; have H1 := Lib.hid hb; obtain ⟨p0, p1, p2, p3, p4, p5, p6⟩ := CC.out _ hb; clear hb) | (go_at_call 18; refine (C4'.out _ H1.out).mono ?_; rintro e w2 ⟨rfl, hb⟩; have H2 := Lib.hid hb; clear hb))
    go_ret
    exact ⟨by rw [RR.out]; rfl, EN.out _ H2.out⟩
  | false =>
    rw [if_neg (by rw [b1]; exact Bool.false_ne_true)] at RR
    rw [b1] at C1
    clear C4 b1
    cases b2 : innB n with
    | true =>
      rw [if_pos b2] at RR
      rw [b2] at C2
      have C5' := Lib.hid (C5.out b2)
      clear C5 b2
      obtain ⟨S, hS⟩ : ∃ S : Int, S = ((12 + (szI n).sum : Nat) : Int) := ⟨_, rfl⟩
      rw [← hS] at RR C5'
      clear hS
      go_enter Try.func6, Try.ntmps6
      go_wp2_with (first | (go_at_call 17; refine (C1.out _ XX0.out).mono ?_; rintro e w1 ⟨rfl, hb⟩; have H1 := Lib.hid hb; obtain ⟨p0, p1, p2, p3, p4, p5, p6⟩ := CC.out _ hb; clear hb) | (go_at_call 19; refine (C2.out _ H1.out).mono ?_; rintro e w2 ⟨rfl, hb⟩; have H2 := Lib.hid hb; obtain ⟨p0, p1, p2, p3, p4, p5, p6⟩ := CC.out _ hb; clear hb) | (go_at_call 20; refine (C5'.out _ H2.out).mono ?_; rintro e w3 ⟨rfl, hb⟩; have H3 := Lib.hid hb; clear hb))
      go_ret
      exact ⟨by rw [RR.out]; rfl, EN.out _ H3.out⟩
    | false =>
      rw [if_neg (by rw [b2]; exact Bool.false_ne_true)] at RR
      rw [b2] at C2
      clear C5 b2
      cases b3 : chB n with
      | true =>
        rw [if_pos b3] at RR
        rw [b3] at C3
        have hd : n.data.size ≤ 500 := ((ch_iff n).1 b3).d
        rw [← DT.out] at hd RR
        clear b3
        go_enter Try.func6, Try.ntmps6
        go_wp2_with (first | (go_at_call 17; refine (C1.out _ XX0.out).mono ?_; rintro e w1 ⟨rfl, hb⟩; have H1 := Lib.hid hb; obtain ⟨p0, p1, p2, p3, p4, p5, p6⟩ := CC.out _ hb; clear hb) | (go_at_call 19; refine (C2.out _ H1.out).mono ?_; rintro e w2 ⟨rfl, hb⟩; have H2 := Lib.hid hb; obtain ⟨p0, p1, p2, p3, p4, p5, p6⟩ := CC.out _ hb; clear hb) | (go_at_call 21; refine (C3.out _ H2.out).mono ?_; rintro e w3 ⟨rfl, hb⟩; have H3 := Lib.hid hb; obtain ⟨p0, p1, p2, p3, p4, p5, p6⟩ := CC.out _ hb; clear hb))
        go_ret
        exact ⟨by rw [RR.out]; first | rfl | (exact ret_int (by omega)) | (exact ret_int (by push_cast; omega)), EN.out _ H3.out⟩
      | false =>
        rw [if_neg (by rw [b3]; exact Bool.false_ne_true)] at RR
        rw [b3] at C3
        clear b3
        go_enter Try.func6, Try.ntmps6
        go_wp2_with (first | (go_at_call 17; refine (C1.out _ XX0.out).mono ?_; rintro e w1 ⟨rfl, hb⟩; have H1 := Lib.hid hb; obtain ⟨p0, p1, p2, p3, p4, p5, p6⟩ := CC.out _ hb; clear hb) | (go_at_call 19; refine (C2.out _ H1.out).mono ?_; rintro e w2 ⟨rfl, hb⟩; have H2 := Lib.hid hb; obtain ⟨p0, p1, p2, p3, p4, p5, p6⟩ := CC.out _ hb; clear hb) | (go_at_call 21; refine (C3.out _ H2.out).mono ?_; rintro e w3 ⟨rfl, hb⟩; have H3 := Lib.hid hb; clear hb))
        go_ret
        exact ⟨by rw [RR.out]; rfl, EN.out _ H3.out⟩
set_option maxHeartbeats 1000000 in
theorem Fits_any (n : Nd) (v : Nv) (w : World) (hv : Ls w v n) (hz : Sz n) :
    Calls Try.prog 7 #[.agg (n.arr v)] w fun e w' => e = .returned (.bool (fitB n)) ∧ Below w.heap.size w w' := by
  unfold fitB
  obtain ⟨r, hr⟩ : ∃ r, r = sizeN n := ⟨_, rfl⟩
  rw [← hr]
  obtain ⟨kd, hkd⟩ : ∃ x, x = n.kind := ⟨_, rfl⟩
  obtain ⟨nx, hnx⟩ : ∃ x, x = n.next := ⟨_, rfl⟩
  obtain ⟨dt, hdt⟩ : ∃ x, x = n.data := ⟨_, rfl⟩
  obtain ⟨ve, hve⟩ : ∃ x, x = v.e := ⟨_, rfl⟩
  obtain ⟨vc, hvc⟩ : ∃ x, x = v.c := ⟨_, rfl⟩
  obtain ⟨vk, hvk⟩ : ∃ x, x = v.k := ⟨_, rfl⟩
  obtain ⟨vh, hvh⟩ : ∃ x, x = v.h := ⟨_, rfl⟩
  have hA : #[.int .i64 kd, ve, vc, vk, vh, .int .i64 nx, .string dt] = n.arr v := by rw [hkd, hnx, hdt, hve, hvc, hvk, hvh]; rfl
  rw [← hA]
  obtain ⟨gx, hgx⟩ : ∃ gx, gx = w.heap.size := ⟨_, rfl⟩
  obtain ⟨X, hX⟩ : ∃ X, X = w.alloc (.cells #[.int .i64 kd, ve, vc, vk, vh, .int .i64 nx, .string dt] 27) := ⟨_, rfl⟩
  have XX : Hid (Below w.heap.size w X) := Lib.hid (by rw [hX]; exact (Below.refl _ _).alloc (Nat.le_refl _) _)
  obtain ⟨p0, p1, p2, p3, p4, p5, p6⟩ := node_cells (W := X) (g := gx) (kd := kd) (nx := nx) (dt := dt) (ve := ve) (vc := vc) (vk := vk) (vh := vh) (by rw [hX, hgx]; exact heap_alloc_new _ _)
  have C1 : Hid (Calls Try.prog 6 #[.agg #[.int .i64 kd, ve, vc, vk, vh, .int .i64 nx, .string dt]] X fun e w' => e = .returned (.int .i64 r) ∧ Below X.heap.size X w') := Lib.hid (by
    rw [hA, hr]
    exact Size_any n v X (hv.below XX.out) hz)
  have hX' := hX.symm
  have hgx' := hgx.symm
  clear hr hv hz hA hX hgx hkd hnx hdt hve hvc hvk hvh
  by_cases h0 : r ≥ 0
  · have d0 : decide (r ≥ 0) = true := decide_eq_true h0
    clear h0
    go_enter Try.func7, Try.ntmps7
    go_wp2_with (go_at_call 6; refine C1.out.mono ?_; rintro e w1 ⟨rfl, hb⟩; have H1 := Lib.hid hb; clear hb)
    go_ret
    refine ⟨?_, XX.out.trans (H1.out.mono XX.out.size)⟩
    rw [show decide (0 ≤ r) = true from d0, Bool.true_and]
    rfl
  · have d0 : decide (r ≥ 0) = false := decide_eq_false h0
    have e0 : decide (0 ≤ r) = false := d0
    rw [e0]
    clear h0 e0
    go_enter Try.func7, Try.ntmps7
    go_wp2_with (go_at_call 6; refine C1.out.mono ?_; rintro e w1 ⟨rfl, hb⟩; have H1 := Lib.hid hb; clear hb)
    go_ret
    exact ⟨rfl, XX.out.trans (H1.out.mono XX.out.size)⟩
end Go.Proofs.Ytmoghdpjemidgaa
