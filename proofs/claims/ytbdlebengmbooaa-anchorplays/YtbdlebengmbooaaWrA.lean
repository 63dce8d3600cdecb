/-
  Write.
-/
import Derived.Test.YtbdlebengmbooaaWrL
namespace Go.Proofs.Ytbdlebengmbooaa
open Go.RowKit Go.Maps Go.ChangeMaps
set_option maxRecDepth 100000 in
set_option maxHeartbeats 2000000 in
theorem write_ok2 {B : Nat} {w : World} {d mb mp : Nat} {cv : Value} {s : DS} (h : Dv B w d mb mp cv s) (k : Nat) (hk : k < s.n) (v : Value) (p : List UInt8) (hp : p.length = 512) (hv : Bytes w v p) (hvd : ∀ w', Kept (fun k => k = d) w w' → Bytes w' v p) (hws : s.ws < 4611686018427387904) (hcl : s.cache.length < 137438953472) (ha : (actD s).2 = 0) :
    Calls Try.prog 28 #[.pointer (some ⟨d, 0, none⟩), .int .i64 (k : Int), v] w fun e w' => ∃ cv', e = .returned (.int .i64 0) ∧ Dv B w' d mb mp cv' (addW (actD s).1 k p) ∧ Kept (Foot d mb mp cv) w w' ∧ At cv cv' w := by
  have H := Lib.hid h
  have AC := Lib.hid (act_any h)
  have hb : hasB s k = true := by unfold hasB; rw [Bool.and_eq_true, decide_eq_true_iff, decide_eq_true_iff]; omega
  have HH := Lib.hid (has_any h (k : Int))
  rw [hb] at HH
  rw [ha] at AC
  obtain ⟨av, cap, rfl, hlc, hcm⟩ := hv.len
  rw [hp] at hlc ⊢
  unfold maxLen at hcm
  have VV := Lib.hid hvd
  have HP := Lib.hid hp
  have SM := Lib.hid (act_same s)
  clear h hv hvd hb hp ha
  obtain ⟨t, ht⟩ : ∃ t, t = (actD s).1 := ⟨_, rfl⟩
  rw [← ht] at AC SM ⊢
  have hkt : k < t.n := by rw [SM.out.2.2.2.2.1]; exact hk
  have hwt : t.ws < 4611686018427387904 := by rw [SM.out.2.2.2.1]; exact hws
  have hct : Hid (t.cache.length < 137438953472) := Lib.hid (by rw [SM.out.1]; exact hcl)
  clear ht SM hk hws hcl
  go_enter Try.func28, Try.ntmps28
  go_wp2_with fail
  refine HH.out.mono ?_
  rintro e w0 ⟨rfl, rfl⟩
  go_wp2_with fail
  refine AC.out.mono ?_
  rintro e w1 ⟨rfl, hd1, hk1⟩
  have D1 := Lib.hid (And.intro hd1 hk1)
  clear hd1 hk1 AC HH
  obtain ⟨Z, hZ⟩ : ∃ Z, Z = #[Value.int .i64 0] ++ Array.replicate 512 (Value.int .u8 0) := ⟨_, rfl⟩
  have zw := zero_write
  rw [← hZ] at zw
  obtain ⟨Y, hY⟩ : ∃ Y, Y = #[Value.int .i64 (k : Int)] ++ Array.replicate 512 (Value.int .u8 0) := ⟨_, rfl⟩
  have YY := Lib.hid hY
  have HC : Hid (Y.size = 513 ∧ Z.size = Y.size ∧ Y.all (·.oneCell') = true) := Lib.hid (by
    have q := wt_cells (k, List.replicate 512 0) List.length_replicate
    rw [hZ, zeros_size, hY, zeros_cells]
    exact ⟨q.1, q.1.symm, q.2⟩)
  clear hZ hY
  obtain ⟨zs, hzs⟩ : ∃ zs, zs = List.replicate 512 (0 : UInt8) := ⟨_, rfl⟩
  have ZL : Hid (zs.length = 512) := Lib.hid (by rw [hzs, List.length_replicate])
  have YZ : Hid (Y = (Value.int .i64 (k : Int) :: cells8 zs).toArray) := Lib.hid (by rw [hzs, YY.out, zeros_cells])
  clear hzs
  have s1 : Hid ((w1.alloc (.cells Y 86)).heap.size = w1.heap.size + 1) := Lib.hid (by simp)
  have BY : Hid (Bytes (w1.alloc (.cells Y 86)) (.slice av p.length cap) p) := Lib.hid ((VV.out w1 D1.out.2).below ((Below.refl _ w1).alloc (Nat.le_refl _) _))
  have g1 : Hid ((w1.alloc (.cells Y 86)).heap[w1.heap.size]? = some (.cells (Value.int .i64 (k : Int) :: cells8 zs).toArray 86 (0, 0))) := Lib.hid (by rw [heap_alloc_new, YZ.out])
  have SRC : Hid (0 < (cells8 p).length → ∃ ad, av = some ad ∧ ∀ j v, (cells8 p)[j]? = some v → (w1.alloc (.cells Y 86)).cell? (ad.add j) = some v) := Lib.hid (BY.out.src (fun _ h => ⟨h, rfl⟩))
  have FIT : Hid (1 + (cells8 p).length ≤ (Value.int .i64 (k : Int) :: cells8 zs).length) := Lib.hid (by rw [List.length_cons, cells8_length, cells8_length, HP.out, ZL.out]; omega)
  have MIN : Hid ((cells8 p).length = Nat.min 512 512) := Lib.hid (by rw [cells8_length, HP.out]; rfl)
  have ONE : Hid (∀ v ∈ cells8 p, v.oneCell' = true) := Lib.hid (cells8_one p)
  obtain ⟨cs, hcs⟩ : ∃ cs, cs = cells8 p := ⟨_, rfl⟩
  rw [← hcs] at SRC FIT MIN ONE
  have HCS := Lib.hid hcs
  clear hcs
  go_wp2_with first | (refine build_write rfl (.tmp 21) rfl (k : Int) rfl Y YY.out ?_) | (refine store_new rfl 86 (.tmp 8) (.tmp 22) rfl Z Y rfl rfl (size_write.trans (congrArg some HC.out.1.symm)) HC.out.2.1 HC.out.2.2 ?_) | (refine copy_kept rfl (.tmp 24) (.tmp 25) rfl _ _ _ _ _ _ rfl rfl w1.heap.size 1 _ 86 g1.out cs MIN.out (fun h => ⟨rfl, SRC.out h⟩) FIT.out ONE.out ?_)
  intro w2 K2
  have K12 : Hid (Below w1.heap.size w1 w2) := Lib.hid (((Below.refl _ w1).alloc (Nat.le_refl _) _).trans (K2.out.2.below (by rw [s1.out]; omega) (fun x hx => by omega)))
  have g2 : Hid (w2.heap[w1.heap.size]? = some (.cells (Value.int .i64 (k : Int) :: cells8 p).toArray 86 (0, 0))) := Lib.hid (by
    rw [K2.out.1, HCS.out]
    have : splice (Value.int .i64 (k : Int) :: cells8 zs) 1 (cells8 p) = Value.int .i64 (k : Int) :: cells8 p := by
      unfold splice
      rw [List.drop_eq_nil_of_le (by rw [List.length_cons, cells8_length, cells8_length, HP.out, ZL.out]; omega)]
      rw [List.take_succ_cons, List.take_zero, List.append_nil]
      rfl
    rw [this])
  have D2 := Lib.hid (D1.out.1.below K12.out)
  clear K2 g1 SRC FIT MIN ONE HCS BY zw HC YY
  obtain ⟨ac, cc, hcv, hlc2, hcm2⟩ : ∃ av cap, cv = .slice av t.cache.length cap ∧ t.cache.length ≤ cap ∧ cap ≤ maxLen := by
    obtain ⟨_, ⟨hv, hn⟩ | ⟨g, cap, cur, hv, hb, hg, hn, hm, hs, htk⟩⟩ := D2.out.cache
    · exact ⟨none, 0, by rw [hv, hn], by omega, by decide⟩
    · exact ⟨_, cap, hv, hn, hm⟩
  have hN : t.cache.length < 137438953472 := hct.out
  have HCV := Lib.hid hcv
  have r1 : w2.cell? ⟨d, 1, none⟩ = some (.slice ac t.cache.length cc) := by rw [← hcv]; exact D2.out.cell 1
  have r2 : w2.cell? ⟨d, 2, none⟩ = some (.map (some mp)) := D2.out.cell 2
  obtain ⟨M, hM, hlat⟩ := D2.out.latest
  have wk : (Lit.int .i64 (k : Int)).wf = true := wf_nat k (by have := D2.out.fit.hi; omega)
  have wN : (Lit.int .i64 (t.cache.length : Int)).wf = true := wf_nat _ (by omega)
  obtain ⟨w3, hrun3, hM3, hT3⟩ := World.ownsMap.store (w := w2.drew) hM keyI Try.underlying59 (by unfold maxLen; omega) (keyOf_int_mk (P := Try.prog) Try.underlying3 wk) (plainElem_int Try.underlying3 wN)
  have M3 := Lib.hid (And.intro hM3 (hlat.put (k, p)))
  have K23 : Hid (Kept (fun k => k = mp) w2 w3) := Lib.hid ⟨hT3.grown.os, hT3.grown.tape, hT3.grown.output, hT3.grown.size, fun i hi hne => hT3.grown.block i hi (fun e => hne (by injection e))⟩
  clear hM hM3 hlat hT3 wk wN hcv hcm2
  obtain ⟨N, hNN⟩ : ∃ N, N = t.cache.length := ⟨_, rfl⟩
  rw [← hNN] at hN r1 hlc2 hrun3
  have NN := Lib.hid hNN
  clear hNN
  go_wp2_with fail
  go_region
  clear hrun3 r1 r2
  have A := D2.out.apart
  have fl := D1.out.1.foot_lt
  have hmp : w1.heap.size ≠ mp := by have := fl mp (.inr (.inr (.inl rfl))); omega
  have hdX : d < w1.heap.size := (fl d (.inl rfl)).2
  have g3 : w3.heap[w1.heap.size]? = some (.cells (Value.int .i64 (k : Int) :: cells8 p).toArray 86 (0, 0)) := by rw [K23.out.block _ (lt_of_heap g2.out) hmp]; exact g2.out
  have X3 : w1.heap.size < w3.heap.size := lt_of_heap g3
  have hself3 : w3.heap[d]? = some (.cells (devCells mb mp cv t) 62 (0, 0)) := by rw [K23.out.block d (lt_of_heap D2.out.self) A.dp]; exact D2.out.self
  obtain ⟨L, hL⟩ : ∃ L, L = Value.int .i64 (k : Int) :: cells8 p := ⟨_, rfl⟩
  rw [← hL] at g3
  have hLl : L.length = 513 := by rw [hL, List.length_cons, cells8_length, HP.out]
  have hi : (Try.prog.info? 86).map (·.size) = some L.length := by rw [hLl]; exact size_write
  have hu := Try.underlying86
  have RG0 : w3.rangeAt w1.heap.size 0 L := fun j v hv => by rw [cell_of_row w3 _ _ _ _ _ g3, Nat.zero_add, List.getElem?_toArray]; exact hv
  have RG : Hid (w3.drew.rangeAt w1.heap.size 0 L) := Lib.hid (by rw [World.rangeAt_drew]; exact RG0)
  have hlc0 : ∀ w' : World, w'.rangeAt w1.heap.size 0 L → (loadCellsFrom ⟨w1.heap.size, 0, none⟩ 0 513 #[]).run Try.prog w' = .ok L.toArray w' := fun w' h => by
    have := run_loadCells_list (P := Try.prog) w' ⟨w1.heap.size, 0, none⟩ L (fun j v hv => by rw [Addr.add_mid]; exact h j v hv)
    rw [hLl] at this
    exact this
  have hbs := build_slice L.toArray (by simpa using hLl)
  have a1 : w3.cell? ⟨d, 1, none⟩ = some (.slice ac N cc) := by rw [cell_of_row w3 d 1 _ _ _ hself3, NN.out, ← HCV.out]; rfl
  have row3 : w3.ownsRow B 86 513 (.slice ac N cc) t.cache.length (cellsW t.cache) := by
    have := row_kept D2.out.cache K23.out (fun g hg e => A.cp (by rw [hg, e]))
    rw [HCV.out, ← NN.out] at this
    rw [← NN.out]
    exact this
  have O1 : Hid ((w3.drew.alloc (.cells L.toArray 86)).ownsRow B 86 513 (.slice ac N cc) t.cache.length (cellsW t.cache)) := Lib.hid (World.ownsRow.alloc (w := w3.drew) row3 _)
  have S1 : Hid (B ≤ (w3.drew.alloc (.cells L.toArray 86)).heap.size) := Lib.hid (by show B ≤ (w3.alloc _).heap.size; have := D1.out.1.b1; simp; omega)
  have N1 : Hid (∀ j u, (Value.int .i64 (((k, p) : Wt).1 : Int) :: cells8 ((k, p) : Wt).2)[j]? = some u → (w3.drew.alloc (.cells L.toArray 86)).cell? ((⟨w3.heap.size, 0, none⟩ : Addr).add j) = some u) := Lib.hid (fun j u hj => by
    rw [add_plain, Nat.zero_add]
    show (w3.alloc (.cells L.toArray 86)).cell? ⟨w3.heap.size, j, none⟩ = some u
    rw [World.cell?_alloc_new, List.getElem?_toArray, hL]
    exact hj)
  have HL2 : Hid (t.cache.length < 137438953472) := Lib.hid (by rw [← NN.out]; exact hN)
  have hcd : (Value.slice ac N cc).ownBlock ≠ some d := by have := A.cd; rw [HCV.out, ← NN.out] at this; exact this
  have hcX : (Value.slice ac N cc).ownBlock ≠ some w1.heap.size := fun e => by
    have := (World.ownsRow.lt D1.out.1.cache) w1.heap.size (by rw [HCV.out, ← NN.out]; exact e)
    omega
  have FK : Hid (∀ w', (w3.drew.alloc (.cells L.toArray 86)).grownBy w' (Value.slice ac N cc).ownBlock → w'.heap[d]? = some (.cells (devCells mb mp cv t) 62 (0, 0)) ∧ w'.heap[w1.heap.size]? = some (.cells L.toArray 86 (0, 0))) := Lib.hid (fun w' h => by
    have hs : (w3.drew.alloc (.cells L.toArray 86)).heap.size = w3.heap.size + 1 := by show (w3.alloc _).heap.size = _; simp
    refine ⟨?_, ?_⟩
    · rw [h.block d (by rw [hs]; have := lt_of_heap hself3; omega) (Ne.symm hcd)]
      exact (Below.heap_alloc _ _ _ (lt_of_heap hself3)).trans hself3
    · rw [h.block w1.heap.size (by rw [hs]; omega) (Ne.symm hcX)]
      exact (Below.heap_alloc _ _ _ X3).trans g3)
  have KA : Hid ((w3.drew.alloc (.cells L.toArray 86)).rangeAt w1.heap.size 0 L) := Lib.hid (World.rangeAt_alloc RG.out _)
  have KW : Hid (∀ w' : World, w'.heap[w1.heap.size]? = some (.cells L.toArray 86 (0, 0)) → w'.rangeAt w1.heap.size 0 L) := Lib.hid (fun w' h j v hv => by rw [cell_of_row w' _ _ _ _ _ h, Nat.zero_add, List.getElem?_toArray]; exact hv)
  have KS : Hid (∀ (w' : World) (u : Value), w'.heap[w1.heap.size]? = some (.cells L.toArray 86 (0, 0)) → (w'.setCell ⟨d, 1, none⟩ u).rangeAt w1.heap.size 0 L) := Lib.hid (fun w' u h => KW.out _ ((heap_setCell_other w' ⟨d, 1, none⟩ _ u (by show w1.heap.size ≠ d; omega)).trans h))
  have a1' : (w3.drew.alloc (.cells L.toArray 86)).cell? ⟨d, 1, none⟩ = some (.slice ac N cc) := by show (w3.alloc _).cell? _ = _; rw [World.cell?_alloc_lt _ _ _ (lt_of_heap hself3)]; exact a1
  have FIN : Hid (∀ (v' : Value) (w' : World), (w'.ownsRow B 86 513 v' (t.cache ++ [(k, p)]).length (cellsW (t.cache ++ [(k, p)])) ∧ (w3.drew.alloc (.cells L.toArray 86)).grownBy w' (Value.slice ac N cc).ownBlock ∧ (v'.ownBlock = (Value.slice ac N cc).ownBlock ∨ v'.ownBlock = some (w3.drew.alloc (.cells L.toArray 86)).heap.size)) →
      Dv B (w'.setCell ⟨d, 1, none⟩ v') d mb mp v' ⟨t.n, t.med, t.cache ++ [(k, p)], t.armed, t.left, t.down, t.cr, t.cw, t.cf, t.ws + 1⟩ ∧ Kept (Foot d mb mp cv) w0 (w'.setCell ⟨d, 1, none⟩ v') ∧ At cv v' w0) := Lib.hid (fun v' w' h1 => by
    have ecv : (Value.slice ac N cc) = cv := by rw [HCV.out, ← NN.out]
    rw [ecv] at h1
    have hs : (w3.drew.alloc (.cells L.toArray 86)).heap.size = w3.heap.size + 1 := by show (w3.alloc _).heap.size = _; simp
    have K3w : Kept (fun j => some j = cv.ownBlock) w3 w' := ⟨h1.2.1.os, h1.2.1.tape, h1.2.1.output, Nat.le_trans (by rw [hs]; omega) h1.2.1.size, fun j hj hn => (h1.2.1.block j (by rw [hs]; omega) hn).trans (Below.heap_alloc w3 _ j hj)⟩
    have K4 : Kept (fun j => j = d) w' (w'.setCell ⟨d, 1, none⟩ v') := kept_set w' _ _ rfl
    have hm3 : w3.heap[mb]? = some (.cells (cells8 t.med).toArray 80 (0, 0)) := by rw [K23.out.block mb (lt_of_heap D2.out.med) A.bp]; exact D2.out.med
    have hmw : w'.heap[mb]? = some (.cells (cells8 t.med).toArray 80 (0, 0)) := by rw [K3w.block mb (lt_of_heap hm3) (fun e => A.cm e.symm)]; exact hm3
    have hsw : w'.heap[d]? = some (.cells (devCells mb mp cv t) 62 (0, 0)) := by rw [K3w.block d (lt_of_heap hself3) (fun e => A.cd e.symm)]; exact hself3
    refine ⟨⟨?_, ?_, ?_, ⟨_, map_kept (map_kept M3.out.1 K3w (fun e => A.cp e.symm)) K4 (Ne.symm A.dp), M3.out.2⟩, ⟨D2.out.fit.lo, D2.out.fit.hi, D2.out.fit.len, ?_, ?_⟩, D2.out.b1, D2.out.b2, D2.out.b3⟩, ?_, ?_⟩
    · rw [heap_setCell_same w' d 1 _ _ _ hsw]
      rfl
    · rw [K4.block mb (lt_of_heap hmw) (Ne.symm A.dm)]
      exact hmw
    · refine row_kept h1.1 K4 (fun g hg e => ?_)
      rcases h1.2.2 with h | h
      · exact A.cd (by rw [← h, hg, e])
      · rw [hg, hs] at h
        have := lt_of_heap hself3
        simp only [Option.some.injEq] at h
        omega
    · intro x hx
      rcases List.mem_append.1 hx with hx | hx
      · exact D2.out.fit.ok x hx
      · simp only [List.mem_cons, List.not_mem_nil, or_false] at hx
        subst hx
        exact ⟨hkt, HP.out⟩
    · show (t.cache ++ [(k, p)]).length ≤ t.ws + 1
      rw [List.length_append]
      have := D2.out.fit.ws
      exact Nat.add_le_add_right this 1
    · refine ((((D1.out.2.mono (G := Foot d mb mp cv) (fun j _ h => .inl h)).trans (Below.kept K12.out (Foot d mb mp cv)) (fun _ _ h => h)).trans (K23.out.mono (G := Foot d mb mp cv) (fun j _ h => .inr (.inr (.inl h)))) (fun _ _ h => h)).trans (K3w.mono (G := Foot d mb mp cv) (fun j _ h => .inr (.inr (.inr h.symm)))) (fun _ _ h => h)).trans (K4.mono (G := Foot d mb mp cv) (fun j _ h => .inl h)) (fun _ _ h => h)
    · intro j hj
      rcases h1.2.2 with h | h
      · exact Or.inl (by rw [hj, h])
      · right
        rw [← hj, hs] at h
        simp only [Option.some.injEq] at h
        have h1 := D1.out.2.size
        omega)
  have LL := Lib.hid hL
  clear hL RG0 g3 row3 hLl hself3 hcd hcX A fl hmp hdX X3 M3
  go_wp2_with fail
  refine wp_region_held_drew (S := fun w' => w'.rangeAt w1.heap.size 0 L) (by kernel_rfl) RG.out (fun hHeld => ?_)
  refine takeH (i := 0) (t := 37) (v := (.pointer (some ⟨d, 0, none⟩))) rfl rfl (by kernel_rfl) (by kernel_rfl) (by kernel_rfl) (fun _ _ _ h => h) (Or.inl ⟨by rfl, fun w hSw => by first | rfl | go_simp⟩) hHeld ?_
  simp only [Act.put, List.setIfInBounds_toArray, List.set_cons_zero, List.set_cons_succ]
  refine takeH (i := 1) (t := 38) (v := (.pointer (some ⟨d, 0, none⟩))) rfl rfl (by kernel_rfl) (by kernel_rfl) (by kernel_rfl) (fun _ _ _ h => h) (Or.inl ⟨by rfl, fun w hSw => by first | rfl | go_simp⟩) hHeld ?_
  simp only [Act.put, List.setIfInBounds_toArray, List.set_cons_zero, List.set_cons_succ]
  refine takeH (i := 2) (t := 39) (v := (.pointer (some ⟨d, 0, none⟩))) rfl rfl (by kernel_rfl) (by kernel_rfl) (by kernel_rfl) (fun _ _ _ h => h) (Or.inl ⟨by rfl, fun w hSw => by first | rfl | go_simp⟩) hHeld ?_
  simp only [Act.put, List.setIfInBounds_toArray, List.set_cons_zero, List.set_cons_succ]
  refine takeH (i := 3) (t := 40) (v := (.pointer (some ⟨d, 1, none⟩))) rfl rfl (by kernel_rfl) (by kernel_rfl) (by kernel_rfl) (fun _ _ _ h => h) (Or.inl ⟨by rfl, fun w hSw => by first | rfl | go_simp⟩) hHeld ?_
  simp only [Act.put, List.setIfInBounds_toArray, List.set_cons_zero, List.set_cons_succ]
  refine takeH (i := 5) (t := 42) rfl rfl (by kernel_rfl) (by kernel_rfl) (by kernel_rfl) (fun _ _ _ h => h) (yieldsIf_load_mid (by rfl) _ _ rfl w1.heap.size 0 rfl L _ (fun _ h => h) hu rfl hi) hHeld ?_
  simp only [Act.put, List.setIfInBounds_toArray, List.set_cons_zero, List.set_cons_succ]
  refine wpAnyH_ready (rs := [4, 6]) (by kernel_rfl) (by simp) ?_
  refine AllReadyH.cons rfl (fun K hK => ?_) (AllReadyH.cons rfl (fun K hK => ?_) AllReadyH.nil)
  · refine step_get rfl 60 (.tmp 40) rfl ⟨d, 1, none⟩ (.slice ac N cc) rfl (load_row w3.drew a1) 41 rfl ?_
    simp only [Act.put, List.setIfInBounds_toArray, List.set_cons_zero, List.set_cons_succ]
    refine hK.out _ _ hHeld (fun _ => ?_)
    refine wpAnyH_ready (rs := [6]) (by kernel_rfl) (by simp) ?_
    refine AllReadyH.cons rfl (fun K hK => ?_) AllReadyH.nil
    refine step_bs rfl (.tmp 42) rfl L.toArray rfl hbs 43 rfl ?_
    simp only [Act.put, List.setIfInBounds_toArray, List.set_cons_zero, List.set_cons_succ]
    refine hK.out _ _ KA.out (fun hH1 => ?_)
    refine wpAnyH_ready (rs := [7]) (by kernel_rfl) (by simp) ?_
    refine AllReadyH.cons rfl (fun K hK => ?_) AllReadyH.nil
    refine step_app_wt rfl (.tmp 41) (.tmp 43) rfl (B := B) (v := .slice ac N cc) (l := t.cache) rfl O1.out S1.out (k, p) HP.out ⟨w3.heap.size, 0, none⟩ rfl N1.out HL2.out 44 rfl ?_
    intro v' w' h1
    simp only [Act.put, List.setIfInBounds_toArray, List.set_cons_zero, List.set_cons_succ]
    have hf := Lib.hid (FK.out w' h1.out.2.1)
    refine hK.out _ _ (KW.out _ hf.out.2) (fun hH2 => ?_)
    refine takeH (i := 8) (t := 45) (v := (.pointer (some ⟨d, 0, none⟩))) rfl rfl (by kernel_rfl) (by kernel_rfl) (by kernel_rfl) (fun _ _ _ h => h) (Or.inl ⟨by rfl, fun w hSw => by first | rfl | go_simp⟩) hH2 ?_
    simp only [Act.put, List.setIfInBounds_toArray, List.set_cons_zero, List.set_cons_succ]
    refine takeH (i := 9) (t := 46) (v := (.pointer (some ⟨d, 1, none⟩))) rfl rfl (by kernel_rfl) (by kernel_rfl) (by kernel_rfl) (fun _ _ _ h => h) (Or.inl ⟨by rfl, fun w hSw => by first | rfl | go_simp⟩) hH2 ?_
    simp only [Act.put, List.setIfInBounds_toArray, List.set_cons_zero, List.set_cons_succ]
    have c1 : w'.cell? ⟨d, 1, none⟩ = some cv := (cell_of_row w' d 1 _ _ _ hf.out.1)
    have c2 : w'.frozen? ⟨d, 1, none⟩ = false := frozen_of_row w' d 1 _ _ hf.out.1
    refine wpAnyH_ready (rs := [10]) (by kernel_rfl) (by simp) ?_
    refine AllReadyH.cons rfl (fun K hK2 => ?_) AllReadyH.nil
    refine step_put rfl 60 (.tmp 46) (.tmp 44) rfl ⟨d, 1, none⟩ v' rfl rfl (store_row w' v' h1.out.1 c1 c2) rfl ?_
    refine hK2.out _ _ (KS.out _ _ hf.out.2) (fun _ => ?_)
    refine wpAnyH_done (by kernel_rfl) ?_ _
    have F := Lib.hid (FIN.out v' w' h1.out)
    have e7 : (w'.setCell ⟨d, 1, none⟩ v').cell? ⟨d, 7, none⟩ = some (.int .i64 t.cw) := F.out.1.cell 7
    have f7 : (w'.setCell ⟨d, 1, none⟩ v').frozen? ⟨d, 7, none⟩ = false := F.out.1.free 7
    obtain ⟨W, hW⟩ : ∃ W, W = w'.setCell ⟨d, 1, none⟩ v' := ⟨_, rfl⟩
    rw [← hW] at F e7 f7 ⊢
    clear hW c1 c2 hf hK hK2 hH2 hHeld a1 a1' hbs hlc0 hu hi h1 FIN FK KA KW KS O1 S1 N1 RG
    go_wp2_with fail
    go_ret
    exact ⟨v', rfl, F.out.1.set 7 _ (addW t k p) rfl rfl rfl rfl rfl, F.out.2.1.trans (kept_set (F := Foot d mb mp cv) _ ⟨d, 7, none⟩ _ (.inl rfl)) (fun _ _ h => h), F.out.2.2⟩
  · refine step_bs rfl (.tmp 42) rfl L.toArray rfl hbs 43 rfl ?_
    simp only [Act.put, List.setIfInBounds_toArray, List.set_cons_zero, List.set_cons_succ]
    refine hK.out _ _ KA.out (fun hH1 => ?_)
    refine wpAnyH_ready (rs := [4]) (by kernel_rfl) (by simp) ?_
    refine AllReadyH.cons rfl (fun K hK => ?_) AllReadyH.nil
    refine step_get rfl 60 (.tmp 40) rfl ⟨d, 1, none⟩ (.slice ac N cc) rfl (load_row _ a1') 41 rfl ?_
    simp only [Act.put, List.setIfInBounds_toArray, List.set_cons_zero, List.set_cons_succ]
    refine hK.out _ _ hH1 (fun _ => ?_)
    refine wpAnyH_ready (rs := [7]) (by kernel_rfl) (by simp) ?_
    refine AllReadyH.cons rfl (fun K hK => ?_) AllReadyH.nil
    refine step_app_wt rfl (.tmp 41) (.tmp 43) rfl (B := B) (v := .slice ac N cc) (l := t.cache) rfl O1.out S1.out (k, p) HP.out ⟨w3.heap.size, 0, none⟩ rfl N1.out HL2.out 44 rfl ?_
    intro v' w' h1
    simp only [Act.put, List.setIfInBounds_toArray, List.set_cons_zero, List.set_cons_succ]
    have hf := Lib.hid (FK.out w' h1.out.2.1)
    refine hK.out _ _ (KW.out _ hf.out.2) (fun hH2 => ?_)
    refine takeH (i := 8) (t := 45) (v := (.pointer (some ⟨d, 0, none⟩))) rfl rfl (by kernel_rfl) (by kernel_rfl) (by kernel_rfl) (fun _ _ _ h => h) (Or.inl ⟨by rfl, fun w hSw => by first | rfl | go_simp⟩) hH2 ?_
    simp only [Act.put, List.setIfInBounds_toArray, List.set_cons_zero, List.set_cons_succ]
    refine takeH (i := 9) (t := 46) (v := (.pointer (some ⟨d, 1, none⟩))) rfl rfl (by kernel_rfl) (by kernel_rfl) (by kernel_rfl) (fun _ _ _ h => h) (Or.inl ⟨by rfl, fun w hSw => by first | rfl | go_simp⟩) hH2 ?_
    simp only [Act.put, List.setIfInBounds_toArray, List.set_cons_zero, List.set_cons_succ]
    have c1 : w'.cell? ⟨d, 1, none⟩ = some cv := (cell_of_row w' d 1 _ _ _ hf.out.1)
    have c2 : w'.frozen? ⟨d, 1, none⟩ = false := frozen_of_row w' d 1 _ _ hf.out.1
    refine wpAnyH_ready (rs := [10]) (by kernel_rfl) (by simp) ?_
    refine AllReadyH.cons rfl (fun K hK2 => ?_) AllReadyH.nil
    refine step_put rfl 60 (.tmp 46) (.tmp 44) rfl ⟨d, 1, none⟩ v' rfl rfl (store_row w' v' h1.out.1 c1 c2) rfl ?_
    refine hK2.out _ _ (KS.out _ _ hf.out.2) (fun _ => ?_)
    refine wpAnyH_done (by kernel_rfl) ?_ _
    have F := Lib.hid (FIN.out v' w' h1.out)
    have e7 : (w'.setCell ⟨d, 1, none⟩ v').cell? ⟨d, 7, none⟩ = some (.int .i64 t.cw) := F.out.1.cell 7
    have f7 : (w'.setCell ⟨d, 1, none⟩ v').frozen? ⟨d, 7, none⟩ = false := F.out.1.free 7
    obtain ⟨W, hW⟩ : ∃ W, W = w'.setCell ⟨d, 1, none⟩ v' := ⟨_, rfl⟩
    rw [← hW] at F e7 f7 ⊢
    clear hW c1 c2 hf hK hK2 hH2 hHeld a1 a1' hbs hlc0 hu hi h1 FIN FK KA KW KS O1 S1 N1 RG
    go_wp2_with fail
    go_ret
    exact ⟨v', rfl, F.out.1.set 7 _ (addW t k p) rfl rfl rfl rfl rfl, F.out.2.1.trans (kept_set (F := Foot d mb mp cv) _ ⟨d, 7, none⟩ _ (.inl rfl)) (fun _ _ h => h), F.out.2.2⟩
theorem write_ok {B : Nat} {w : World} {d mb mp : Nat} {cv : Value} {s : DS} (h : Dv B w d mb mp cv s) (k : Nat) (hk : k < s.n) (v : Value) (p : List UInt8) (hp : p.length = 512) (hv : Bytes w v p) (hvd : ∀ w', Kept (fun k => k = d) w w' → Bytes w' v p) (hws : s.ws < 137438953472) (ha : (actD s).2 = 0) :
    Calls Try.prog 28 #[.pointer (some ⟨d, 0, none⟩), .int .i64 (k : Int), v] w fun e w' => ∃ cv', e = .returned (.int .i64 0) ∧ Dv B w' d mb mp cv' (addW (actD s).1 k p) ∧ Kept (Foot d mb mp cv) w w' ∧ At cv cv' w := write_ok2 h k hk v p hp hv hvd (by omega) (by have := h.fit.ws; omega) ha
end Go.Proofs.Ytbdlebengmbooaa
