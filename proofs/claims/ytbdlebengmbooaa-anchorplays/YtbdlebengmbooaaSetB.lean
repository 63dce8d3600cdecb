/-
  settle.
-/
import Derived.Test.YtbdlebengmbooaaSetA
namespace Go.Proofs.Ytbdlebengmbooaa
open Go.RowKit Go.Maps Go.ChangeMaps
theorem clear_kept {w : World} {ops : Array Oper} {rest : List Oper} {o : Oper} {a : Act} {Q : Exit → Act → World → Prop} (hgd : o.guard = none) (x : Operand)
    (ho : o.op = .call { callee := .builtin .clear, args := #[x], argTypes := #[59] }) (b n : Nat) (D : DataW Unit) (hx : a.eval x = .map (some b)) (hown : w.ownsMap Try.prog 3 (plainElem Try.prog 3) b n D)
    (h : ∀ w', Hid (w'.ownsMap Try.prog 3 (plainElem Try.prog 3) b n (.map [] : DataW Unit) ∧ Kept (fun k => k = b) w w') → wpList Try.prog ops Q rest (a.put o.dst (.tuple #[])) w') :
    wpList Try.prog ops Q (o :: rest) a w := by
  refine wpList_plain hgd fun K hK => ?_
  obtain ⟨es, clock, hb, hF, _, _⟩ := hown
  have hrun : ∀ ty, (Builtin.clear_ #[59] ty #[.map (some b)]).run Try.prog w = .ok (.tuple #[]) (setBlock w b (.map #[] clock)) := by
    intro ty
    simp [Builtin.clear_, run_underlying Try.underlying59, MapKept.run_getObj_map hb, MapKept.run_setObj_map _ hb, Result.andThen, setBlock]
  unfold Oper.wp
  simp [execOp, ho, resolve, invoke, builtin, hx, hrun, Result.andThen]
  refine hK _ _ (h _ ⟨⟨#[], clock, heap_setBlock_same hb _, ⟨by simp, MapKept.stamped_empty clock, by simp⟩, Nat.zero_le _, rfl⟩, ⟨rfl, rfl, rfl, by simp [setBlock], fun k _ hn => heap_setBlock_other hb _ hn⟩⟩)
set_option maxRecDepth 100000 in
set_option maxHeartbeats 2000000 in
theorem settle_any2 {B : Nat} {w : World} {d mb mp : Nat} {cv : Value} {s : DS} (h : Dv B w d mb mp cv s) (m : Nat) (caps : Array Value) (f : Nat → Int × Int) (hf : ∀ w', Kept (fun k => k = mb) w w' → Tells m caps f w') (he : ∀ args w, (callFunc m args).run Try.prog w = .ok (.enter m args) w) (hws : s.cache.length < 1099511627776) :
    Calls Try.prog 37 #[.pointer (some ⟨d, 0, none⟩), .func (.func m) #[] caps] w fun e w' => e = .returned (.int .i64 (cnts f 0 s.cache)) ∧ Dv B w' d mb mp (.slice none 0 0) { s with med := sets f 0 s.cache s.med, cache := [] } ∧ Kept (fun k => k = d ∨ k = mb ∨ k = mp) w w' := by
  have H := Lib.hid h
  have HF := Lib.hid hf
  have p0 : w.cell? ⟨d, 0, none⟩ = some (.slice (some ⟨mb, 0, none⟩) s.n s.n) := h.cell 0
  have p1 : w.cell? ⟨d, 1, none⟩ = some cv := h.cell 1
  obtain ⟨av, cap, hcv, hlc, hcm⟩ : ∃ av cap, cv = .slice av s.cache.length cap ∧ s.cache.length ≤ cap ∧ cap ≤ maxLen := by
    obtain ⟨_, ⟨hv, hn⟩ | ⟨g, cap, cur, hv, hb, hg, hn, hm, hs, ht⟩⟩ := h.cache
    · exact ⟨none, 0, by rw [hv, hn], by omega, by decide⟩
    · exact ⟨_, cap, hv, hn, hm⟩
  have HCV := Lib.hid hcv
  obtain ⟨N, hN⟩ : ∃ N, N = s.cache.length := ⟨_, rfl⟩
  rw [hcv, ← hN] at p1
  rw [← hN] at hlc
  have hN2 : N < 1099511627776 := by rw [hN]; exact hws
  have NN := Lib.hid hN
  unfold maxLen at hcm
  clear h hf hcv hN
  go_enter Try.func37, Try.ntmps37
  go_wp2_with fail
  go_loopg [5, 15] N (fun g sc si wr => ∃ (k : Nat), k ≤ N ∧ g = N - k ∧ si = .int .i64 k ∧ sc = .int .i64 (cnts f 0 (s.cache.take k)) ∧ Dv B wr d mb mp cv { s with med := sets f 0 (s.cache.take k) s.med } ∧ Kept (fun k => k = mb) w wr)
  case atStart => exact ⟨0, Nat.zero_le _, rfl, rfl, rfl, H.out, Kept.refl _ _⟩
  case round =>
    obtain ⟨k, hk, hg, rfl, rfl, hd, hkp⟩ := hrel
    by_cases hlt : k < N
    · obtain ⟨x, hx⟩ : ∃ x, s.cache[k]? = some x := ⟨_, List.getElem?_eq_getElem (by rw [← NN.out]; exact hlt)⟩
      obtain ⟨g, cap', hcv', _, _, hglt, _, _, hR⟩ := cache_at hd k x hx
      rw [HCV.out] at hcv'
      simp only [Value.slice.injEq, true_and] at hcv'
      obtain ⟨rfl, rfl⟩ := hcv'
      have hr : Hid (x.2.length = 512) := Lib.hid (H.out.fit.ok x (List.mem_of_getElem? hx)).2
      have R := Lib.hid hR
      have q0 : wr.cell? ⟨d, 0, none⟩ = some (.slice (some ⟨mb, 0, none⟩) s.n s.n) := hd.cell 0
      have S : Aside (gk = N - k ∧ Dv B wr d mb mp cv { s with med := sets f 0 (s.cache.take k) s.med } ∧ Kept (fun k => k = mb) w wr) := ⟨hg, hd, hkp⟩
      have hlt' : (k : Int) < (N : Int) := by omega
      obtain ⟨Z, hZ⟩ : ∃ Z, Z = #[Value.int .i64 0] ++ Array.replicate 512 (Value.int .u8 0) := ⟨_, rfl⟩
      have zw := zero_write
      rw [← hZ] at zw
      obtain ⟨C, hC⟩ : ∃ C, C = (Value.int .i64 (x.1 : Int) :: cells8 x.2).toArray := ⟨_, rfl⟩
      have HC : Hid (C.size = 513 ∧ Z.size = C.size ∧ C.all (·.oneCell') = true) := Lib.hid (by rw [hC, hZ, zeros_size]; exact ⟨(wt_cells x hr.out).1, (wt_cells x hr.out).1.symm, (wt_cells x hr.out).2⟩)
      have CC := Lib.hid hC
      have T0 := Lib.hid (HF.out)
      clear hg hd hkp hR hZ hC
      go_wp2_with first | (refine store_new rfl 86 (.tmp 7) (.tmp 19) rfl Z C rfl rfl (size_write.trans (congrArg some HC.out.1.symm)) HC.out.2.1 HC.out.2.2 ?_) | (refine load_wt rfl 86 (.tmp 18) rfl g (k * 513) rfl _ C CC.out.symm _ R.out Try.underlying86 rfl (by rw [List.length_cons, cells8_length, hr.out]; exact size_write) ?_)
      have T1 := Lib.hid (HF.out _ (Kept.trans (F := fun k => k = mb) (G := fun k => k = mb) S.out.2.2 (Below.kept ((Below.refl _ wr).alloc (Nat.le_refl _) (.cells C 86)) _) (fun _ _ h => h)) k)
      refine T1.out.mono ?_
      rintro e w1 ⟨rfl, hb1⟩
      have B1 := Lib.hid hb1
      have KP := Lib.hid (kept_any (f k).1 (f k).2 w1)
      clear hb1 T1
      go_wp2_with fail
      refine KP.out.mono ?_
      obtain ⟨kn, kb, hkn⟩ : ∃ kn kb, keptN (f k) = (kn, kb) := ⟨_, _, rfl⟩
      have hkn' : keptN ((f k).1, (f k).2) = (kn, kb) := hkn
      have KN := Lib.hid hkn
      have hle : kn ≤ 512 := by have := keptN_le (f k); rw [hkn] at this; exact this
      rw [hkn']
      clear hkn hkn'
      rintro e w2 ⟨rfl, hb2⟩
      have B2 : Hid (Below (wr.alloc (.cells C 86)).heap.size (wr.alloc (.cells C 86)) w2) := Lib.hid (B1.out.trans (hb2.mono B1.out.size))
      clear hb2 KP B1
      have s1 : Hid ((wr.alloc (.cells C 86)).heap.size = wr.heap.size + 1) := Lib.hid (by simp)
      have g2 : Hid (w2.heap[wr.heap.size]? = some (.cells (Value.int .i64 (x.1 : Int) :: cells8 x.2).toArray 86 (0, 0))) := Lib.hid (by rw [B2.out.block _ (by rw [s1.out]; omega), heap_alloc_new, CC.out])
      have K2 : Hid (Below wr.heap.size wr w2) := Lib.hid (((Below.refl _ wr).alloc (Nat.le_refl _) _).trans (B2.out.mono (by rw [s1.out]; omega)))
      have D2 := Lib.hid (S.out.2.1.below K2.out)
      have r0 : w2.cell? ⟨d, 0, none⟩ = some (.slice (some ⟨mb, 0, none⟩) s.n s.n) := D2.out.cell 0
      have r1 : w2.cell? ⟨wr.heap.size, 0, none⟩ = some (.int .i64 (x.1 : Int)) := by rw [cell_of_row w2 _ _ _ _ _ g2.out]; rfl
      have hx1 : x.1 < s.n := (H.out.fit.ok x (List.mem_of_getElem? hx)).1
      have hx1' : (x.1 : Int) < (s.n : Int) := by omega
      have hn : s.n ≤ 4096 := H.out.fit.hi
      have hml : Hid ((sets f 0 (s.cache.take k) s.med).length = 512 * s.n) := Lib.hid D2.out.fit.len
      obtain ⟨cs, hcs⟩ : ∃ cs, cs = cells8 (x.2.take kn) := ⟨_, rfl⟩
      have hcl : Hid (cs.length = kn) := Lib.hid (by rw [hcs, cells8_length, List.length_take, hr.out]; omega)
      have HCS := Lib.hid hcs
      have SRC : Hid (∀ j v, cs[j]? = some v → w2.drew.cell? ((⟨wr.heap.size, 1, none⟩ : Addr).add j) = some v) := Lib.hid (src_row (w := w2.drew) g2.out (fun j hj => by
        rw [hcl.out] at hj
        rw [Nat.add_comm, List.getElem?_cons_succ, hcs]
        unfold cells8
        rw [List.getElem?_map, List.getElem?_map, List.getElem?_take_of_lt hj]))
      have FIT : Hid (x.1 * 512 + cs.length ≤ (cells8 (sets f 0 (s.cache.take k) s.med)).length) := Lib.hid (by rw [cells8_length, hml.out, hcl.out]; omega)
      have ONE : Hid (∀ v ∈ cs, v.oneCell' = true) := Lib.hid (by rw [hcs]; exact cells8_one _)
      obtain ⟨x1, hxx⟩ : ∃ x1, x1 = x.1 := ⟨_, rfl⟩
      rw [← hxx] at hx1 hx1' r1
      have XX := Lib.hid hxx
      rw [← hxx] at FIT
      clear hcs hxx
      have MIN : Hid (cs.length = Nat.min kn 512) := Lib.hid (by rw [hcl.out]; exact (Nat.min_eq_left hle).symm)
      have hcn : cnts f 0 (s.cache.take k) ≤ k := by have := cnts_le f (s.cache.take k) 0; rw [List.length_take] at this; omega
      have hkn0 : (0 : Int) ≤ (kn : Int) := by omega
      have hkn5 : (kn : Int) ≤ 512 := by omega
      have ETK : Hid (s.cache.take (k + 1) = s.cache.take k ++ [x]) := Lib.hid (by rw [List.take_add_one, hx]; rfl)
      have LTK : Hid ((s.cache.take k).length = k) := Lib.hid (by rw [List.length_take, ← NN.out]; omega)
      have NX : Hid (∀ w3, w3.heap[mb]? = some (.cells (splice (cells8 (sets f 0 (s.cache.take k) s.med)) (x1 * 512) cs).toArray 80 (0, 0)) ∧ Kept (fun k => k = mb) w2.drew w3 → Dv B w3 d mb mp cv { s with med := sets f 0 (s.cache.take (k + 1)) s.med } ∧ Kept (fun k => k = mb) w w3) := Lib.hid (fun w3 h3 => by
        have K23 : Kept (fun k => k = mb) w2 w3 := ⟨h3.2.os, h3.2.tape, h3.2.output, h3.2.size, h3.2.block⟩
        have A := D2.out.apart
        obtain ⟨M, hM, hl⟩ := D2.out.latest
        have e : sets f 0 (s.cache.take (k + 1)) s.med = splice (sets f 0 (s.cache.take k) s.med) (x1 * 512) (x.2.take kn) := by
          rw [ETK.out, sets_snoc, LTK.out, Nat.zero_add, KN.out, XX.out]
          unfold lay
          rw [Nat.mul_comm]
        refine ⟨⟨?_, ?_, row_kept D2.out.cache K23 (fun g hg e => A.cm (by rw [hg, e])), ⟨M, map_kept hM K23 (fun e => A.bp e.symm), hl⟩, ⟨D2.out.fit.lo, D2.out.fit.hi, ?_, D2.out.fit.ok, D2.out.fit.ws⟩, D2.out.b1, D2.out.b2, D2.out.b3⟩, ?_⟩
        · rw [K23.block d (lt_of_heap D2.out.self) A.dm]
          exact D2.out.self
        · rw [h3.1, HCS.out, splice_cells]
          show _ = some (Obj.cells (cells8 (sets f 0 (s.cache.take (k + 1)) s.med)).toArray _ _)
          rw [e]
        · exact sets_length f s.n _ 0 _ (fun y hy => H.out.fit.ok y (List.mem_of_mem_take hy)) H.out.fit.len
        · exact S.out.2.2.trans ((Below.kept K2.out (fun k => k = mb)).trans K23 (fun _ _ h => h)) (fun _ _ h => h))
      cases kb
      · go_wp2_with fail
        go_region_law (refine step_copy_kept rfl (.tmp 37) (.tmp 40) rfl _ _ _ _ _ _ rfl rfl mb (x1 * 512) _ 80 D2.out.med cs MIN.out (fun _ => ⟨rfl, _, rfl, SRC.out⟩) FIT.out ONE.out ?_; intro w3 K3)
        all_goals
          have N3 := Lib.hid (NX.out w3 K3.out)
          clear K3 r0 r1 D2 g2 SRC
          go_wp2_with fail
          go_roundg (N - (k + 1))
          case measure => have := S.out.1; omega
          case rel => exact ⟨k + 1, by omega, rfl, by go_num, by rw [ETK.out, cnts_snoc, LTK.out, Nat.zero_add, KN.out]; rfl, N3.out.1, N3.out.2⟩
      · go_wp2_with fail
        go_region_law (refine step_copy_kept rfl (.tmp 37) (.tmp 40) rfl _ _ _ _ _ _ rfl rfl mb (x1 * 512) _ 80 D2.out.med cs MIN.out (fun _ => ⟨rfl, _, rfl, SRC.out⟩) FIT.out ONE.out ?_; intro w3 K3)
        all_goals
          have N3 := Lib.hid (NX.out w3 K3.out)
          clear K3 r0 r1 D2 g2 SRC
          go_wp2_with fail
          go_roundg (N - (k + 1))
          case measure => have := S.out.1; omega
          case rel => exact ⟨k + 1, by omega, rfl, by go_num, by rw [ETK.out, cnts_snoc, LTK.out, Nat.zero_add, KN.out]; go_num, N3.out.1, N3.out.2⟩
    · have ek : k = N := by omega
      subst ek
      have etk : s.cache.take k = s.cache := List.take_of_length_le (by rw [← NN.out]; exact Nat.le_refl _)
      rw [etk] at hd ⊢
      obtain ⟨X, hX⟩ : ∃ X, X = wr.setCell ⟨d, 1, none⟩ (.slice none 0 0) := ⟨_, rfl⟩
      have KX : Hid (Kept (fun k => k = d) wr X) := Lib.hid (by rw [hX]; exact kept_set wr _ _ rfl)
      have A := hd.apart
      obtain ⟨M, hM, hl⟩ := hd.latest
      have MX := Lib.hid (map_kept hM KX.out (Ne.symm A.dp))
      have q1 : wr.cell? ⟨d, 1, none⟩ = some cv := hd.cell 1
      have f1 : wr.frozen? ⟨d, 1, none⟩ = false := hd.free 1
      have hself : X.heap[d]? = some (.cells (devCells mb mp (.slice none 0 0) { s with med := sets f 0 s.cache s.med }) 62 (0, 0)) := by
        rw [hX, heap_setCell_same wr d 1 _ _ _ hd.self]
        rfl
      have q2 : X.cell? ⟨d, 2, none⟩ = some (.map (some mp)) := by rw [cell_of_row X d 2 _ _ _ hself]; rfl
      have S : Aside (Dv B wr d mb mp cv { s with med := sets f 0 s.cache s.med } ∧ Kept (fun k => k = mb) w wr ∧ X.heap[d]? = some (.cells (devCells mb mp (.slice none 0 0) { s with med := sets f 0 s.cache s.med }) 62 (0, 0))) := ⟨hd, hkp, hself⟩
      have hX' := hX.symm
      clear hd hkp hself hX A hM hl etk hg hk
      go_wp2_with (refine clear_kept rfl (.tmp 49) rfl mp s.ws M rfl MX.out ?_)
      intro w3 K3
      clear hX'
      go_wp2_with fail
      go_ret
      have A := S.out.1.apart
      refine ⟨rfl, ⟨?_, ?_, World.ownsRow_nil _ _ _ _, ⟨_, K3.out.1, lat_none⟩, ⟨S.out.1.fit.lo, S.out.1.fit.hi, S.out.1.fit.len, (by intro x hx; cases hx), Nat.zero_le _⟩, S.out.1.b1, S.out.1.b2, S.out.1.b3⟩, ?_⟩
      · rw [K3.out.2.block d (lt_of_heap S.out.2.2) A.dp, S.out.2.2]
        rfl
      · rw [K3.out.2.block mb (Nat.lt_of_lt_of_le (lt_of_heap S.out.1.med) KX.out.size) A.bp, KX.out.block mb (lt_of_heap S.out.1.med) (Ne.symm A.dm)]
        exact S.out.1.med
      · exact ((S.out.2.1.mono (fun k _ h => Or.inr (Or.inl h))).trans (KX.out.mono (G := fun k => k = d ∨ k = mb ∨ k = mp) (fun k _ h => Or.inl h)) (fun _ _ h => h)).trans (K3.out.2.mono (G := fun k => k = d ∨ k = mb ∨ k = mp) (fun k _ h => Or.inr (Or.inr h))) (fun _ _ h => h)
theorem settle_any {B : Nat} {w : World} {d mb mp : Nat} {cv : Value} {s : DS} (h : Dv B w d mb mp cv s) (m : Nat) (caps : Array Value) (f : Nat → Int × Int) (hf : ∀ w', Kept (fun k => k = mb) w w' → Tells m caps f w') (he : ∀ args w, (callFunc m args).run Try.prog w = .ok (.enter m args) w) (hws : s.ws < 1099511627776) :
    Calls Try.prog 37 #[.pointer (some ⟨d, 0, none⟩), .func (.func m) #[] caps] w fun e w' => e = .returned (.int .i64 (cnts f 0 s.cache)) ∧ Dv B w' d mb mp (.slice none 0 0) { s with med := sets f 0 s.cache s.med, cache := [] } ∧ Kept (fun k => k = d ∨ k = mb ∨ k = mp) w w' :=
  settle_any2 h m caps f hf he (by have := h.fit.ws; omega)
end Go.Proofs.Ytbdlebengmbooaa
