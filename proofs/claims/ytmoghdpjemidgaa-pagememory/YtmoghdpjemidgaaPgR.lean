/-
  The reader: take, number, text, entry.
-/
import Derived.Test.YtmoghdpjemidgaaPgD
import Derived.Test.YtmoghdpjemidgaaPgN
namespace Go.Proofs.Ytmoghdpjemidgaa
open Go.RowKit Go.Maps
/-- The reader at gr has these bytes left. -/
structure Rd (w : World) (gr : Nat) (l : List UInt8) (bb oo c : Nat) : Prop where
  h : w.heap[gr]? = some (.cells #[.slice (some ⟨bb, oo, none⟩) l.length c] 64 (0, 0))
  b : Bytes w (.slice (some ⟨bb, oo, none⟩) l.length c) l
  ne : bb ≠ gr
  lt : bb < w.heap.size
theorem wp_min2 {ops : Array Oper} {rest : List Oper} {o : Oper} {a : Act} {w : World} {Q : Exit → Act → World → Prop} (x y : Operand) (ts : Array TypeId)
    (ho : o.op = .call { callee := .builtin .min, args := #[x, y], argTypes := ts }) (hw : Region.wanted o (yielded ops a.tmps) = true) (k j M : Nat) (hx : a.eval x = .int .i64 (k : Int)) (hy : a.eval y = .int .i64 (j : Int)) (hM : M = min k j)
    (h : wpList Try.prog ops Q rest (a.put o.dst (.int .i64 (M : Int))) w) : wpList Try.prog ops Q (o :: rest) a w := by
  rw [wpList, if_pos hw]
  refine .inl ?_
  have e : (if (j : Int) < (k : Int) then (j : Int) else (k : Int)) = (M : Int) := by split <;> omega
  unfold Oper.wp execOp
  simp only [ho, resolve, invoke, builtin, Sem.run_bind, Sem.run_pure, Result.andThen_ok, List.map_toArray, List.map_cons, List.map_nil, hx, hy, run_min_int2, e]
  exact h
theorem bytes_kept {F : Nat → Prop} {w w' : World} {bb oo n c : Nat} {l : List UInt8} (H : Bytes w (.slice (some ⟨bb, oo, none⟩) n c) l) (hk : Kept F w w') (hF : ¬ F bb) : Bytes w' (.slice (some ⟨bb, oo, none⟩) n c) l := by
  obtain ⟨a, cap, e, h1, h2, h0, h3⟩ := H
  simp only [Value.slice.injEq] at e
  obtain ⟨rfl, rfl, rfl⟩ := e
  refine ⟨_, _, rfl, h1, h2, h0, fun k hkl => ?_⟩
  obtain ⟨b, off, ea, hc⟩ := h3 k hkl
  simp only [Option.some.injEq, Addr.mk.injEq, and_true] at ea
  obtain ⟨rfl, rfl⟩ := ea
  refine ⟨bb, oo, rfl, ?_⟩
  rw [← hc]
  unfold World.cell?
  simp only
  rw [hk.block bb (block_lt_of_cell hc) hF]
set_option maxHeartbeats 1000000 in
theorem take_any (gr bb oo c N : Nat) (l : List UInt8) (w : World) (h : Rd w gr l bb oo c) (_hN : N < 9223372036854775808) :
    Calls Try.prog 41 #[.pointer (some ⟨gr, 0, none⟩), .int .i64 (N : Int)] w fun e w' => ∃ oo' c', e = .returned (.slice (some ⟨bb, oo, none⟩) (min N l.length) c) ∧ Bytes w' (.slice (some ⟨bb, oo, none⟩) (min N l.length) c) (l.take N) ∧ Rd w' gr (l.drop N) bb oo' c' ∧ Kept (fun y => y = gr) w w' := by
  obtain ⟨hh, hb, hne, hbl⟩ := h
  have BL := Lib.hid hbl
  have HH := Lib.hid hh
  have HB := Lib.hid hb
  have hcm : l.length ≤ c ∧ c ≤ 9223372036854775807 := by
    obtain ⟨a2, c2, e, h1, h2, _⟩ := hb
    simp only [Value.slice.injEq] at e
    unfold maxLen at h2
    rw [e.2.2]
    exact ⟨h1, h2⟩
  obtain ⟨hc1, hc2⟩ := hcm
  have hcell : w.cell? ⟨gr, 0, none⟩ = some (.slice (some ⟨bb, oo, none⟩) l.length c) := by rw [cell_of_row w gr 0 _ _ _ hh]; rfl
  have hfr : w.frozen? ⟨gr, 0, none⟩ = false := frozen_of_row w _ _ _ _ hh
  obtain ⟨n, hn⟩ : ∃ n, n = l.length := ⟨_, rfl⟩
  obtain ⟨M, hM⟩ : ∃ M, M = min N n := ⟨_, rfl⟩
  have hMn : M ≤ n := by omega
  have TK : Hid (Bytes w (.slice (some ⟨bb, oo, none⟩) M c) (l.take N)) := Lib.hid (by
    have q := hb.take M (by rw [← hn]; exact hMn)
    have e : l.take M = l.take N := by
      rw [hM, hn]
      by_cases q : N ≤ l.length
      · rw [Nat.min_eq_left q]
      · rw [Nat.min_eq_right (by omega), List.take_length, List.take_of_length_le (by omega)]
    rw [e] at q
    exact q)
  have CT : Hid (Bytes w (.slice (if c = M then some ⟨bb, oo, none⟩ else some ⟨bb, oo + M, none⟩) (n - M) (c - M)) (l.drop N)) := Lib.hid (by
    have q := hb.cut M (by rw [← hn]; exact hMn)
    have e : l.drop M = l.drop N := by
      rw [hM, hn]
      by_cases q : N ≤ l.length
      · rw [Nat.min_eq_left q]
      · rw [Nat.min_eq_right (by omega), List.drop_eq_nil_of_le (by omega), List.drop_eq_nil_of_le (by omega)]
    rw [e, ← hn] at q
    exact q)
  have DL : Hid (n - M = (l.drop N).length) := Lib.hid (by rw [List.length_drop, hM, hn]; omega)
  rw [← hn] at hcell hc1 ⊢
  rw [← hM]
  have HM := Lib.hid hM
  have NE := Lib.hid hne
  clear hh hb hn hM hne hbl
  have hgM : (M : Int) ≤ (n : Int) := by omega
  have hgc : (M : Int) ≤ (c : Int) := by omega
  have FIN : Hid (∀ (a : Option Addr) (oo' c' : Nat), a = some ⟨bb, oo', none⟩ → Bytes w (.slice a (n - M) c') (l.drop N) → ∃ oo'' c'', Bytes (w.setCell ⟨gr, 0, none⟩ (.slice a (n - M) c')) (.slice (some ⟨bb, oo, none⟩) M c) (l.take N) ∧ Rd (w.setCell ⟨gr, 0, none⟩ (.slice a (n - M) c')) gr (l.drop N) bb oo'' c'' ∧ Kept (fun y => y = gr) w (w.setCell ⟨gr, 0, none⟩ (.slice a (n - M) c'))) := Lib.hid (fun a oo' c' ha hb => by
    subst ha
    have hk := kept_set (F := fun y => y = gr) w ⟨gr, 0, none⟩ (.slice (some ⟨bb, oo', none⟩) (n - M) c') rfl
    refine ⟨oo', c', bytes_kept TK.out hk NE.out, ⟨?_, ?_, NE.out, Nat.lt_of_lt_of_le BL.out hk.size⟩, hk⟩
    · rw [heap_setCell_same _ _ _ _ _ _ HH.out, ← DL.out]
      rfl
    · rw [← DL.out]
      exact bytes_kept hb hk NE.out)
  by_cases hcM : c = M
  · rw [if_pos hcM] at CT
    subst hcM
    go_enter Try.func41, Try.ntmps41
    go_wp2_with (refine wp_min2 (.tmp 6) (.tmp 11) #[3, 3] rfl rfl N n _ rfl rfl HM.out ?_)
    go_ret
    have hq := FIN.out _ _ _ rfl CT.out
    rw [show n - c = 0 by omega, Nat.sub_self] at hq
    obtain ⟨o2, c2, h1, h2, h3⟩ := hq
    exact ⟨o2, c2, rfl, h1, h2, h3⟩
  · rw [if_neg hcM] at CT
    have hcM' : (M : Int) < (c : Int) := by omega
    go_enter Try.func41, Try.ntmps41
    go_wp2_with (refine wp_min2 (.tmp 6) (.tmp 11) #[3, 3] rfl rfl N n M rfl rfl HM.out ?_)
    go_ret
    obtain ⟨o2, c2, h1, h2, h3⟩ := FIN.out _ _ _ rfl CT.out
    exact ⟨o2, c2, rfl, h1, h2, h3⟩
theorem Rd.kept {F : Nat → Prop} {w w' : World} {gr bb oo c : Nat} {l : List UInt8} (h : Rd w gr l bb oo c) (hk : Kept F w w') (h1 : ¬ F gr) (h2 : ¬ F bb) : Rd w' gr l bb oo c :=
  ⟨by rw [hk.block gr (lt_of_heap h.h) h1]; exact h.h, bytes_kept h.b hk h2, h.ne, Nat.lt_of_lt_of_le h.lt hk.size⟩
theorem number_any (gr bb oo c N : Nat) (l : List UInt8) (w : World) (h : Rd w gr l bb oo c) (hN : N ≤ 4) :
    Calls Try.prog 38 #[.pointer (some ⟨gr, 0, none⟩), .int .i64 (N : Int)] w fun e w' => ∃ oo' c', e = .returned (.int .i64 (leN (l.take N) : Int)) ∧ Rd w' gr (l.drop N) bb oo' c' ∧ Kept (fun y => y = gr) w w' := by
  have TK := Lib.hid (take_any gr bb oo c N l w h (by omega))
  go_enter Try.func38, Try.ntmps38
  go_wp2_with (first | (go_at_call 41; refine TK.out.mono ?_; rintro e w1 ⟨o1, c1, rfl, b1, r1, k1⟩; have B1 := Lib.hid b1; have R1 := Lib.hid (And.intro r1 k1); clear b1 r1 k1) | (go_at_call 36; refine (get_any _ _ _ B1.out (by rw [List.length_take]; omega)).mono ?_; rintro e w2 ⟨rfl, rfl⟩))
  go_ret
  exact ⟨o1, c1, rfl, R1.out.1, R1.out.2⟩
theorem text_any (gr bb oo c N : Nat) (l : List UInt8) (w : World) (h : Rd w gr l bb oo c) (hN : N < 9223372036854775808) :
    Calls Try.prog 39 #[.pointer (some ⟨gr, 0, none⟩), .int .i64 (N : Int)] w fun e w' => ∃ oo' c', e = .returned (.string (txt (l.take N))) ∧ Rd w' gr (l.drop N) bb oo' c' ∧ Kept (fun y => y = gr) w w' := by
  have TK := Lib.hid (take_any gr bb oo c N l w h hN)
  go_enter Try.func39, Try.ntmps39
  go_wp2_with (first | (go_at_call 41; refine TK.out.mono ?_; rintro e w1 ⟨o1, c1, rfl, b1, r1, k1⟩; have cv := convT b1; have R1 := Lib.hid (And.intro r1 k1); clear b1 r1 k1))
  go_ret
  exact ⟨o1, c1, rfl, R1.out.1, R1.out.2⟩
/-- What an entry is read as: it, its chain's first block, the bytes that are left. -/
def enR (l : List UInt8) : Ent × Nat × List UInt8 :=
  let kl := leN (l.take 1)
  let vl := leN ((l.drop 1).take 1)
  let l2 := (l.drop 1).drop 1
  if vl = 255 then ((txt (l2.take kl), ⟨#[]⟩), leN ((l2.drop kl).take 4), (l2.drop kl).drop 4)
  else ((txt (l2.take kl), txt ((l2.drop kl).take vl)), 0, (l2.drop kl).drop vl)
theorem enR_ch (l : List UInt8) (h : leN ((l.drop 1).take 1) = 255) : enR l = ((txt (((l.drop 1).drop 1).take (leN (l.take 1))), ⟨#[]⟩), leN ((((l.drop 1).drop 1).drop (leN (l.take 1))).take 4), (((l.drop 1).drop 1).drop (leN (l.take 1))).drop 4) := by unfold enR; simp only; rw [if_pos h]
theorem enR_in (l : List UInt8) (h : leN ((l.drop 1).take 1) ≠ 255) : enR l = ((txt (((l.drop 1).drop 1).take (leN (l.take 1))), txt ((((l.drop 1).drop 1).drop (leN (l.take 1))).take (leN ((l.drop 1).take 1)))), 0, (((l.drop 1).drop 1).drop (leN (l.take 1))).drop (leN ((l.drop 1).take 1))) := by unfold enR; simp only; rw [if_neg h]
theorem results_cell1 {fn : Func} {p u : Tmp} {ty : TypeId} (h : fn.results = #[.cell p ty, .tmp u]) (tmps : Array Value) (w : World) (ad : Addr) (x : Value)
    (hp : tmps.getD p undef = .pointer (some ad)) (hl : (loadVar ty ad).run Try.prog w = .ok x w) :
    (results fn tmps).run Try.prog w = .ok (.tuple #[x, tmps.getD u undef]) w := by
  have hp' : tmps[p]?.getD undef = .pointer (some ad) := by simpa using hp
  simp [results, h, hp', asAddr, hl, Result.andThen]
theorem size_entry : (Try.prog.info? 29).map (·.size) = some 2 := by kernel_rfl
theorem leN1_lt (l : List UInt8) : leN (l.take 1) < 256 := by
  have h := leN_lt (l.take 1)
  have h2 : (l.take 1).length ≤ 1 := by rw [List.length_take]; omega
  exact Nat.lt_of_lt_of_le h (Nat.le_trans (Nat.pow_le_pow_right (by decide) h2) (by decide))
set_option maxHeartbeats 2000000 in
set_option maxRecDepth 100000 in
theorem entry_any (gr bb oo c : Nat) (l : List UInt8) (w : World) (h : Rd w gr l bb oo c) :
    Calls Try.prog 37 #[.pointer (some ⟨gr, 0, none⟩)] w fun e w' => ∃ oo' c', e = .returned (.tuple #[.agg #[.string (enR l).1.1, .string (enR l).1.2], .int .i64 ((enR l).2.1 : Int)]) ∧ Rd w' gr (enR l).2.2 bb oo' c' ∧ Kept (fun y => y = gr) w w' := by
  obtain ⟨ge, hge⟩ : ∃ ge, ge = w.heap.size := ⟨_, rfl⟩
  obtain ⟨X, hX⟩ : ∃ X, X = w.alloc (.cells #[.string ⟨#[]⟩, .string ⟨#[]⟩] 29) := ⟨_, rfl⟩
  have KX : Hid (Kept (fun y => y = gr) w X) := Lib.hid (by rw [hX]; exact Below.kept ((Below.refl _ _).alloc (Nat.le_refl _) _) _)
  have RX : Hid (Rd X gr l bb oo c) := Lib.hid (by rw [hX]; exact h.kept (Below.kept ((Below.refl _ _).alloc (Nat.le_refl _) _) (fun _ => False)) (fun h => h) (fun h => h))
  have NG : Hid (gr ≠ ge ∧ bb ≠ ge ∧ w.heap.size ≤ ge) := Lib.hid ⟨by have := lt_of_heap h.h; omega, by have := h.lt; omega, by omega⟩
  have EG : Hid (∀ W, Kept (fun y => y = gr) X W → W.heap[ge]? = some (.cells #[.string ⟨#[]⟩, .string ⟨#[]⟩] 29 (0, 0))) := Lib.hid (fun W hk => by
    rw [hk.block ge (by rw [hX, hge]; simp) (fun e => NG.out.1 e.symm), hX, hge]; exact heap_alloc_new _ _)
  have FIN : Hid (∀ (W : World) (a b : ByteArray) (r : List UInt8) (o1 c1 : Nat), Kept (fun y => y = gr) X W → Rd W gr r bb o1 c1 → Rd ((W.setCell ⟨ge, 0, none⟩ (.string a)).setCell ⟨ge, 1, none⟩ (.string b)) gr r bb o1 c1 ∧ Kept (fun y => y = gr) w ((W.setCell ⟨ge, 0, none⟩ (.string a)).setCell ⟨ge, 1, none⟩ (.string b)) ∧ ((W.setCell ⟨ge, 0, none⟩ (.string a)).setCell ⟨ge, 1, none⟩ (.string b)).heap[ge]? = some (.cells #[.string a, .string b] 29 (0, 0))) := Lib.hid (fun W a b r o1 c1 hk hr => by
    have k1 := kept_set (F := fun y => y = ge) W ⟨ge, 0, none⟩ (.string a) rfl
    have k2 := kept_set (F := fun y => y = ge) (W.setCell ⟨ge, 0, none⟩ (.string a)) ⟨ge, 1, none⟩ (.string b) rfl
    have k3 := k1.trans k2 (fun _ _ h => h)
    refine ⟨hr.kept k3 NG.out.1 NG.out.2.1, ?_, ?_⟩
    · exact (KX.out.trans hk (fun _ _ h => h)).trans k3 (fun y hy e => by have := NG.out.2.2; omega)
    · rw [heap_setCell_same _ _ _ _ _ _ (heap_setCell_same _ _ _ _ _ _ (EG.out W hk))]
      rfl)
  have hX' := hX.symm
  have hge' := hge.symm
  clear hX hge h
  obtain ⟨kl, hkl⟩ : ∃ x, x = leN (l.take 1) := ⟨_, rfl⟩
  obtain ⟨vl, hvl⟩ : ∃ x, x = leN ((l.drop 1).take 1) := ⟨_, rfl⟩
  have hk9 : kl < 256 := by rw [hkl]; exact leN1_lt l
  have hv9 : vl < 256 := by rw [hvl]; exact leN1_lt _
  have C1 := Lib.hid (number_any gr bb oo c 1 l X RX.out (by decide))
  rw [← hkl] at C1
  by_cases h255 : vl = 255
  · have ER := Lib.hid (enR_ch l (by rw [← hvl]; exact h255))
    rw [← hkl] at ER
    have HV := Lib.hid hvl
    subst h255
    clear hkl hvl
    go_enter Try.func37, Try.ntmps37
    go_wp2_with (first | (go_at_call 38; first | (refine (number_any gr bb _ _ 4 _ _ R3.out (by decide)).mono ?_; rintro e w4 ⟨o4, c4, rfl, r4, k4⟩; have R4 := Lib.hid r4; have K4 := Lib.hid (K3.out.trans k4 (fun _ _ h => h)); clear r4 k4; have e0 : w4.cell? ⟨ge, 0, none⟩ = some (.string ⟨#[]⟩) := (by rw [cell_of_row _ _ _ _ _ _ (EG.out w4 K4.out)]; rfl); have e1 : w4.cell? ⟨ge, 1, none⟩ = some (.string ⟨#[]⟩) := (by rw [cell_of_row _ _ _ _ _ _ (EG.out w4 K4.out)]; rfl); have f0 : w4.frozen? ⟨ge, 0, none⟩ = false := frozen_of_row _ _ _ _ _ (EG.out w4 K4.out); have f1 : w4.frozen? ⟨ge, 1, none⟩ = false := frozen_of_row _ _ _ _ _ (EG.out w4 K4.out)) | (refine (number_any gr bb _ _ 1 _ _ R1.out (by decide)).mono ?_; rw [← HV.out]; rintro e w2 ⟨o2, c2, rfl, r2, k2⟩; have R2 := Lib.hid r2; have K2 := Lib.hid (K1.out.trans k2 (fun _ _ h => h)); clear r2 k2) | (refine C1.out.mono ?_; rintro e w1 ⟨o1, c1, rfl, r1, k1⟩; have R1 := Lib.hid r1; have K1 := Lib.hid k1; clear r1 k1)) | (go_at_call 39; refine (text_any gr bb _ _ kl _ _ R2.out (by omega)).mono ?_; rintro e w3 ⟨o3, c3, rfl, r3, k3⟩; have R3 := Lib.hid r3; have K3 := Lib.hid (K2.out.trans k3 (fun _ _ h => h)); clear r3 k3))
    obtain ⟨g1, g2, g3⟩ := FIN.out w4 (txt (List.take kl (List.drop 2 l))) ⟨#[]⟩ _ o4 c4 K4.out R4.out
    refine bodyPost_ret (results_cell1 rfl _ _ ⟨ge, 0, none⟩ (.agg #[.string (txt (List.take kl (List.drop 2 l))), .string ⟨#[]⟩]) rfl ?_) rfl ?_
    · exact run_loadVar_row _ ge _ _ _ _ _ g3 Try.underlying29 rfl size_entry
    · rw [ER.out]
      exact ⟨o4, c4, by simp only [List.drop_drop]; rfl, g1, g2⟩
  · have ER := Lib.hid (enR_in l (by rw [← hvl]; exact h255))
    rw [← hkl, ← hvl] at ER
    have HV := Lib.hid hvl
    have g255 : ((vl : Int) == 255) = false := by rw [beq_eq_false_iff_ne]; omega
    clear hkl hvl h255
    go_enter Try.func37, Try.ntmps37
    go_wp2_with (first | (go_at_call 38; first | (refine (number_any gr bb _ _ 1 _ _ R1.out (by decide)).mono ?_; rw [← HV.out]; rintro e w2 ⟨o2, c2, rfl, r2, k2⟩; have R2 := Lib.hid r2; have K2 := Lib.hid (K1.out.trans k2 (fun _ _ h => h)); clear r2 k2) | (refine C1.out.mono ?_; rintro e w1 ⟨o1, c1, rfl, r1, k1⟩; have R1 := Lib.hid r1; have K1 := Lib.hid k1; clear r1 k1)) | (go_at_call 39; first | (refine (text_any gr bb _ _ vl _ _ R3.out (by omega)).mono ?_; rintro e w4 ⟨o4, c4, rfl, r4, k4⟩; have R4 := Lib.hid r4; have K4 := Lib.hid (K3.out.trans k4 (fun _ _ h => h)); clear r4 k4; have e0 : w4.cell? ⟨ge, 0, none⟩ = some (.string ⟨#[]⟩) := (by rw [cell_of_row _ _ _ _ _ _ (EG.out w4 K4.out)]; rfl); have e1 : w4.cell? ⟨ge, 1, none⟩ = some (.string ⟨#[]⟩) := (by rw [cell_of_row _ _ _ _ _ _ (EG.out w4 K4.out)]; rfl); have f0 : w4.frozen? ⟨ge, 0, none⟩ = false := frozen_of_row _ _ _ _ _ (EG.out w4 K4.out); have f1 : w4.frozen? ⟨ge, 1, none⟩ = false := frozen_of_row _ _ _ _ _ (EG.out w4 K4.out)) | (refine (text_any gr bb _ _ kl _ _ R2.out (by omega)).mono ?_; rintro e w3 ⟨o3, c3, rfl, r3, k3⟩; have R3 := Lib.hid r3; have K3 := Lib.hid (K2.out.trans k3 (fun _ _ h => h)); clear r3 k3)))
    obtain ⟨g1, g2, g3⟩ := FIN.out w4 (txt (List.take kl (List.drop 2 l))) (txt (List.take vl (List.drop (2 + kl) l))) _ o4 c4 K4.out R4.out
    refine bodyPost_ret (results_cell1 rfl _ _ ⟨ge, 0, none⟩ (.agg #[.string (txt (List.take kl (List.drop 2 l))), .string (txt (List.take vl (List.drop (2 + kl) l)))]) rfl ?_) rfl ?_
    · exact run_loadVar_row _ ge _ _ _ _ _ g3 Try.underlying29 rfl size_entry
    · rw [ER.out]
      exact ⟨o4, c4, by simp only [List.drop_drop]; rfl, g1, g2⟩
end Go.Proofs.Ytmoghdpjemidgaa
