/-
  Append, taken.
-/
import Derived.Test.YtfljbipnjfciaabWaI
namespace Go.Proofs.Ytfljbipnjfciaab
open Go.RowKit Go.Maps
variable {B : Nat} {w w' : World} {l d : Nat} {pv : Value} {s : LS}
theorem row_slice {B : Nat} {w : World} {v : Value} {p : List UInt8} (h : Own B w v p) : ∃ a c, v = .slice a p.length c ∧ p.length ≤ c ∧ c ≤ maxLen := h.bytes.len
set_option maxRecDepth 100000 in
set_option maxHeartbeats 4000000 in
theorem append_ok (h : Lg B w l d pv s) (t : ByteArray) (hE : appE s t.size = 0) : Calls Try.prog 24 #[.pointer (some ⟨l, 0, none⟩), .string t] w fun e w' => ∃ pv', e = .returned (.int .i64 0) ∧ Lg B w' l d pv' (appS s t.data.toList) ∧ Kept (fun k => k = l ∨ some k = pv.ownBlock) w w' ∧ At pv pv' w := by
  have H := Lib.hid h
  obtain ⟨k, hk⟩ : ∃ k, k = t.size := ⟨_, rfl⟩
  have KK := Lib.hid hk
  rw [← hk] at hE
  have ts : (t.size : Int) = (k : Int) := by omega
  unfold appE at hE
  have hd : s.dead = false := by
    cases q : s.dead with
    | false => rfl
    | true => rw [if_pos q] at hE; simp at hE
  rw [if_neg (by rw [hd]; simp)] at hE
  have h12 : ¬ (k < 1 ∨ 32768 < k) := fun q => by rw [if_pos q] at hE; simp at hE
  rw [if_neg h12] at hE
  have h3 : ¬ s.free < s.need k := fun q => by rw [if_pos q] at hE; simp at hE
  rw [if_neg h3] at hE
  have h4 : ¬ s.stamps < s.need k := fun q => by rw [if_pos q] at hE; simp at hE
  clear hE
  have p10 : w.cell? ⟨l, 10, none⟩ = some (.bool false) := by rw [← hd]; exact h.cell 10
  have d1 : decide ((k : Int) < 1) = false := decide_eq_false (by omega)
  have d2 : decide ((k : Int) > 32768) = false := decide_eq_false (by omega)
  obtain ⟨a, cap, hpv, hlc, hcm⟩ := row_slice h.pay
  unfold maxLen at hcm
  have HPV := Lib.hid hpv
  have p8 : w.cell? ⟨l, 8, none⟩ = some (.slice a s.pay.length cap) := by rw [h.cell 8, ← hpv]; rfl
  obtain ⟨pl, hpl⟩ : ∃ pl, pl = s.pay.length := ⟨_, rfl⟩
  have PL := Lib.hid hpl
  rw [← hpl] at p8
  have hp2 : pl ≤ 237568 := by rw [hpl]; have := h.fit.pl; have := h.fit.hi; omega
  obtain ⟨N, hN⟩ : ∃ N, N = s.need k := ⟨_, rfl⟩
  have BO : Hid (∀ W, Calls Try.prog 64 #[.int .i64 ((pl : Int) + 4 + (k : Int))] W fun e w' => e = .returned (.int .i64 (N : Int)) ∧ w' = W) := Lib.hid (fun W => by
    have q := blocksOf_any (pl + 4 + k) (by omega) W
    have e : ((pl + 4 + k : Nat) : Int) = (pl : Int) + 4 + (k : Int) := by omega
    rw [e] at q
    rw [hN, show s.need k = (pl + 4 + k + 463) / 464 by rw [hpl]; rfl]
    exact q)
  obtain ⟨F, hF⟩ : ∃ F, F = s.free := ⟨_, rfl⟩
  obtain ⟨T, hT⟩ : ∃ T, T = s.stamps := ⟨_, rfl⟩
  have FR : Hid (Calls Try.prog 62 #[.pointer (some ⟨l, 0, none⟩)] w fun e w' => e = .returned (.int .i64 (F : Int)) ∧ Below w.heap.size w w') := Lib.hid (by rw [hF]; exact free_any h)
  have ST : Hid (∀ W, Below w.heap.size w W → Calls Try.prog 63 #[.pointer (some ⟨l, 0, none⟩)] W fun e w' => e = .returned (.int .i64 (T : Int)) ∧ w' = W) := Lib.hid (fun W hb => by rw [hT]; exact stamps_any (h.below hb))
  have g3 : ¬ F < N := by rw [hF, hN]; exact h3
  have g4 : ¬ T < N := by rw [hT, hN]; exact h4
  have FIT : Hid (LFit (appS s t.data.toList)) := Lib.hid (by
    obtain ⟨q1, q2, q3, q4, q5, q6, q7, q8, q9, q10, q11, q12, q13, q14⟩ := h.fit
    have e : (s.pay ++ (leB 4 t.data.toList.length ++ t.data.toList)).length = pl + 4 + k := by
      rw [List.length_append, List.length_append, leB_length, str_size, ← hpl, ← hk]; omega
    unfold LS.free at h3
    unfold LS.stamps at h4
    have hq : s.need k = (pl + 4 + k + 463) / 464 := by rw [hpl]; rfl
    rw [hq] at h3 h4
    refine ⟨q1, q2, q3, q4, q5, q6, q7, q8, q9, q10, q11, ?_, ?_, ?_⟩
    · show (s.pay ++ (leB 4 t.data.toList.length ++ t.data.toList)).length ≤ 464 * (s.n - (s.es - s.fs))
      rw [e]; omega
    · show (s.pay ++ (leB 4 t.data.toList.length ++ t.data.toList)).length ≤ 464 * (1152921504606846977 - s.es)
      rw [e]; omega
    · show s.pend + 1 ≤ (s.pay ++ (leB 4 t.data.toList.length ++ t.data.toList)).length
      rw [e]; omega)
  have hk2 : k ≤ 32768 := by omega
  have wk : IntKind.u64.wrap (k : Int) = (k : Int) := by rw [IntKind.wrap_u64]; omega
  have LB : Hid (l < w.heap.size ∧ B ≤ w.heap.size) := Lib.hid (by have q := lt_of_heap h.self; have := h.b; omega)
  have hpd : s.pend ≤ 237568 := by have := h.fit.pp; omega
  clear h hd h12 h3 h4 hk hpv hlc hpl hN hF hT
  go_enter Try.func24, Try.ntmps24
  go_wp2_with (go_at_call 64; refine (BO.out _).mono ?_; rintro r w0 ⟨rfl, rfl⟩)
  refine FR.out.mono ?_
  rintro r w2 ⟨rfl, hb2⟩
  have B2 := Lib.hid hb2
  clear hb2 FR BO
  go_wp2_with fail
  refine (ST.out _ B2.out).mono ?_
  rintro r w3 ⟨rfl, rfl⟩
  clear ST
  obtain ⟨X, hX⟩ : ∃ X, X = w3.alloc (.cells #[.int .u8 0, .int .u8 0, .int .u8 0, .int .u8 0] 106) := ⟨_, rfl⟩
  have gX : Hid (X.heap[w3.heap.size]? = some (.cells (cells8 [0, 0, 0, 0]).toArray 106 (0, 0))) := Lib.hid (by rw [hX]; exact heap_alloc_new _ _)
  have BX : Hid (Below w0.heap.size w0 X) := Lib.hid (by rw [hX]; exact B2.out.alloc B2.out.size _)
  have PU := Lib.hid (put_ty 106 w3.heap.size 0 4 4 k [0, 0, 0, 0] X gX.out (by decide) (by decide) (by decide) (by decide))
  have hX' := hX.symm
  clear hX
  go_wp2_with fail
  refine PU.out.mono ?_
  rintro r w4 ⟨rfl, hg4, hk4⟩
  have e4 : splice [0, 0, 0, 0] 0 (leB 4 k) = leB 4 k := splice_all _ _ (by rw [leB_length]; rfl)
  rw [e4] at hg4
  have G4 := Lib.hid hg4
  have s03 : Hid (w0.heap.size ≤ w3.heap.size) := Lib.hid B2.out.size
  have K4 : Hid (Kept (fun k => k = l ∨ some k = pv.ownBlock) w0 w4) := Lib.hid ((Below.kept BX.out _).trans hk4 (fun x hx hxe => by have := s03.out; omega))
  have H4 : Hid (Lg B w4 l d pv s) := Lib.hid ((H.out.below BX.out).kept hk4 (by have := LB.out.1; have := s03.out; omega) (fun k hk e => by have := (H.out.pay.lt k hk).2; have := s03.out; omega))
  clear hg4 hk4 e4 gX PU hX'
  have O4 : Hid (Own B w4.drew (.slice a pl cap) s.pay) := Lib.hid (by
    have q := H4.out.pay
    rw [HPV.out, ← PL.out] at q
    exact q.below ⟨rfl, rfl, rfl, Nat.le_refl _, fun _ _ => rfl⟩)
  have S4 : Hid (B ≤ w4.drew.heap.size) := Lib.hid (by have := K4.out.size; have := LB.out.2; show B ≤ w4.heap.size; omega)
  have N4 : Hid (∀ j u, (cells8 (leB 4 k))[j]? = some u → w4.drew.cell? ((⟨w3.heap.size, 0, none⟩ : Addr).add j) = some u) := Lib.hid (src_row G4.out (fun j _ => by rw [Nat.zero_add]))
  have L4 : Hid (s.pay.length + 4 ≤ 1000000000) := Lib.hid (by rw [← PL.out]; omega)
  have FK : Hid (∀ v' w', Own B w' v' (s.pay ++ leB 4 k) ∧ w4.drew.grownBy w' (Value.slice a pl cap).ownBlock ∧ At (.slice a pl cap) v' w4.drew → (∃ a' c', v' = .slice a' (pl + 4) c' ∧ c' ≤ 9223372036854775807) ∧ w'.heap[l]? = some (.cells (logCells d pv s) 102 (0, 0))) := Lib.hid (fun v' w' hh => by
    obtain ⟨a', c', e, _, hc⟩ := row_slice hh.1
    refine ⟨⟨a', c', by rw [e, List.length_append, leB_length, ← PL.out], hc⟩, ?_⟩
    rw [hh.2.1.block l (lt_of_heap (w := w4) H4.out.self) (fun q => H4.out.ne l (by rw [HPV.out, ← PL.out]; exact q.symm) rfl)]
    exact H4.out.self)
  have p8' : w4.cell? ⟨l, 8, none⟩ = some (.slice a pl cap) := by rw [H4.out.cell 8, PL.out, ← HPV.out]; rfl
  go_wp2_with fail
  go_region_law (refine step_app_at rfl (.tmp 46) (.tmp 47) rfl (B := B) (v := .slice a pl cap) (p := s.pay) (q := leB 4 k) rfl O4.out S4.out ⟨w3.heap.size, 0, none⟩ 4 4 rfl (leB_length 4 k) N4.out L4.out ?_; intro v5 w5 h5; have hf5 := FK.out v5 w5 h5; have h5' := Lib.hid h5; clear h5; obtain ⟨⟨a5, c5, e5, hc5⟩, hl5⟩ := hf5; subst e5; have f5 : w5.frozen? ⟨l, 8, none⟩ = false := frozen_of_row w5 l 8 _ _ hl5; have q5 : w5.cell? ⟨l, 8, none⟩ = some pv := cell_of_row w5 l 8 _ _ _ hl5; have hl5' := Lib.hid hl5; clear hl5)
  obtain ⟨W6, hW6⟩ : ∃ W6, W6 = w5.setCell ⟨l, 8, none⟩ (.slice a5 (pl + 4) c5) := ⟨_, rfl⟩
  have hl6 : W6.heap[l]? = some (.cells (logCells d (.slice a5 (pl + 4) c5) s) 102 (0, 0)) := by rw [hW6, heap_setCell_same _ _ _ _ _ _ hl5'.out]; rfl
  have epv : Hid ((Value.slice a pl cap) = pv) := Lib.hid (by rw [HPV.out, ← PL.out])
  have A5 : Hid (At pv (.slice a5 (pl + 4) c5) w0) := Lib.hid (by
    have q := h5'.out.2.2
    rw [epv.out] at q
    intro k hk
    rcases q k hk with q | q
    · exact .inl q
    · right
      have := K4.out.size
      have q2 : w4.heap.size ≤ k := q
      omega)
  have K5 : Hid (Kept (fun k => k = l ∨ some k = pv.ownBlock) w0 w5) := Lib.hid (by
    have q := grown_kept h5'.out.2.1
    rw [epv.out] at q
    have q0 : Kept (fun k => some k = pv.ownBlock) w4 w5 := ⟨q.os, q.tape, q.output, q.size, q.block⟩
    exact K4.out.trans q0 (fun x _ hx => .inr hx))
  have K6 : Hid (Kept (fun k => k = l ∨ some k = pv.ownBlock) w0 W6) := Lib.hid (by rw [hW6]; exact K5.out.trans (kept_set (F := fun k => k = l) w5 _ _ rfl) (fun x _ hx => .inl hx))
  have N6 : Hid (∀ k, (Value.slice a5 (pl + 4) c5).ownBlock = some k → ¬ k = l) := Lib.hid (fun k hk e => by
    rcases A5.out k hk.symm with q | q
    · exact H.out.ne k q.symm e
    · have := LB.out.1; omega)
  have O6 : Hid (Own B W6 (.slice a5 (pl + 4) c5) (s.pay ++ leB 4 k)) := Lib.hid (by rw [hW6]; exact h5'.out.1.kept (kept_set (F := fun k => k = l) w5 _ _ rfl) N6.out)
  have S6 : Hid (B ≤ W6.heap.size) := Lib.hid (by have := K6.out.size; have := LB.out.2; omega)
  have L6 : Hid ((s.pay ++ leB 4 k).length + t.size ≤ 140737488355328) := Lib.hid (by rw [List.length_append, leB_length, ← PL.out, ← KK.out]; omega)
  have q6 : W6.cell? ⟨l, 8, none⟩ = some (.slice a5 (pl + 4) c5) := cell_of_row W6 l 8 _ _ _ hl6
  have HL6 := Lib.hid hl6
  have hW6' := hW6.symm
  clear hW6 hl6 p8' q5 f5 O4 S4 N4 L4 FK p8 p10
  go_wp2_with (refine app_str rfl (.tmp 55) (.tmp 56) rfl (B := B) (v := .slice a5 (pl + 4) c5) (t := t) (l := s.pay ++ leB 4 k) rfl O6.out S6.out rfl L6.out ?_; intro v7 w7 ho7 hg7 ha7; have F7 := Lib.hid (And.intro ho7 (And.intro hg7 ha7)); obtain ⟨a7, n7, c7, e7⟩ : ∃ a n c, v7 = .slice a n c := (by obtain ⟨a, c, e, _⟩ := row_slice ho7; exact ⟨a, _, c, e⟩); subst e7; have hl7 : w7.heap[l]? = some (.cells (logCells d (.slice a5 (pl + 4) c5) s) 102 (0, 0)) := ((hg7.block l (lt_of_heap HL6.out) (fun q => N6.out l q.symm rfl)).trans HL6.out); have f7 : w7.frozen? ⟨l, 8, none⟩ = false := frozen_of_row w7 l 8 _ _ hl7; have q7 : w7.cell? ⟨l, 8, none⟩ = some (.slice a5 (pl + 4) c5) := cell_of_row w7 l 8 _ _ _ hl7; have HL7 := Lib.hid hl7; clear ho7 hg7 ha7 hl7; obtain ⟨W8, hW8⟩ : ∃ W8, W8 = w7.setCell ⟨l, 8, none⟩ (.slice a7 n7 c7) := ⟨_, rfl⟩; have hl8 : W8.heap[l]? = some (.cells (logCells d (.slice a7 n7 c7) s) 102 (0, 0)) := (by rw [hW8, heap_setCell_same _ _ _ _ _ _ HL7.out]; rfl); have q9 : W8.cell? ⟨l, 9, none⟩ = some (.int .i64 (s.pend : Int)) := cell_of_row W8 l 9 _ _ _ hl8; have f9 : W8.frozen? ⟨l, 9, none⟩ = false := frozen_of_row W8 l 9 _ _ hl8; have HL8 := Lib.hid hl8; have HW8 := Lib.hid hW8; have hW8' := hW8.symm; clear hl8 hW8)
  go_ret
  have A7 : At pv (.slice a7 n7 c7) w0 := A5.out.trans F7.out.2.2 K6.out.size
  have N7 : ∀ k, (Value.slice a7 n7 c7).ownBlock = some k → ¬ k = l := fun k hk e => by
    rcases A7 k hk.symm with q | q
    · exact H.out.ne k q.symm e
    · have := LB.out.1; omega
  have K7 : Kept (fun k => k = l ∨ some k = pv.ownBlock) w0 w7 := K6.out.trans (grown_kept F7.out.2.1) (fun x hx hxe => by
    rcases A5.out x hxe with q | q
    · exact .inr q
    · omega)
  have K8 : Kept (fun k => k = l) w7 W8 := by rw [HW8.out]; exact kept_set _ _ _ rfl
  have K9 : Kept (fun k => k = l) W8 (W8.setCell ⟨l, 9, none⟩ (.int .i64 ((s.pend : Int) + 1))) := kept_set _ _ _ rfl
  have K79 := K8.trans K9 (fun _ _ h => h)
  refine ⟨.slice a7 n7 c7, rfl, ⟨?_, ?_, H.out.b, FIT.out⟩, K7.trans K79 (fun x _ hx => .inl hx), A7⟩
  · rw [heap_setCell_same _ _ _ _ _ _ HL8.out]
    have e : ((s.pend + 1 : Nat) : Int) = (s.pend : Int) + 1 := by omega
    unfold appS logCells
    simp only [e]
    rfl
  · have q := F7.out.1.kept K79 N7
    rw [List.append_assoc] at q
    have e : leB 4 k = leB 4 t.data.toList.length := by rw [str_size, ← KK.out]
    rw [e] at q
    exact q
end Go.Proofs.Ytfljbipnjfciaab
