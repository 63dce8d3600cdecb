/-
  THE DOCUMENTS Texts and Untexts.
-/
import Derived.Test.YtmabmmmiljkeeaaUntx
import Derived.Test.YtmabmmmiljkeeaaRefW3
import Derived.Test.YtmabmmmiljkeeaaRefR4
import Derived.Test.YtmabmmmiljkeeaaRefR5
namespace Go.Proofs.Ytmabmmmiljkeeaa
open Go.RowKit

set_option maxHeartbeats 2000000 in
set_option maxRecDepth 100000 in
theorem xtexts_any (v : Value) (ts : List ByteArray) (w : World) (hv : Strs w v ts) (hs : ∀ t ∈ ts, t.size ≤ 140737488355000) :
    Calls Try.prog 35 #[v] w fun e w' => ∃ v', e = .returned (.tuple #[v', .int .i64 (txs ts).e]) ∧ Own w.heap.size w' v' (txs ts).out ∧ Below w.heap.size w w' := by
  have V : Aside (Strs w v ts ∧ ∀ t ∈ ts, t.size ≤ 140737488355000) := ⟨hv, hs⟩
  obtain ⟨a, cap, rfl, hlc, hcm⟩ := hv.len
  unfold maxLen at hcm
  clear hv hs
  go_enter Try.func35, Try.ntmps35
  by_cases hbig : 4096 < ts.length
  · have hbig' : ((ts.length : Int) > 4096) := by omega
    have E : Aside ((txs ts).e = 1 ∧ (txs ts).out = []) := by
      have e1 : ((⟨[], 1048576, 0⟩ : WS).count ts.length) = ⟨[], 1048576, 1⟩ := by unfold WS.count; rw [if_neg (by omega)]; rfl
      have e2 : txs ts = ⟨[], 1048576, 1⟩ := by unfold txs; rw [e1]; exact texts_dead ts _ (by show ¬ (1 : Nat) = 0; decide)
      rw [e2]; exact ⟨rfl, rfl⟩
    go_wp2_with fail
    go_ret2
    rw [E.out.1, E.out.2]
    exact ⟨_, rfl, World.ownsRow_nil _ _ _ _, Below.refl _ _⟩
  · have hbig' : ¬ ((ts.length : Int) > 4096) := by omega
    go_wp2_with fail
    refine (xnewWriter_any 1048576 w).mono ?_
    rintro e w1 ⟨rfl, hw, _, hb⟩
    have A1 : Aside (XAt w.heap.size w1 w.heap.size (.slice none 0 0) ⟨[], 1048576, 0⟩ ∧ Below w.heap.size w w1) := ⟨hw, hb⟩
    clear hw hb
    go_wp2_with fail
    refine (xCount_any _ _ _ _ (ts.length : Int) w1 (by omega) (by omega) A1.out.1).mono ?_
    rintro e w2 ⟨rfl, hl⟩
    have A2 : Aside (∃ u, XAt w.heap.size w2 w.heap.size u ((⟨[], 1048576, 0⟩ : WS).count ts.length) ∧ Below w.heap.size w w2) := by
      have hB := A1.out.2.trans (hl.below A1.out.1)
      obtain ⟨u, h, _, _⟩ := hl
      exact ⟨u, h, hB⟩
    clear hl A1
    go_wp2_with fail
    obtain ⟨u2, hu2⟩ := A2.out
    have A3 : Aside (XAt w.heap.size w2 w.heap.size u2 ((⟨[], 1048576, 0⟩ : WS).count ts.length) ∧ Below w.heap.size w w2) := hu2
    clear hu2 A2
    go_loopg [5] ts.length (fun g si wr => ∃ (k : Nat) (u : Value), k ≤ ts.length ∧ g = ts.length - k ∧ si = .int .i64 k ∧ XAt w.heap.size wr w.heap.size u ((ts.take k).foldl WS.text ((⟨[], 1048576, 0⟩ : WS).count ts.length)) ∧ Below w.heap.size w wr)
    case atStart => exact ⟨0, u2, Nat.zero_le _, rfl, rfl, A3.out.1, A3.out.2⟩
    case round =>
      obtain ⟨k, u, hk, hg, rfl, hw, hb⟩ := hrel
      obtain ⟨s, hs⟩ : ∃ s, s = (ts.take k).foldl WS.text ((⟨[], 1048576, 0⟩ : WS).count ts.length) := ⟨_, rfl⟩
      rw [← hs] at hw
      have R : Aside (gk = ts.length - k ∧ XAt w.heap.size wr w.heap.size u s ∧ Below w.heap.size w wr ∧ s = (ts.take k).foldl WS.text ((⟨[], 1048576, 0⟩ : WS).count ts.length)) := ⟨hg, hw, hb, hs⟩
      clear hg hw hb hs
      by_cases hlt : k < ts.length
      · obtain ⟨b, off, rfl, hcell⟩ := (V.out.1.below R.out.2.2.1).at k hlt
        obtain ⟨t, ht⟩ : ∃ t, t = ts.getD k ⟨#[]⟩ := ⟨_, rfl⟩
        rw [← ht] at hcell
        have C : Aside (t = ts.getD k ⟨#[]⟩ ∧ t.size ≤ 140737488355000) := ⟨ht, V.out.2 t (by rw [ht]; simp [List.getD, hlt])⟩
        clear ht
        go_wp2_with fail
        refine (xText_any _ _ u s t wr C.out.2 R.out.2.1).mono ?_
        rintro e w3 ⟨rfl, hl⟩
        have A : Aside (∃ u', XAt w.heap.size w3 w.heap.size u' (s.text t) ∧ Below w.heap.size w w3) := by
          have hB := R.out.2.2.1.trans (hl.below R.out.2.1)
          obtain ⟨u', h, _, _⟩ := hl
          exact ⟨u', h, hB⟩
        clear hl hcell
        go_wp2_with fail
        go_roundg (ts.length - (k + 1))
        case measure => have := R.out.1; omega
        case rel =>
          obtain ⟨u', h1, h2⟩ := A.out
          refine ⟨k + 1, u', by omega, rfl, by go_num, ?_, h2⟩
          rw [take_one ts k ⟨#[]⟩ hlt, List.foldl_append, ← R.out.2.2.2, ← C.out.1]; exact h1
      · have E : Aside (txs ts = s) := by rw [R.out.2.2.2, List.take_of_length_le (by omega)]; rfl
        go_wp2_with fail
        refine (xOut_any _ _ _ _ wr R.out.2.1).mono ?_
        rintro e w3 ⟨v3, rfl, ho, hb⟩
        have A : Aside (Own w.heap.size w3 v3 s.out ∧ Below w.heap.size w w3) := ⟨ho.mono R.out.2.2.1.size, R.out.2.2.1.trans (hb.mono R.out.2.2.1.size)⟩
        clear ho hb
        go_wp2_with fail
        go_ret2
        rw [E.out]
        exact ⟨v3, rfl, A.out.1, A.out.2⟩

theorem texts_take (s : RS) (n k : Nat) (hk : k < n) : (s.texts (k + 1)).1 = (s.texts k).1 ++ [((s.texts k).2.text 1048576).1] := by
  induction k generalizing s n with
  | zero => rfl
  | succ k ih =>
    obtain ⟨m, rfl⟩ : ∃ m, n = m + 1 := ⟨n - 1, by omega⟩
    have := ih (s.text 1048576).2 m (by omega)
    show (s.text 1048576).1 :: ((s.text 1048576).2.texts (k + 1)).1 = _
    rw [this]; rfl
set_option maxHeartbeats 4000000 in
set_option maxRecDepth 100000 in
theorem yuntexts_any (v : Value) (l : List UInt8) (w : World) (hv : Bytes w v l) :
    Calls Try.prog 36 #[v] w fun e w' => ∃ v', e = .returned (.tuple #[v', .int .i64 (untE l)]) ∧ OwnS w.heap.size w' v' (untT l) ∧ Below w.heap.size w w' := by
  have V : Aside (Bytes w v l) := hv
  obtain ⟨a, cap, rfl, hlc, hcm⟩ := hv.len
  unfold maxLen at hcm
  clear hv
  go_enter Try.func36, Try.ntmps36
  by_cases hbig : 1048576 < l.length
  · have hbig' : ((l.length : Int) > 1048576) := by omega
    have E : Aside (untE l = 23 ∧ untT l = []) := by
      have e1 : untE l = 23 := by unfold untE; rw [if_pos hbig]
      exact ⟨e1, by unfold untT; rw [e1, if_neg (by decide)]⟩
    go_wp2_with fail
    go_ret2
    rw [E.out.1, E.out.2]
    exact ⟨_, rfl, World.ownsRow_nil _ _ _ _, Below.refl _ _⟩
  · have hbig' : ¬ ((l.length : Int) > 1048576) := by omega
    have UE : Aside (untE l = (unt l).2.fin) := by unfold untE; rw [if_neg hbig]; rfl
    go_wp2_with fail
    refine (ynewReader_any _ l w V.out (by omega)).mono ?_
    rintro e w1 ⟨rfl, ⟨v0, hr⟩, hb⟩
    have A1 : Aside (YAt w1 w.heap.size v0 l ⟨l, 0⟩ ∧ Below w.heap.size w w1) := ⟨hr, hb⟩
    clear hr hb
    go_wp2_with fail
    refine (yCount_any w.heap.size v0 l 4096 _ w1 (by decide) (by decide) A1.out.1).mono ?_
    rintro e w2 ⟨rfl, hr⟩
    have cle := count_le l
    obtain ⟨n, hn⟩ : ∃ n, n = (RS.count ⟨l, 0⟩ 4096).1 := ⟨_, rfl⟩
    obtain ⟨s1, hs1⟩ : ∃ s1, s1 = (RS.count ⟨l, 0⟩ 4096).2 := ⟨_, rfl⟩
    rw [← hs1] at hr
    rw [← hn] at cle ⊢
    have UU : Aside (unt l = s1.texts n) := by unfold unt; rw [hn, hs1]; rfl
    have A2 : Aside (YAt w2 w.heap.size v0 l s1 ∧ Below w.heap.size w w2 ∧ Bytes w2 v0 l) := ⟨hr.1, A1.out.2.trans (hr.2.below A1.out.2.size (fun x hx => by omega)), hr.1.choose_spec.2.1⟩
    have gl : Aside (w.heap.size < w2.heap.size) := A2.out.1.lt
    clear hn hs1 hr
    go_wp2_with fail
    go_loopg [6, 7] n (fun g0 so si wr => ∃ (k : Nat) (vo : Value), k ≤ n ∧ g0 = n - k ∧ si = .int .i64 k ∧ vo = so ∧ YAt wr w.heap.size v0 l (s1.texts k).2 ∧ OwnS w2.heap.size wr vo ((s1.texts k).1.map txt) ∧ Below w.heap.size w wr ∧ w2.heap.size ≤ wr.heap.size)
    case atStart => exact ⟨0, _, Nat.zero_le _, rfl, rfl, rfl, A2.out.1, World.ownsRow_nil _ _ _ _, A2.out.2.1, Nat.le_refl _⟩
    case round =>
      obtain ⟨k, vo, hk, hg, rfl, rfl, hr, hrow, hb, hsz⟩ := hrel
      have R : Aside (gk = n - k ∧ YAt wr w.heap.size v0 l (s1.texts k).2 ∧ OwnS w2.heap.size wr vo ((s1.texts k).1.map txt) ∧ Below w.heap.size w wr ∧ w2.heap.size ≤ wr.heap.size) := ⟨hg, hr, hrow, hb, hsz⟩
      clear hg hr hrow hb hsz
      by_cases hlt : k < n
      · have hlt' : (k : Int) < (n : Int) := by omega
        go_wp2_with fail
        refine (yText_any w.heap.size v0 l 1048576 _ wr (by decide) (by decide) R.out.2.1).mono ?_
        rintro e w4 ⟨rfl, hr⟩
        have ta := texts_at s1 n k hlt
        have tk := texts_take s1 n k hlt
        rw [← ta.2] at hr
        obtain ⟨t, ht⟩ : ∃ t, t = ((s1.texts k).2.text 1048576).1 := ⟨_, rfl⟩
        rw [← ht] at tk ⊢
        have ow4 : OwnS w2.heap.size w4 vo ((s1.texts k).1.map txt) := by
          have h := R.out.2.2.1
          obtain ⟨h1, h | ⟨g', cap', cur, hv, hB, hg', hr'⟩⟩ := h
          · exact ⟨h1, .inl h⟩
          · have hlt2 : g' < wr.heap.size := by
              rcases Nat.lt_or_ge g' wr.heap.size with q | q
              · exact q
              · rw [Array.getElem?_eq_none q] at hg'; simp at hg'
            exact ⟨h1, .inr ⟨g', cap', cur, hv, hB, by rw [hr.2.block g' hlt2 (by have := gl.out; omega)]; exact hg', hr'⟩⟩
        have O : Hid (OwnS w2.heap.size w4 vo ((s1.texts k).1.map txt)) := ow4
        have S : Hid (w2.heap.size ≤ w4.heap.size) := Nat.le_trans R.out.2.2.2.2 hr.2.size
        have L : Hid ((((s1.texts k).1.map txt).length + 1) * 16 ≤ 140737488355328) := by show _ ≤ _; rw [List.length_map, texts_len]; omega
        have R4 : Aside (YAt w4 w.heap.size v0 l (s1.texts (k + 1)).2 ∧ Below w.heap.size w w4 ∧ (s1.texts (k + 1)).1 = (s1.texts k).1 ++ [t]) :=
          ⟨hr.1, R.out.2.2.2.1.trans (hr.2.below R.out.2.2.2.1.size (fun x hx => by omega)), tk⟩
        clear hr ta tk ht ow4
        go_wp2_with (at_builtin; refine app_txt rfl _ _ rfl rfl O.out S.out (txt t) rfl L.out ?_)
        intro v' w' h1 h2
        have bg : Below w2.heap.size w4 w' := (Below.refl _ _).grown h2 S.out (fun k hk => (O.out.lt k hk).1)
        have A : Aside (OwnS w2.heap.size w' v' ((s1.texts (k + 1)).1.map txt) ∧ Below w2.heap.size w4 w') := ⟨by rw [R4.out.2.2, List.map_append]; exact h1, bg⟩
        clear h1 h2 O L bg
        go_wp2_with fail
        go_roundg (n - (k + 1))
        case measure => have := R.out.1; omega
        case rel =>
          exact ⟨k + 1, v', by omega, rfl, by go_num, rfl, R4.out.1.grow A2.out.2.2 A.out.2 gl.out, A.out.1, R4.out.2.1.trans (A.out.2.mono (Nat.le_of_lt gl.out)), Nat.le_trans S.out A.out.2.size⟩
      · obtain rfl : k = n := by omega
        go_wp2_with fail
        refine (yEnd_any w.heap.size v0 l _ wr R.out.2.1).mono ?_
        rintro e w4 ⟨rfl, hr⟩
        have ef : (s1.texts k).2.fin = untE l := by rw [UE.out, UU.out]
        rw [ef]
        have ow4 : OwnS w2.heap.size w4 vo ((s1.texts k).1.map txt) := by
          have h := R.out.2.2.1
          obtain ⟨h1, h | ⟨g', cap', cur, hv, hB, hg', hr'⟩⟩ := h
          · exact ⟨h1, .inl h⟩
          · have hlt2 : g' < wr.heap.size := by
              rcases Nat.lt_or_ge g' wr.heap.size with q | q
              · exact q
              · rw [Array.getElem?_eq_none q] at hg'; simp at hg'
            exact ⟨h1, .inr ⟨g', cap', cur, hv, hB, by rw [hr.2.block g' hlt2 (by have := gl.out; omega)]; exact hg', hr'⟩⟩
        have R4 : Aside (OwnS w2.heap.size w4 vo ((s1.texts k).1.map txt) ∧ Below w.heap.size w w4) := ⟨ow4, R.out.2.2.2.1.trans (hr.2.below R.out.2.2.2.1.size (fun x hx => by omega))⟩
        clear hr ef ow4
        by_cases he : untE l = 0
        · have he' : (untE l : Int) = 0 := by omega
          have T : Aside (untT l = (s1.texts k).1.map txt) := by unfold untT; rw [if_pos he, UU.out]; rfl
          go_wp2_with fail
          go_ret2
          rw [T.out, he]
          refine ⟨_, rfl, ?_, R4.out.2⟩
          obtain ⟨h1, h | ⟨g', cap', cur, hv, hB, hr'⟩⟩ := R4.out.1
          · exact ⟨h1, .inl h⟩
          · exact ⟨h1, .inr ⟨g', cap', cur, hv, by have := gl.out; omega, hr'⟩⟩
        · have he' : ¬ (untE l : Int) = 0 := by omega
          have T : Aside (untT l = []) := by unfold untT; rw [if_neg he]; rfl
          clear he
          go_wp2_with fail
          go_ret2
          rw [T.out]
          exact ⟨_, rfl, World.ownsRow_nil _ _ _ _, R4.out.2⟩
end Go.Proofs.Ytmabmmmiljkeeaa
