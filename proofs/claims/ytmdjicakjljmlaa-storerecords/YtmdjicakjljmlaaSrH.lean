/-
  The document's Record.
-/
import Derived.Test.YtmdjicakjljmlaaSrG
namespace Go.Proofs.Ytmdjicakjljmlaa
open Go.RowKit
def wrHX (n len : Nat) : WS := (((⟨[], 1048576, 0⟩ : WS).lay [195]).lay (form n)).count len
def wrX (n : Nat) (l : List Ch) : WS := l.foldl Ch.put (wrHX n l.length)
theorem wrX_eq (n : Nat) (l : List Ch) (hl : l.length ≤ 4096) : wrX n l = ([[195], form n, form l.length] ++ l.flatMap Ch.ps).foldl WS.lay ⟨[], 1048576, 0⟩ := by
  unfold wrX wrHX WS.count
  rw [if_pos (by omega), puts_eq, List.foldl_append]
  rfl
theorem wrX_out (n : Nat) (l : List Ch) (hl : l.length ≤ 4096) : ((recB n l).length ≤ 1048576 → (wrX n l).e = 0 ∧ (wrX n l).out = recB n l) ∧ (¬ (recB n l).length ≤ 1048576 → (wrX n l).e = 23 ∧ (wrX n l).out = []) := by
  have h := lays_all ([[195], form n, form l.length] ++ l.flatMap Ch.ps) ⟨[], 1048576, 0⟩ rfl (by simp)
  rw [← wrX_eq n l hl] at h
  have e : ([[195], form n, form l.length] ++ l.flatMap Ch.ps).flatten = recB n l := by
    unfold recB; simp
  rw [e] at h
  simp only [List.length_nil, Nat.zero_add, List.nil_append] at h
  refine ⟨fun q => ?_, fun q => ?_⟩
  · rw [h.1 q]; exact ⟨rfl, rfl⟩
  · have := h.2 q
    exact ⟨this, by unfold WS.out; rw [this]; rfl⟩
structure XW (w0 : World) (B g : Nat) (s : WS) (w : World) : Prop where
  wr : ∃ v, XAt B w g v s
  lo : w0.heap.size ≤ B
  be : Below w0.heap.size w0 w
theorem XW.calls {w0 w : World} {B g : Nat} {s s' : WS} {f : Nat} {args : Array Value} {r : Ending} (h : XW w0 B g s w) (hc : ∀ v, XAt B w g v s → Calls Try.prog f args w fun e w' => e = r ∧ LaidX B g v s' w w') :
    Calls Try.prog f args w fun e w' => e = r ∧ XW w0 B g s' w' := by
  obtain ⟨v, hv⟩ := h.wr
  refine (hc v hv).mono ?_
  rintro e w' ⟨rfl, hl⟩
  have hb := hl.below hv
  obtain ⟨v', h1, _, _⟩ := hl
  exact ⟨rfl, ⟨v', h1⟩, h.lo, h.be.trans (hb.mono h.lo)⟩
theorem rec_eq (n : Nat) (l : List Ch) (hn : 1 ≤ n ∧ n ≤ 1152921504606846976) (hs : stB l = true) (hh : shB l = true) (hl : l.length ≤ 4096) : recR n l = if (recB n l).length ≤ 32768 then (txt (recB n l), 0) else (⟨#[]⟩, 23) := by
  unfold recR rcR
  rw [if_pos (by omega), if_pos hs, if_pos hh]
  have q := wrC_out n l hl
  show (txt (wrC n l).out, (wrC n l).e) = _
  split
  · rename_i h; rw [(q.1 h).1, (q.1 h).2]
  · rename_i h; rw [(q.2 h).1, (q.2 h).2]; rfl
set_option maxHeartbeats 8000000 in
set_option maxRecDepth 100000 in
theorem rrecord_any (v : Value) (n : Int) (l : List Ch) (w : World) (hv : Chs w v l) :
    Calls Try.prog 9 #[.int .i64 n, v] w fun e w' => e = .returned (.tuple #[.string (recR n l).1, .int .i64 (recR n l).2]) ∧ Below w.heap.size w w' := by
  have V : Aside (Chs w v l) := hv
  obtain ⟨a, cap, rfl, hlc, hcm⟩ := hv.len
  unfold maxLen at hcm
  clear hv
  go_enter Try.func9, Try.ntmps9
  by_cases h1 : n < 1
  · have E : Aside (recR n l = (⟨#[]⟩, 1)) := by show _ = _; unfold recR; rw [if_neg (by omega)]
    go_wp2_with fail
    go_ret2
    rw [E.out]
    exact ⟨rfl, Below.refl _ _⟩
  by_cases h2 : n > 1152921504606846976
  · have E : Aside (recR n l = (⟨#[]⟩, 1)) := by show _ = _; unfold recR; rw [if_neg (by omega)]
    go_wp2_with fail
    go_ret2
    rw [E.out]
    exact ⟨rfl, Below.refl _ _⟩
  obtain ⟨m, rfl⟩ : ∃ m : Nat, n = m := ⟨n.toNat, by omega⟩
  have HK : Aside (1 ≤ m ∧ m ≤ 1152921504606846976) := ⟨by omega, by omega⟩
  have hk : m ≤ 1152921504606846976 := by omega
  have hk1 : ¬ (m : Int) < 1 := h1
  clear h1
  go_wp2_with fail
  refine (wrong_any _ l w V.out).mono ?_
  rintro e w1 ⟨rfl, hb⟩
  have B1 : Aside (Below w.heap.size w w1) := hb
  clear hb
  cases hs : stB l with
  | false =>
    have E : Aside (recR m l = (⟨#[]⟩, 1)) := by show _ = _; unfold recR rcR; rw [if_pos (by omega), hs]; rfl
    rw [wrN_no hs]
    clear hs
    go_wp2_with fail
    go_ret2
    rw [E.out]
    exact ⟨rfl, B1.out⟩
  | true =>
  cases hh : shB l with
  | false =>
    have E : Aside (recR m l = (⟨#[]⟩, 23)) := by show _ = _; unfold recR rcR; rw [if_pos (by omega), hs, hh]; rfl
    rw [wrN_long hs hh]
    clear hs hh
    go_wp2_with fail
    go_ret2
    rw [E.out]
    exact ⟨rfl, B1.out⟩
  | true =>
  rw [wrN_ok hs hh]
  have HL : Aside (l.length ≤ 4096 ∧ ∀ x ∈ l, x.k.size ≤ 120 ∧ x.v.size ≤ 8192) := by
    have hh := hh
    unfold shB at hh
    rw [Bool.and_eq_true, decide_eq_true_iff, List.all_eq_true] at hh
    refine ⟨hh.2, fun x hx => ?_⟩
    have := hh.1 x hx
    unfold Ch.shB at this
    rw [Bool.and_eq_true, decide_eq_true_iff, decide_eq_true_iff] at this
    exact this
  have E : Aside (recR m l = if (recB m l).length ≤ 32768 then (txt (recB m l), 0) else (⟨#[]⟩, 23)) := rec_eq m l HK.out hs hh HL.out.1
  clear hs hh
  go_wp2_with fail
  refine (xnewWriter_any 1048576 w1).mono ?_
  rintro e w3 ⟨rfl, hw, _, hb⟩
  obtain ⟨B, hB⟩ : ∃ B, B = w1.heap.size := ⟨_, rfl⟩
  rw [← hB] at hw ⊢
  have W3 : Aside (XW w B B ⟨[], 1048576, 0⟩ w3) := ⟨⟨_, hw⟩, by rw [hB]; exact B1.out.size, B1.out.trans (hb.mono B1.out.size)⟩
  clear hw hb hB B1
  go_wp2_with fail
  refine (W3.out.calls (fun v hv => xByte_eq (n := 195) (c := 195) rfl B B v _ w3 hv)).mono ?_
  rintro e w4 ⟨rfl, hw⟩
  have W4 : Aside (XW w B B _ w4) := hw
  clear hw W3
  go_wp2_with fail
  refine (W4.out.calls (fun v hv => xUint_any B B v _ m w4 (by omega) hv)).mono ?_
  rintro e w5 ⟨rfl, hw⟩
  have W5 : Aside (XW w B B _ w5) := hw
  clear hw W4
  go_wp2_with fail
  refine (W5.out.calls (fun v hv => xCount_any B B v _ (l.length : Int) w5 (by omega) (by omega) hv)).mono ?_
  rintro e w6 ⟨rfl, hw⟩
  have W6 : Aside (XW w B B (wrHX m l.length) w6) := hw
  clear hw W5
  go_wp2_with fail
  go_loopg [8] l.length (fun g si wr => ∃ (k : Nat), k ≤ l.length ∧ g = l.length - k ∧ si = .int .i64 k ∧ XW w B B ((l.take k).foldl Ch.put (wrHX m l.length)) wr)
  case atStart => exact ⟨0, Nat.zero_le _, rfl, rfl, W6.out⟩
  case round =>
    clear W6
    obtain ⟨k, hk, hg, rfl, hw⟩ := hrel
    have R : Aside (gk = l.length - k ∧ XW w B B ((l.take k).foldl Ch.put (wrHX m l.length)) wr) := ⟨hg, hw⟩
    clear hg hw
    by_cases hlt : k < l.length
    · have CS : Aside (∀ X : World, Below w.heap.size w X → ∃ b off, a = some ⟨b, off, none⟩ ∧ X.cell? ⟨b, off + k * 3, none⟩ = some (.string (l.getD k Ch.z).k) ∧ X.cell? ⟨b, off + k * 3 + 1, none⟩ = some (.string (l.getD k Ch.z).v) ∧ X.cell? ⟨b, off + k * 3 + 2, none⟩ = some (.bool (l.getD k Ch.z).g)) := fun X hX => (V.out.below hX).at k hlt
      obtain ⟨b, off, rfl, p0, p1, p2⟩ := CS.out wr R.out.2.be
      have HS := HL.out.2 _ (getC_mem hlt)
      obtain ⟨x, hx⟩ : ∃ x, x = l.getD k Ch.z := ⟨_, rfl⟩
      rw [← hx] at p0 p1 p2 HS CS
      obtain ⟨s, hsx⟩ : ∃ s, s = (l.take k).foldl Ch.put (wrHX m l.length) := ⟨_, rfl⟩
      have X : Aside (Ch.put s x = (l.take (k + 1)).foldl Ch.put (wrHX m l.length)) := by
        rw [take_one l k Ch.z hlt, ← hx, List.foldl_append, ← hsx]; rfl
      have W := R.out.2
      rw [← hsx] at W
      clear hx hsx
      have G : Aside (gk = l.length - k) := R.out.1
      clear R
      obtain ⟨xk, xv, xg⟩ := x
      simp only at p0 p1 p2 HS
      have HZ : Aside (xk.size ≤ 140737488355000 ∧ xv.size ≤ 140737488355000) := ⟨by omega, by omega⟩
      have W1 : Aside (XW w B B s wr) := W
      have hlt' : (k : Int) < (l.length : Int) := by omega
      have C2 : Aside (∀ X : World, Below w.heap.size w X → X.cell? ⟨b, off + k * 3, none⟩ = some (.string xk) ∧ X.cell? ⟨b, off + k * 3 + 1, none⟩ = some (.string xv) ∧ X.cell? ⟨b, off + k * 3 + 2, none⟩ = some (.bool xg)) := fun X hX => by
        obtain ⟨b', off', e, q⟩ := CS.out X hX
        simp only [Option.some.injEq, Addr.mk.injEq, and_true] at e
        obtain ⟨rfl, rfl⟩ := e
        exact q
      clear W HS CS
      go_wp2_with fail
      refine (W1.out.calls (fun v hv => xBool_any B B v _ xg _ hv)).mono ?_
      rintro e w2 ⟨rfl, hw⟩
      clear p0 p1 p2
      obtain ⟨p0, p1, p2⟩ := C2.out w2 hw.be
      have W2 : Aside (XW w B B _ w2) := hw
      clear hw W1
      go_wp2_with fail
      refine (W2.out.calls (fun v hv => xText_any B B v _ xk _ HZ.out.1 hv)).mono ?_
      rintro e w3 ⟨rfl, hw⟩
      clear p0 p1 p2
      obtain ⟨p0, p1, p2⟩ := C2.out w3 hw.be
      have W3 : Aside (XW w B B _ w3) := hw
      clear hw W2
      cases xg with
      | true =>
        go_wp2_with fail
        go_roundg (l.length - (k + 1))
        case measure => have := G.out; omega
        case rel => exact ⟨k + 1, by omega, rfl, by go_num, by rw [← X.out]; exact W3.out⟩
      | false =>
        go_wp2_with fail
        refine (W3.out.calls (fun v hv => xText_any B B v _ xv _ HZ.out.2 hv)).mono ?_
        rintro e w4 ⟨rfl, hw⟩
        clear p0 p1 p2
        have W4 : Aside (XW w B B _ w4) := hw
        clear hw W3
        go_wp2_with fail
        go_roundg (l.length - (k + 1))
        case measure => have := G.out; omega
        case rel => exact ⟨k + 1, by omega, rfl, by go_num, by rw [← X.out]; exact W4.out⟩
    · have W : Aside (XW w B B (wrX m l) wr) := by
        have h2 := R.out.2
        rw [List.take_of_length_le (by omega)] at h2
        exact h2
      clear R
      have hlt' : ¬ (k : Int) < (l.length : Int) := by omega
      go_wp2_with fail
      obtain ⟨u, hu⟩ := W.out.wr
      refine (xOut_any _ _ _ _ wr hu).mono ?_
      rintro e w2 ⟨v2, rfl, ho, hb⟩
      have hc := convT ho.bytes
      have A : Aside (Below w.heap.size w w2) := W.out.be.trans (hb.mono W.out.be.size)
      obtain ⟨a2, c2, rfl, _, _⟩ := ho.bytes.len
      clear ho hb hu
      have Q := wrX_out m l HL.out.1
      obtain ⟨bs, hbs⟩ : ∃ bs, bs = recB m l := ⟨_, rfl⟩
      rw [← hbs] at Q E
      clear hbs
      clear hk h2 hk1
      by_cases h1 : bs.length ≤ 1048576
      · rw [(Q.1 h1).1, (Q.1 h1).2]
        rw [(Q.1 h1).2] at hc
        obtain ⟨N, hN⟩ : ∃ N, N = bs.length := ⟨_, rfl⟩
        obtain ⟨T, hT⟩ : ∃ T, T = txt bs := ⟨_, rfl⟩
        rw [← hT] at hc
        rw [← hT] at E
        rw [← hN] at h1 hc E ⊢
        clear Q hN hT
        by_cases h2 : N ≤ 32768
        · have h3 : ¬ (N : Int) > 32768 := by omega
          have E2 : Aside (recR m l = (T, 0)) := by show _ = _; rw [E.out, if_pos h2]
          clear h1 h2
          go_wp2_with fail
          go_ret2
          rw [E2.out]
          exact ⟨rfl, A.out⟩
        · have h3 : (N : Int) > 32768 := by omega
          have E2 : Aside (recR m l = (⟨#[]⟩, 23)) := by show _ = _; rw [E.out, if_neg h2]
          clear h1 h2
          go_wp2_with fail
          go_ret2
          rw [E2.out]
          exact ⟨rfl, A.out⟩
      · rw [(Q.2 h1).1]
        have E2 : Aside (recR m l = (⟨#[]⟩, 23)) := by show _ = _; rw [E.out, if_neg (by omega)]
        clear Q h1
        go_wp2_with fail
        go_ret2
        rw [E2.out]
        exact ⟨rfl, A.out⟩
end Go.Proofs.Ytmdjicakjljmlaa
