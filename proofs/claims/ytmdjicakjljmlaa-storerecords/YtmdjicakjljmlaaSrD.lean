/-
  recorded, Record.
-/
import Derived.Test.YtmdjicakjljmlaaSrC
namespace Go.Proofs.Ytmdjicakjljmlaa
open Go.RowKit
def Ch.e1 (x : Ch) : List UInt8 := [if x.g then 1 else 0]
def Ch.e2 (x : Ch) : List UInt8 := form x.k.size ++ x.k.data.toList
def Ch.e3 (x : Ch) : List UInt8 := form x.v.size ++ x.v.data.toList
def Ch.ps (x : Ch) : List (List UInt8) := if x.g then [x.e1, x.e2] else [x.e1, x.e2, x.e3]
/-- The writer behind a change. -/
def Ch.put (s : WS) (x : Ch) : WS := x.ps.foldl WS.lay s
def wrH (n len : Nat) : WS := (((⟨[], 32768, 0⟩ : WS).lay [195]).lay (form n)).count len
/-- The writer behind a record. -/
def wrC (n : Nat) (l : List Ch) : WS := l.foldl Ch.put (wrH n l.length)
/-- The bytes of a record. -/
def recB (n : Nat) (l : List Ch) : List UInt8 := [195] ++ (form n ++ (form l.length ++ (l.flatMap Ch.ps).flatten))
theorem lays_no (fs : List (List UInt8)) (s : WS) (h : s.e = 23) : (fs.foldl WS.lay s).e = 23 := by
  induction fs generalizing s with
  | nil => exact h
  | cons f r ih =>
    refine ih _ ?_
    unfold WS.lay; rw [if_neg (by omega)]; exact h
theorem lays_all (fs : List (List UInt8)) (s : WS) (he : s.e = 0) (h : s.l.length ≤ s.lim) :
    (s.l.length + fs.flatten.length ≤ s.lim → fs.foldl WS.lay s = ⟨s.l ++ fs.flatten, s.lim, 0⟩) ∧ (¬ s.l.length + fs.flatten.length ≤ s.lim → (fs.foldl WS.lay s).e = 23) := by
  induction fs generalizing s with
  | nil =>
    obtain ⟨l, lim, e⟩ := s
    simp only at he h
    subst he
    refine ⟨fun _ => by simp, fun hn => absurd h (by simpa using hn)⟩
  | cons f r ih =>
    obtain ⟨l, lim, e⟩ := s
    simp only at he h
    subst he
    rw [List.foldl_cons, List.flatten_cons, List.length_append]
    by_cases hf : l.length + f.length ≤ lim
    · have e1 : WS.lay ⟨l, lim, 0⟩ f = ⟨l ++ f, lim, 0⟩ := by unfold WS.lay; rw [if_pos rfl, if_pos hf]
      rw [e1]
      have := ih ⟨l ++ f, lim, 0⟩ rfl (by simpa using hf)
      simp only [List.length_append, Nat.add_assoc, List.append_assoc] at this ⊢
      exact this
    · have e1 : WS.lay ⟨l, lim, 0⟩ f = ⟨l, lim, 23⟩ := by unfold WS.lay; rw [if_pos rfl, if_neg hf]
      rw [e1]
      exact ⟨fun q => absurd q (by show ¬ l.length + _ ≤ lim; omega), fun _ => lays_no r _ rfl⟩
theorem puts_eq (l : List Ch) (s : WS) : l.foldl Ch.put s = (l.flatMap Ch.ps).foldl WS.lay s := by
  induction l generalizing s with
  | nil => rfl
  | cons x r ih => rw [List.foldl_cons, ih, List.flatMap_cons, List.foldl_append]; rfl
theorem wrC_eq (n : Nat) (l : List Ch) (hl : l.length ≤ 4096) : wrC n l = ([[195], form n, form l.length] ++ l.flatMap Ch.ps).foldl WS.lay ⟨[], 32768, 0⟩ := by
  unfold wrC wrH WS.count
  rw [if_pos (by omega), puts_eq, List.foldl_append]
  rfl
theorem wrC_out (n : Nat) (l : List Ch) (hl : l.length ≤ 4096) : ((recB n l).length ≤ 32768 → (wrC n l).e = 0 ∧ (wrC n l).out = recB n l) ∧ (¬ (recB n l).length ≤ 32768 → (wrC n l).e = 23 ∧ (wrC n l).out = []) := by
  have h := lays_all ([[195], form n, form l.length] ++ l.flatMap Ch.ps) ⟨[], 32768, 0⟩ rfl (by simp)
  rw [← wrC_eq n l hl] at h
  have e : ([[195], form n, form l.length] ++ l.flatMap Ch.ps).flatten = recB n l := by
    unfold recB; simp
  rw [e] at h
  simp only [List.length_nil, Nat.zero_add, List.nil_append] at h
  refine ⟨fun q => ?_, fun q => ?_⟩
  · rw [h.1 q]; exact ⟨rfl, rfl⟩
  · have := h.2 q
    exact ⟨this, by unfold WS.out; rw [this]; rfl⟩
/-- The writer in memory, behind all that was there. -/
structure WW (w0 : World) (B g : Nat) (s : WS) (w : World) : Prop where
  wr : ∃ v, WAt B w g v s
  lo : w0.heap.size ≤ B
  be : Below w0.heap.size w0 w
/-- With a change's box beside it. -/
structure WB (w0 : World) (B g b : Nat) (s : WS) (x : Ch) (w : World) : Prop where
  wr : ∃ v, WAt B w g v s ∧ ¬ WF g v b
  bx : w.heap[b]? = some (.cells #[.string x.k, .string x.v, .bool x.g] 27 (0, 0))
  lo : w0.heap.size ≤ B
  be : Below w0.heap.size w0 w
theorem WB.ww {w0 w : World} {B g b : Nat} {s : WS} {x : Ch} (h : WB w0 B g b s x w) : WW w0 B g s w := ⟨h.wr.elim fun v q => ⟨v, q.1⟩, h.lo, h.be⟩
theorem WB.cells {w0 w : World} {B g b : Nat} {s : WS} {x : Ch} (h : WB w0 B g b s x w) : w.cell? ⟨b, 0, none⟩ = some (.string x.k) ∧ w.cell? ⟨b, 1, none⟩ = some (.string x.v) ∧ w.cell? ⟨b, 2, none⟩ = some (.bool x.g) := by
  refine ⟨?_, ?_, ?_⟩
  · rw [cell_of_row w b 0 _ _ _ h.bx]; rfl
  · rw [cell_of_row w b 1 _ _ _ h.bx]; rfl
  · rw [cell_of_row w b 2 _ _ _ h.bx]; rfl
theorem lt_of_some {w : World} {b : Nat} {o : Obj} (h : w.heap[b]? = some o) : b < w.heap.size := by
  rcases Nat.lt_or_ge b w.heap.size with q | q
  · exact q
  · rw [Array.getElem?_eq_none q] at h; simp at h
theorem WW.calls {w0 w : World} {B g : Nat} {s s' : WS} {f : Nat} {args : Array Value} {r : Ending} (h : WW w0 B g s w) (hc : ∀ v, WAt B w g v s → Calls Try.prog f args w fun e w' => e = r ∧ Laid B g v s' w w') :
    Calls Try.prog f args w fun e w' => e = r ∧ WW w0 B g s' w' := by
  obtain ⟨v, hv⟩ := h.wr
  refine (hc v hv).mono ?_
  rintro e w' ⟨rfl, hl⟩
  have hb := hl.below hv
  obtain ⟨v', h1, _, _⟩ := hl
  exact ⟨rfl, ⟨v', h1⟩, h.lo, h.be.trans (hb.mono h.lo)⟩
theorem WB.calls {w0 w : World} {B g b : Nat} {s s' : WS} {x : Ch} {f : Nat} {args : Array Value} {r : Ending} (h : WB w0 B g b s x w) (hc : ∀ v, WAt B w g v s → Calls Try.prog f args w fun e w' => e = r ∧ Laid B g v s' w w') :
    Calls Try.prog f args w fun e w' => e = r ∧ WB w0 B g b s' x w' := by
  obtain ⟨v, hv, hn⟩ := h.wr
  refine (hc v hv).mono ?_
  rintro e w' ⟨rfl, hl⟩
  have hb := hl.below hv
  obtain ⟨v', h1, h2, h3⟩ := hl
  have hlt := lt_of_some h.bx
  refine ⟨rfl, ⟨v', h1, ?_⟩, ?_, h.lo, h.be.trans (hb.mono h.lo)⟩
  · rintro (q | q)
    · exact hn (Or.inl q)
    · rcases h3 b q with p | p
      · exact hn (Or.inr p)
      · omega
  · rw [h2.block b hlt hn]; exact h.bx
theorem WW.box {w0 w : World} {B g : Nat} {s : WS} (h : WW w0 B g s w) (x : Ch) : WB w0 B g w.heap.size s x (w.alloc (.cells #[.string x.k, .string x.v, .bool x.g] 27)) := by
  obtain ⟨v, hv⟩ := h.wr
  have hb : Below w.heap.size w (w.alloc (.cells #[.string x.k, .string x.v, .bool x.g] 27)) := (Below.refl _ _).alloc (Nat.le_refl _) _
  refine ⟨⟨v, hv.below hb, fun q => ?_⟩, ?_, h.lo, h.be.trans (hb.mono h.be.size)⟩
  · have := (hv.foot _ q).2; omega
  · rw [heap_alloc_new]
/-- What recorded tells. -/
def rcR (n : Nat) (l : List Ch) : ByteArray × Nat := if stB l = true then (if shB l = true then (txt (wrC n l).out, (wrC n l).e) else (⟨#[]⟩, 23)) else (⟨#[]⟩, 1)
theorem c195 : (195 : Int) = c8 195 := rfl
set_option maxHeartbeats 4000000 in
set_option maxRecDepth 100000 in
theorem recorded_any (v : Value) (n : Nat) (l : List Ch) (w : World) (hv : Chs w v l) (hz : SzC l) (hn : n ≤ 1152921504606846976) :
    Calls Try.prog 11 #[.int .i64 n, v] w fun e w' => e = .returned (.tuple #[.string (rcR n l).1, .int .i64 (rcR n l).2]) ∧ Below w.heap.size w w' := by
  have V : Aside (Chs w v l ∧ SzC l) := ⟨hv, hz⟩
  obtain ⟨a, cap, rfl, hlc, hcm⟩ := hv.len
  unfold maxLen at hcm
  clear hv hz
  go_enter Try.func11, Try.ntmps11
  go_wp2_with fail
  refine (stands_any _ l w V.out.1 V.out.2).mono ?_
  rintro e w1 ⟨rfl, hb⟩
  have B1 : Aside (Below w.heap.size w w1) := hb
  clear hb
  cases hs : stB l with
  | false =>
    have E : Aside (rcR n l = (⟨#[]⟩, 1)) := by show _ = _; unfold rcR; rw [hs]; rfl
    clear hs
    go_wp2_with fail
    go_ret2
    rw [E.out]
    exact ⟨rfl, B1.out⟩
  | true =>
  go_wp2_with fail
  refine (short_any _ l w1 (V.out.1.below B1.out)).mono ?_
  rintro e w2 ⟨rfl, hb⟩
  have B2 : Aside (Below w.heap.size w w2) := B1.out.trans (hb.mono B1.out.size)
  clear hb B1
  cases hh : shB l with
  | false =>
    have E : Aside (rcR n l = (⟨#[]⟩, 23)) := by show _ = _; unfold rcR; rw [hs, hh]; rfl
    clear hs hh
    go_wp2_with fail
    go_ret2
    rw [E.out]
    exact ⟨rfl, B2.out⟩
  | true =>
  have E : Aside (rcR n l = (txt (wrC n l).out, (wrC n l).e)) := by show _ = _; unfold rcR; rw [hs, hh]; rfl
  have HL : Aside (l.length ≤ 4096 ∧ ∀ x ∈ l, x.k.size ≤ 120 ∧ x.v.size ≤ 8192) := by
    unfold shB at hh
    rw [Bool.and_eq_true, decide_eq_true_iff, List.all_eq_true] at hh
    refine ⟨hh.2, fun x hx => ?_⟩
    have := hh.1 x hx
    unfold Ch.shB at this
    rw [Bool.and_eq_true, decide_eq_true_iff, decide_eq_true_iff] at this
    exact this
  clear hs hh
  go_wp2_with fail
  refine (newWriter_any 32768 w2).mono ?_
  rintro e w3 ⟨rfl, hw, _, hb⟩
  obtain ⟨B, hB⟩ : ∃ B, B = w2.heap.size := ⟨_, rfl⟩
  rw [← hB] at hw ⊢
  have W3 : Aside (WW w B B ⟨[], 32768, 0⟩ w3) := ⟨⟨_, hw⟩, by rw [hB]; exact B2.out.size, B2.out.trans (hb.mono B2.out.size)⟩
  clear hw hb hB B2
  go_wp2_with fail
  refine (W3.out.calls (fun v hv => wByte_eq (n := 195) (c := 195) rfl B B v _ w3 hv)).mono ?_
  rintro e w4 ⟨rfl, hw⟩
  have W4 : Aside (WW w B B _ w4) := hw
  clear hw W3
  go_wp2_with fail
  refine (W4.out.calls (fun v hv => wUint_any B B v _ n w4 (by omega) hv)).mono ?_
  rintro e w5 ⟨rfl, hw⟩
  have W5 : Aside (WW w B B _ w5) := hw
  clear hw W4
  go_wp2_with fail
  refine (W5.out.calls (fun v hv => wCount_any B B v _ (l.length : Int) w5 hv)).mono ?_
  rintro e w6 ⟨rfl, hw⟩
  have W6 : Aside (WW w B B (wrH n l.length) w6) := hw
  clear hw W5
  go_wp2_with fail
  go_loopg [30] l.length (fun g si wr => ∃ (k : Nat), k ≤ l.length ∧ g = l.length - k ∧ si = .int .i64 k ∧ WW w B B ((l.take k).foldl Ch.put (wrH n l.length)) wr)
  case atStart => exact ⟨0, Nat.zero_le _, rfl, rfl, W6.out⟩
  case round =>
    clear W6
    obtain ⟨k, hk, hg, rfl, hw⟩ := hrel
    have R : Aside (gk = l.length - k ∧ WW w B B ((l.take k).foldl Ch.put (wrH n l.length)) wr) := ⟨hg, hw⟩
    clear hg hw
    by_cases hlt : k < l.length
    · obtain ⟨b, off, rfl, p0, p1, p2⟩ := (V.out.1.below R.out.2.be).at k hlt
      have HS := HL.out.2 _ (getC_mem hlt)
      obtain ⟨x, hx⟩ : ∃ x, x = l.getD k Ch.z := ⟨_, rfl⟩
      rw [← hx] at p0 p1 p2 HS
      obtain ⟨s, hsx⟩ : ∃ s, s = (l.take k).foldl Ch.put (wrH n l.length) := ⟨_, rfl⟩
      have X : Aside (Ch.put s x = (l.take (k + 1)).foldl Ch.put (wrH n l.length)) := by
        rw [take_one l k Ch.z hlt, ← hx, List.foldl_append, ← hsx]; rfl
      have W := R.out.2
      rw [← hsx] at W
      clear hx hsx
      have G : Aside (gk = l.length - k) := R.out.1
      clear R
      have W0 := W.box x
      obtain ⟨xk, xv, xg⟩ := x
      simp only at p0 p1 p2 HS W0
      obtain ⟨c0, c1, c2⟩ := W0.cells
      have W1 : Aside (WB w B B wr.heap.size s ⟨xk, xv, xg⟩ (wr.alloc (.cells #[.string xk, .string xv, .bool xg] 27))) := W0
      have HZ : Aside (xk.size ≤ 140737488355328 ∧ xv.size ≤ 140737488355328) := ⟨by omega, by omega⟩
      obtain ⟨bb, hbb⟩ : ∃ bb, bb = wr.heap.size := ⟨_, rfl⟩
      have hlt' : (k : Int) < (l.length : Int) := by omega
      clear W W0 HS
      go_wp2_with fail
      refine (W1.out.calls (fun v hv => wBool_any B B v _ xg _ hv)).mono ?_
      rintro e w2 ⟨rfl, hw⟩
      clear c0 c1 c2 p0 p1 p2
      obtain ⟨c0, c1, c2⟩ := hw.cells
      have W2 : Aside (WB w B B wr.heap.size _ ⟨xk, xv, xg⟩ w2) := hw
      clear hw W1
      go_wp2_with fail
      refine (W2.out.calls (fun v hv => wText_any B B v _ xk _ HZ.out.1 hv)).mono ?_
      rintro e w3 ⟨rfl, hw⟩
      clear c0 c1 c2
      obtain ⟨c0, c1, c2⟩ := hw.cells
      have W3 : Aside (WB w B B wr.heap.size _ ⟨xk, xv, xg⟩ w3) := hw
      clear hw W2
      cases xg with
      | true =>
        go_wp2_with fail
        go_roundg (l.length - (k + 1))
        case measure => have := G.out; omega
        case rel => exact ⟨k + 1, by omega, rfl, by go_num, by rw [← X.out]; exact W3.out.ww⟩
      | false =>
        go_wp2_with fail
        refine (W3.out.calls (fun v hv => wText_any B B v _ xv _ HZ.out.2 hv)).mono ?_
        rintro e w4 ⟨rfl, hw⟩
        clear c0 c1 c2
        have W4 : Aside (WB w B B wr.heap.size _ ⟨xk, xv, false⟩ w4) := hw
        clear hw W3
        go_wp2_with fail
        go_roundg (l.length - (k + 1))
        case measure => have := G.out; omega
        case rel => exact ⟨k + 1, by omega, rfl, by go_num, by rw [← X.out]; exact W4.out.ww⟩
    · have W : Aside (WW w B B (wrC n l) wr) := by
        have h2 := R.out.2
        rw [List.take_of_length_le (by omega)] at h2
        exact h2
      clear R
      go_wp2_with fail
      obtain ⟨u, hu⟩ := W.out.wr
      refine (wOut_any _ _ _ _ wr hu).mono ?_
      rintro e w2 ⟨v2, rfl, ho, hb⟩
      have hc := convT ho.bytes
      have A : Aside (Below w.heap.size w w2) := W.out.be.trans (hb.mono W.out.be.size)
      clear ho hb hu
      go_wp2_with fail
      go_ret2
      rw [E.out]
      exact ⟨rfl, A.out⟩
/-- What Record tells. -/
def recR (v : Int) (l : List Ch) : ByteArray × Nat := if 1 ≤ v ∧ v ≤ 1152921504606846976 then rcR v.toNat l else (⟨#[]⟩, 1)
set_option maxHeartbeats 4000000 in
theorem record_any (v : Value) (n : Int) (l : List Ch) (w : World) (hv : Chs w v l) (hz : SzC l) :
    Calls Try.prog 5 #[.int .i64 n, v] w fun e w' => e = .returned (.tuple #[.string (recR n l).1, .int .i64 (recR n l).2]) ∧ Below w.heap.size w w' := by
  have V : Aside (Chs w v l ∧ SzC l) := ⟨hv, hz⟩
  obtain ⟨a, cap, rfl, hlc, hcm⟩ := hv.len
  clear hv hz
  go_enter Try.func5, Try.ntmps5
  by_cases h1 : n < 1
  · have E : Aside (recR n l = (⟨#[]⟩, 1)) := by show _ = _; unfold recR; rw [if_neg (by omega)]
    go_wp2_with fail
    go_ret2
    rw [E.out]
    exact ⟨rfl, Below.refl _ _⟩
  by_cases h2 : n > 1152921504606846976
  · have E : Aside (recR n l = (⟨#[]⟩, 1)) := by show _ = _; unfold recR; rw [if_neg (by omega)]
    go_wp2_with fail
    go_ret2
    rw [E.out]
    exact ⟨rfl, Below.refl _ _⟩
  obtain ⟨k, rfl⟩ : ∃ k : Nat, n = k := ⟨n.toNat, by omega⟩
  have E : Aside (recR k l = rcR k l) := by show _ = _; unfold recR; rw [if_pos (by omega)]; rfl
  have hk : k ≤ 1152921504606846976 := by omega
  go_wp2_with fail
  refine (recorded_any _ k l w V.out.1 V.out.2 hk).mono ?_
  rintro e w1 ⟨rfl, hb⟩
  have B1 : Aside (Below w.heap.size w w1) := hb
  rw [← E.out]
  clear hb
  go_wp2_with fail
  go_ret2
  exact ⟨rfl, B1.out⟩
end Go.Proofs.Ytmdjicakjljmlaa
