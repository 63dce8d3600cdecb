/-
  The law's asks: a step that only tells, on both.
-/
import Derived.Test.YtojemioophlplaaSdB
import Derived.Deep.RegionHeld3
namespace Go.Proofs.Ytojemioophlplaa
open Go.RowKit Go.Maps
namespace Rf
variable {B : Nat} {w0 w w' W W' : World} {p d mb mp : Nat} {cv cv' : Value} {x : Nat} {bv lv kv bv' lv' kv' : Value} {s s' : DS} {r r' : RD} {F : Nat → Prop} {oc : Array Value} {n : Nat}
/-- A side, the same on both, at step n. -/
structure Sd (w0 w : World) (p : Nat) (F : Nat → Prop) (n : Nat) : Prop where
  ex : ∃ (d mb mp : Nat) (cv : Value) (x : Nat) (bv lv kv : Value) (s : DS) (r : RD), Mem w0.heap.size w p d mb mp cv x bv lv kv s r ∧ Rel s r ∧ s.ws ≤ n ∧ r.laid.length + r.cache.length ≤ n ∧ ∀ k, F k ↔ SFoot p d mb mp cv x lv kv k
  bel : Below w0.heap.size w0 w
/-- What a step leaves. -/
def SdP (w0 w : World) (p : Nat) (F : Nat → Prop) (n : Nat) (w' : World) : Prop := ∃ F', Sd w0 w' p F' (n + 1) ∧ Kept F w w' ∧ ∀ k, F' k → F k ∨ w.heap.size ≤ k
def SdQ (w0 w : World) (p : Nat) (F : Nat → Prop) (n : Nat) (e : Ending) (w' : World) : Prop := e = .returned (.bool true) ∧ SdP w0 w p F n w'
theorem Ph.fin (H : PH w0 w F oc p d mb mp x bv W cv lv kv s r) (hr : Rel s r) (h1 : s.ws ≤ n + 1) (h2 : r.laid.length + r.cache.length ≤ n + 1) : SdP w0 w p F n W :=
  ⟨_, ⟨⟨d, mb, mp, cv, x, bv, lv, kv, s, r, H.mem, hr, h1, h2, fun _ => Iff.rfl⟩, H.bel⟩, H.kept, H.foot⟩
theorem Ph.start (hm : Mem w0.heap.size w p d mb mp cv x bv lv kv s r) (hF : ∀ k, F k ↔ SFoot p d mb mp cv x lv kv k) (hb : Below w0.heap.size w0 w) : PH w0 w F oc p d mb mp x bv (w.alloc (.cells oc 33)) cv lv kv s r := by
  have hA : Below w.heap.size w (w.alloc (.cells oc 33)) := (Below.refl _ _).alloc (Nat.le_refl _) _
  exact ⟨hm.below hA, Below.kept hA _, fun k e => .inl ((hF k).2 e), by rw [heap_alloc_new], hb.trans (hA.mono hb.size)⟩
theorem read_keeps (s : DS) (i : Int) : (rdD s i).1.ws = s.ws ∧ ((rdD s i).2.2 ≠ 0 → (rdD s i).2.1 = []) := by
  unfold rdD
  split
  · exact ⟨rfl, fun _ => rfl⟩
  · split
    · exact ⟨rfl, fun _ => rfl⟩
    · exact ⟨rfl, fun e => absurd rfl e⟩
theorem raw_keeps (s : DS) (i : Int) : (rawD s i).2 ≠ 0 → (rawD s i).1 = [] := by
  unfold rawD
  split
  · exact fun _ => rfl
  · exact fun e => absurd rfl e
theorem rread_keeps (r : RD) (i : Int) : (rrd r i).1.laid = r.laid ∧ (rrd r i).1.cache = r.cache := by
  unfold rrd
  split
  · exact ⟨rfl, rfl⟩
  · split <;> exact ⟨rfl, rfl⟩
theorem same_yes (v v' : Value) (l : List UInt8) (w : World) (hv : Bytes w v l) (hv' : Bytes w v' l) :
    Calls Try.prog 12 #[v, v'] w fun e w' => e = .returned (.bool true) ∧ w' = w := by
  refine (same_any v v' l l w hv hv').mono ?_
  rintro e w' ⟨rfl, rfl⟩
  exact ⟨by rw [decide_eq_true rfl], rfl⟩
set_option maxHeartbeats 8000000 in
set_option maxRecDepth 100000 in
theorem asks_any (o : OpD) (w0 w : World) (p : Nat) (F : Nat → Prop) (n : Nat) (H : Sd w0 w p F n) (hn : n ≤ 1100000) :
    Calls Try.prog 25 #[.pointer (some ⟨p, 0, none⟩), .agg o.cells.toArray] w (SdQ w0 w p F n) := by
  obtain ⟨⟨d, mb, mp, cv, x, bv, lv, kv, s, r, hm, hr, hw, hl, hF⟩, hb⟩ := H
  obtain ⟨C, hC⟩ : ∃ C, C = o.cells.toArray := ⟨_, rfl⟩
  rw [← hC]
  obtain ⟨X, hX⟩ : ∃ X, X = w.alloc (.cells C 33) := ⟨_, rfl⟩
  have PX : Hid (PH w0 w F C p d mb mp x bv X cv lv kv s r) := Lib.hid (by rw [hX]; exact Ph.start hm hF hb)
  have PD : Hid (PH w0 w F C p d mb mp x bv X.drew cv lv kv s r) := Lib.hid (PX.out.below (Below.refl _ _).drew)
  have RR := Lib.hid hr
  have NN : Hid (s.ws ≤ n ∧ r.laid.length + r.cache.length ≤ n ∧ n ≤ 1100000) := Lib.hid ⟨hw, hl, hn⟩
  obtain ⟨g, hg⟩ : ∃ g, g = w.heap.size := ⟨_, rfl⟩
  have CF : Hid (∀ W cv lv kv s r, PH w0 w F C p d mb mp x bv W cv lv kv s r → W.cell? ⟨p, 0, none⟩ = some (.pointer (some ⟨d, 0, none⟩)) ∧ W.cell? ⟨p, 1, none⟩ = some (.pointer (some ⟨x, 0, none⟩)) ∧ W.cell? ⟨g, 2, none⟩ = some (.int .i64 o.blk) ∧ W.drew.cell? ⟨p, 0, none⟩ = some (.pointer (some ⟨d, 0, none⟩)) ∧ W.drew.cell? ⟨p, 1, none⟩ = some (.pointer (some ⟨x, 0, none⟩)) ∧ W.drew.cell? ⟨g, 2, none⟩ = some (.int .i64 o.blk)) := Lib.hid (fun W cv lv kv s r h => by
    have hd := Ph.below h (Below.refl W.heap.size W).drew
    have e1 := Ph.op h 2
    have e2 := Ph.op hd 2
    rw [hC] at e1 e2
    rw [hg]
    exact ⟨(Ph.cells h).1, (Ph.cells h).2, e1, (Ph.cells hd).1, (Ph.cells hd).2, e2⟩)
  have c1 : X.cell? ⟨g, 1, none⟩ = some (.int .i64 o.kind) := by
    have e := Ph.op PX.out 1
    rw [hC] at e
    rw [hg]
    exact e
  obtain ⟨a0, a1, a2, b0, b1, b2⟩ := CF.out _ _ _ _ _ _ PX.out
  have hX' := hX.symm
  have hg' := hg.symm
  obtain ⟨kind, hkind⟩ : ∃ k, k = o.kind := ⟨_, rfl⟩
  obtain ⟨blk, hblk⟩ : ∃ k, k = o.blk := ⟨_, rfl⟩
  rw [← hkind] at c1
  rw [← hblk] at CF a2 b2
  clear hm hr hw hl hF hb hn hC hX hg hkind hblk
  by_cases hk : kind = 1
  · as_aux_lemma =>
    subst hk
    have KE := Lib.hid (read_keeps s blk)
    obtain ⟨l, hl⟩ : ∃ l, l = (rdD s blk).2.1 := ⟨_, rfl⟩
    obtain ⟨c, hc⟩ : ∃ c, c = (rdD s blk).2.2 := ⟨_, rfl⟩
    have LC : Hid (c ≠ 0 → l = []) := Lib.hid (by rw [hl, hc]; exact (read_keeps s blk).2)
    have CP : Hid (∀ W, PH w0 w F C p d mb mp x bv W cv lv kv s r → Calls Try.prog 34 #[.pointer (some ⟨d, 0, none⟩), .int .i64 blk] W fun e w' => ∃ aa ca, e = .returned (.tuple #[.slice aa l.length ca, .int .i64 c]) ∧ Own W.heap.size w' (.slice aa l.length ca) l ∧ PH w0 w F C p d mb mp x bv w' cv lv kv (rdD s blk).1 r) := Lib.hid (fun W h => by
      refine (ph_read h blk).mono ?_
      rintro e w1 ⟨v1, rfl, ho1, hp1, hk1⟩
      obtain ⟨aa, ca, rfl⟩ := own_slice ho1
      rw [← hc]
      rw [← hl] at ho1 ⊢
      exact ⟨aa, ca, rfl, ho1, hp1⟩)
    have CR : Hid (∀ W, PH w0 w F C p d mb mp x bv W cv lv kv (rdD s blk).1 r → Calls Try.prog 35 #[.pointer (some ⟨x, 0, none⟩), .int .i64 blk] W fun e w' => ∃ aa ca, e = .returned (.tuple #[.slice aa l.length ca, .int .i64 c]) ∧ Own W.heap.size w' (.slice aa l.length ca) l ∧ SdP w0 w p F n w' ∧ RK W w' ∧ (w'.cell? ⟨p, 0, none⟩ = some (.pointer (some ⟨d, 0, none⟩)) ∧ w'.cell? ⟨p, 1, none⟩ = some (.pointer (some ⟨x, 0, none⟩)) ∧ w'.cell? ⟨g, 2, none⟩ = some (.int .i64 blk))) := Lib.hid (fun W h => by
      refine (ph_rread h blk).mono ?_
      rintro e w1 ⟨v1, rfl, ho1, ⟨lv', kv', hp1⟩, hk1⟩
      obtain ⟨aa, ca, rfl⟩ := own_slice ho1
      have SS := read_same RR.out blk
      rw [SS.1] at ho1 ⊢
      rw [← hc]
      rw [← hl] at ho1 ⊢
      have cc := CF.out _ _ _ _ _ _ hp1
      exact ⟨aa, ca, rfl, ho1, Ph.fin hp1 SS.2 (by rw [(read_keeps s blk).1]; have := NN.out; omega) (by rw [(rread_keeps r blk).1, (rread_keeps r blk).2]; have := NN.out; omega), hk1, cc.1, cc.2.1, cc.2.2.1⟩)
    obtain ⟨m, hm⟩ : ∃ m, m = l.length := ⟨_, rfl⟩
    rw [← hm] at CP CR
    have LM : Hid (c ≠ 0 → m = 0) := Lib.hid (fun e => by rw [hm, LC.out e]; rfl)
    clear hl hc hm KE
    by_cases c0 : c = 0
    · subst c0
      go_enter Try.func25, Try.ntmps25
      go_wp2_with fail
      go_region_held3 (fun W : World => W.cell? ⟨p, 0, none⟩ = some (.pointer (some ⟨d, 0, none⟩)) ∧ W.cell? ⟨p, 1, none⟩ = some (.pointer (some ⟨x, 0, none⟩)) ∧ W.cell? ⟨g, 2, none⟩ = some (.int .i64 blk)) (first | exact ⟨by assumption, by assumption, by assumption⟩ | go_keep) (first
        | (go_at_call 34
           refine (CP.out _ (by first | exact PX.out | exact PD.out)).mono ?_
           rintro e w1 ⟨aa, ca, rfl, ho1, hp1⟩
           have P1 := Lib.hid (And.intro hp1 ho1)
           obtain ⟨x0, x1, x2, y0, y1, y2⟩ := CF.out _ _ _ _ _ _ hp1
           clear ho1 hp1))
      all_goals
        go_wp2_with fail
        go_region_held3 (fun W : World => W.cell? ⟨p, 0, none⟩ = some (.pointer (some ⟨d, 0, none⟩)) ∧ W.cell? ⟨p, 1, none⟩ = some (.pointer (some ⟨x, 0, none⟩)) ∧ W.cell? ⟨g, 2, none⟩ = some (.int .i64 blk)) (first | exact ⟨by assumption, by assumption, by assumption⟩ | go_keep) (first
          | (go_at_call 35
             refine (CR.out _ (by first | exact P1.out.1 | exact Ph.below P1.out.1 (Below.refl _ _).drew)).mono ?_
             rintro e w2 ⟨ab, cb, rfl, ho2, hs2, hk2, z0, z1, z2⟩
             have P2 := Lib.hid (And.intro hs2 (And.intro ho2 (hk2.own (by first | exact P1.out.2 | exact P1.out.2.below (Below.refl _ _).drew))))
             clear ho2 hs2 hk2))
        all_goals
          have SY := Lib.hid (same_yes _ _ l w2 P2.out.2.2.bytes P2.out.2.1.bytes)
          go_wp2_with fail
          refine SY.out.mono ?_
          rintro e w3 ⟨rfl, rfl⟩
          go_wp2_with fail
          go_ret
          exact ⟨rfl, P2.out.1⟩
    · have cz : (c == 0) = false := by rw [beq_eq_false_iff_ne]; exact c0
      have cc : (c == c) = true := beq_self_eq_true _
      obtain rfl : m = 0 := LM.out c0
      clear c0
      go_enter Try.func25, Try.ntmps25
      go_wp2_with fail
      go_region_held3 (fun W : World => W.cell? ⟨p, 0, none⟩ = some (.pointer (some ⟨d, 0, none⟩)) ∧ W.cell? ⟨p, 1, none⟩ = some (.pointer (some ⟨x, 0, none⟩)) ∧ W.cell? ⟨g, 2, none⟩ = some (.int .i64 blk)) (first | exact ⟨by assumption, by assumption, by assumption⟩ | go_keep) (first
        | (go_at_call 34
           refine (CP.out _ (by first | exact PX.out | exact PD.out)).mono ?_
           rintro e w1 ⟨aa, ca, rfl, ho1, hp1⟩
           have P1 := Lib.hid (And.intro hp1 ho1)
           obtain ⟨x0, x1, x2, y0, y1, y2⟩ := CF.out _ _ _ _ _ _ hp1
           clear ho1 hp1))
      all_goals
        go_wp2_with fail
        go_region_held3 (fun W : World => W.cell? ⟨p, 0, none⟩ = some (.pointer (some ⟨d, 0, none⟩)) ∧ W.cell? ⟨p, 1, none⟩ = some (.pointer (some ⟨x, 0, none⟩)) ∧ W.cell? ⟨g, 2, none⟩ = some (.int .i64 blk)) (first | exact ⟨by assumption, by assumption, by assumption⟩ | go_keep) (first
          | (go_at_call 35
             refine (CR.out _ (by first | exact P1.out.1 | exact Ph.below P1.out.1 (Below.refl _ _).drew)).mono ?_
             rintro e w2 ⟨ab, cb, rfl, ho2, hs2, hk2, z0, z1, z2⟩
             have P2 := Lib.hid (And.intro hs2 (And.intro ho2 (hk2.own (by first | exact P1.out.2 | exact P1.out.2.below (Below.refl _ _).drew))))
             clear ho2 hs2 hk2))
        all_goals
          have SY := Lib.hid (same_yes _ _ l w2 P2.out.2.2.bytes P2.out.2.1.bytes)
          go_wp2_with fail
          refine SY.out.mono ?_
          rintro e w3 ⟨rfl, rfl⟩
          go_wp2_with fail
          go_ret
          exact ⟨rfl, P2.out.1⟩
  by_cases hk2 : kind = 2
  · as_aux_lemma =>
    have hk := hk2
    clear hk2
    subst hk
    have KE := Lib.hid (raw_keeps s blk)
    obtain ⟨l, hl⟩ : ∃ l, l = (rawD s blk).1 := ⟨_, rfl⟩
    obtain ⟨c, hc⟩ : ∃ c, c = (rawD s blk).2 := ⟨_, rfl⟩
    have LC : Hid (c ≠ 0 → l = []) := Lib.hid (by rw [hl, hc]; exact raw_keeps s blk)
    have CP : Hid (∀ W, PH w0 w F C p d mb mp x bv W cv lv kv s r → Calls Try.prog 36 #[.pointer (some ⟨d, 0, none⟩), .int .i64 blk] W fun e w' => ∃ aa ca, e = .returned (.tuple #[.slice aa l.length ca, .int .i64 c]) ∧ Own W.heap.size w' (.slice aa l.length ca) l ∧ PH w0 w F C p d mb mp x bv w' cv lv kv s r) := Lib.hid (fun W h => by
      refine (ph_raw h blk).mono ?_
      rintro e w1 ⟨v1, rfl, ho1, hp1, hk1⟩
      obtain ⟨aa, ca, rfl⟩ := own_slice ho1
      rw [← hc]
      rw [← hl] at ho1 ⊢
      exact ⟨aa, ca, rfl, ho1, hp1⟩)
    have CR : Hid (∀ W, PH w0 w F C p d mb mp x bv W cv lv kv s r → Calls Try.prog 37 #[.pointer (some ⟨x, 0, none⟩), .int .i64 blk] W fun e w' => ∃ aa ca, e = .returned (.tuple #[.slice aa l.length ca, .int .i64 c]) ∧ Own W.heap.size w' (.slice aa l.length ca) l ∧ SdP w0 w p F n w' ∧ RK W w' ∧ (w'.cell? ⟨p, 0, none⟩ = some (.pointer (some ⟨d, 0, none⟩)) ∧ w'.cell? ⟨p, 1, none⟩ = some (.pointer (some ⟨x, 0, none⟩)) ∧ w'.cell? ⟨g, 2, none⟩ = some (.int .i64 blk))) := Lib.hid (fun W h => by
      refine (ph_rraw h blk).mono ?_
      rintro e w1 ⟨v1, rfl, ho1, hp1, hk1⟩
      obtain ⟨aa, ca, rfl⟩ := own_slice ho1
      have SS := (And.intro (raw_same RR.out blk) RR.out)
      rw [SS.1] at ho1 ⊢
      rw [← hc]
      rw [← hl] at ho1 ⊢
      have cc := CF.out _ _ _ _ _ _ hp1
      exact ⟨aa, ca, rfl, ho1, Ph.fin hp1 SS.2 (by have := NN.out; omega) (by have := NN.out; omega), hk1, cc.1, cc.2.1, cc.2.2.1⟩)
    obtain ⟨m, hm⟩ : ∃ m, m = l.length := ⟨_, rfl⟩
    rw [← hm] at CP CR
    have LM : Hid (c ≠ 0 → m = 0) := Lib.hid (fun e => by rw [hm, LC.out e]; rfl)
    clear hl hc hm KE
    by_cases c0 : c = 0
    · subst c0
      go_enter Try.func25, Try.ntmps25
      go_wp2_with fail
      go_region_held3 (fun W : World => W.cell? ⟨p, 0, none⟩ = some (.pointer (some ⟨d, 0, none⟩)) ∧ W.cell? ⟨p, 1, none⟩ = some (.pointer (some ⟨x, 0, none⟩)) ∧ W.cell? ⟨g, 2, none⟩ = some (.int .i64 blk)) (first | exact ⟨by assumption, by assumption, by assumption⟩ | go_keep) (first
        | (go_at_call 36
           refine (CP.out _ (by first | exact PX.out | exact PD.out)).mono ?_
           rintro e w1 ⟨aa, ca, rfl, ho1, hp1⟩
           have P1 := Lib.hid (And.intro hp1 ho1)
           obtain ⟨x0, x1, x2, y0, y1, y2⟩ := CF.out _ _ _ _ _ _ hp1
           clear ho1 hp1))
      all_goals
        go_wp2_with fail
        go_region_held3 (fun W : World => W.cell? ⟨p, 0, none⟩ = some (.pointer (some ⟨d, 0, none⟩)) ∧ W.cell? ⟨p, 1, none⟩ = some (.pointer (some ⟨x, 0, none⟩)) ∧ W.cell? ⟨g, 2, none⟩ = some (.int .i64 blk)) (first | exact ⟨by assumption, by assumption, by assumption⟩ | go_keep) (first
          | (go_at_call 37
             refine (CR.out _ (by first | exact P1.out.1 | exact Ph.below P1.out.1 (Below.refl _ _).drew)).mono ?_
             rintro e w2 ⟨ab, cb, rfl, ho2, hs2, hk2, z0, z1, z2⟩
             have P2 := Lib.hid (And.intro hs2 (And.intro ho2 (hk2.own (by first | exact P1.out.2 | exact P1.out.2.below (Below.refl _ _).drew))))
             clear ho2 hs2 hk2))
        all_goals
          have SY := Lib.hid (same_yes _ _ l w2 P2.out.2.2.bytes P2.out.2.1.bytes)
          go_wp2_with fail
          refine SY.out.mono ?_
          rintro e w3 ⟨rfl, rfl⟩
          go_wp2_with fail
          go_ret
          exact ⟨rfl, P2.out.1⟩
    · have cz : (c == 0) = false := by rw [beq_eq_false_iff_ne]; exact c0
      have cc : (c == c) = true := beq_self_eq_true _
      obtain rfl : m = 0 := LM.out c0
      clear c0
      go_enter Try.func25, Try.ntmps25
      go_wp2_with fail
      go_region_held3 (fun W : World => W.cell? ⟨p, 0, none⟩ = some (.pointer (some ⟨d, 0, none⟩)) ∧ W.cell? ⟨p, 1, none⟩ = some (.pointer (some ⟨x, 0, none⟩)) ∧ W.cell? ⟨g, 2, none⟩ = some (.int .i64 blk)) (first | exact ⟨by assumption, by assumption, by assumption⟩ | go_keep) (first
        | (go_at_call 36
           refine (CP.out _ (by first | exact PX.out | exact PD.out)).mono ?_
           rintro e w1 ⟨aa, ca, rfl, ho1, hp1⟩
           have P1 := Lib.hid (And.intro hp1 ho1)
           obtain ⟨x0, x1, x2, y0, y1, y2⟩ := CF.out _ _ _ _ _ _ hp1
           clear ho1 hp1))
      all_goals
        go_wp2_with fail
        go_region_held3 (fun W : World => W.cell? ⟨p, 0, none⟩ = some (.pointer (some ⟨d, 0, none⟩)) ∧ W.cell? ⟨p, 1, none⟩ = some (.pointer (some ⟨x, 0, none⟩)) ∧ W.cell? ⟨g, 2, none⟩ = some (.int .i64 blk)) (first | exact ⟨by assumption, by assumption, by assumption⟩ | go_keep) (first
          | (go_at_call 37
             refine (CR.out _ (by first | exact P1.out.1 | exact Ph.below P1.out.1 (Below.refl _ _).drew)).mono ?_
             rintro e w2 ⟨ab, cb, rfl, ho2, hs2, hk2, z0, z1, z2⟩
             have P2 := Lib.hid (And.intro hs2 (And.intro ho2 (hk2.own (by first | exact P1.out.2 | exact P1.out.2.below (Below.refl _ _).drew))))
             clear ho2 hs2 hk2))
        all_goals
          have SY := Lib.hid (same_yes _ _ l w2 P2.out.2.2.bytes P2.out.2.1.bytes)
          go_wp2_with fail
          refine SY.out.mono ?_
          rintro e w3 ⟨rfl, rfl⟩
          go_wp2_with fail
          go_ret
          exact ⟨rfl, P2.out.1⟩
  by_cases hk5 : kind = 5
  · as_aux_lemma =>
    have hk := hk5
    clear hk5
    subst hk
    have EQ := Lib.hid (pend_same RR.out)
    go_enter Try.func25, Try.ntmps25
    go_wp2_with fail
    go_region_held3 (fun W : World => W.cell? ⟨p, 0, none⟩ = some (.pointer (some ⟨d, 0, none⟩)) ∧ W.cell? ⟨p, 1, none⟩ = some (.pointer (some ⟨x, 0, none⟩)) ∧ W.cell? ⟨g, 2, none⟩ = some (.int .i64 blk)) (first | exact ⟨by assumption, by assumption, by assumption⟩ | go_keep) (first
      | (go_at_call 39
         refine (ph_pend (by first | exact PX.out | exact PD.out) (by have := NN.out; omega)).mono ?_
         rintro e w1 ⟨v1, rfl, ho1, hp1, hk1⟩
         have P1 := Lib.hid (And.intro hp1 ho1)
         obtain ⟨x0, x1, x2, y0, y1, y2⟩ := CF.out _ _ _ _ _ _ hp1
         clear ho1 hp1 hk1)
      | (go_at_call 40
         refine (ph_rpend (by first | exact P1.out.1 | exact Ph.below P1.out.1 (Below.refl _ _).drew) (by have := NN.out; omega)).mono ?_
         rintro e w2 ⟨v2, rfl, ho2, hp2, hk2⟩
         rw [EQ.out] at ho2
         have P2 := Lib.hid (And.intro hp2 (And.intro ho2 (hk2.ints (by first | exact P1.out.2 | exact owns_below P1.out.2))))
         obtain ⟨z0, z1, z2, u0, u1, u2⟩ := CF.out _ _ _ _ _ _ hp2
         clear ho2 hp2 hk2)
      | (go_at_call 38
         refine (sameInts_yes _ _ (blocksOf s.cache) _ P2.out.2.2.ints P2.out.2.1.ints).mono ?_
         rintro e w3 ⟨rfl, hb3⟩
         have P3 := Lib.hid (Ph.below P2.out.1 hb3)
         obtain ⟨f0, f1, f2, h0, h1, h2⟩ := CF.out _ _ _ _ _ _ P3.out))
    all_goals
      go_wp2_with fail
      go_ret
      exact ⟨rfl, Ph.fin P3.out RR.out (by have := NN.out; omega) (by have := NN.out; omega)⟩
  by_cases hk7 : kind = 7
  · as_aux_lemma =>
    subst hk7
    have EQ := Lib.hid RR.out.off
    have dd : (s.down == s.down) = true := beq_self_eq_true _
    go_enter Try.func25, Try.ntmps25
    go_wp2_with fail
    go_region_held3 (fun W : World => W.cell? ⟨p, 0, none⟩ = some (.pointer (some ⟨d, 0, none⟩)) ∧ W.cell? ⟨p, 1, none⟩ = some (.pointer (some ⟨x, 0, none⟩)) ∧ W.cell? ⟨g, 2, none⟩ = some (.int .i64 blk)) (first | exact ⟨by assumption, by assumption, by assumption⟩ | go_keep) (first
      | (go_at_call 41
         refine (ph_down (by first | exact PX.out | exact PD.out)).mono ?_
         rintro e w1 ⟨rfl, hp1⟩
         have P1 := Lib.hid hp1
         obtain ⟨x0, x1, x2, y0, y1, y2⟩ := CF.out _ _ _ _ _ _ hp1
         clear hp1)
      | (go_at_call 42
         refine (ph_rdown (by first | exact P1.out | exact Ph.below P1.out (Below.refl _ _).drew)).mono ?_
         rintro e w2 ⟨rfl, hp2⟩
         rw [EQ.out]
         have P2 := Lib.hid hp2
         obtain ⟨z0, z1, z2, u0, u1, u2⟩ := CF.out _ _ _ _ _ _ hp2
         clear hp2))
    all_goals
      go_wp2_with fail
      go_ret
      exact ⟨by simp, Ph.fin P2.out RR.out (by have := NN.out; omega) (by have := NN.out; omega)⟩
  by_cases hk10 : kind = 10
  · as_aux_lemma =>
    have hk := hk10
    clear hk10
    subst hk
    have EQ := Lib.hid RR.out.med
    go_enter Try.func25, Try.ntmps25
    go_wp2_with fail
    go_region_held3 (fun W : World => W.cell? ⟨p, 0, none⟩ = some (.pointer (some ⟨d, 0, none⟩)) ∧ W.cell? ⟨p, 1, none⟩ = some (.pointer (some ⟨x, 0, none⟩)) ∧ W.cell? ⟨g, 2, none⟩ = some (.int .i64 blk)) (first | exact ⟨by assumption, by assumption, by assumption⟩ | go_keep) (first
      | (go_at_call 22
         refine (ph_med (by first | exact PX.out | exact PD.out)).mono ?_
         rintro e w1 ⟨v1, rfl, ho1, hp1, hk1⟩
         have P1 := Lib.hid (And.intro hp1 ho1)
         obtain ⟨x0, x1, x2, y0, y1, y2⟩ := CF.out _ _ _ _ _ _ hp1
         clear ho1 hp1 hk1)
      | (go_at_call 24
         refine (ph_rmed (by first | exact P1.out.1 | exact Ph.below P1.out.1 (Below.refl _ _).drew)).mono ?_
         rintro e w2 ⟨v2, rfl, ho2, hp2, hk2⟩
         rw [EQ.out] at ho2
         have P2 := Lib.hid (And.intro hp2 (And.intro ho2 (hk2.own (by first | exact P1.out.2 | exact Own.below P1.out.2))))
         obtain ⟨z0, z1, z2, u0, u1, u2⟩ := CF.out _ _ _ _ _ _ hp2
         clear ho2 hp2 hk2)
      | (go_at_call 12
         refine (same_yes _ _ s.med _ P2.out.2.2.bytes P2.out.2.1.bytes).mono ?_
         rintro e w3 ⟨rfl, rfl⟩
         have P3 := Lib.hid (P2.out.1)
         obtain ⟨f0, f1, f2, h0, h1, h2⟩ := CF.out _ _ _ _ _ _ P3.out))
    all_goals
      go_wp2_with fail
      go_ret
      exact ⟨rfl, Ph.fin P3.out RR.out (by have := NN.out; omega) (by have := NN.out; omega)⟩
  by_cases hk11 : kind = 11
  · as_aux_lemma =>
    subst hk11
    have EC : Hid (r.cr = s.cr ∧ r.cw = s.cw ∧ r.cf = s.cf ∧ r.n = s.n) := Lib.hid ⟨RR.out.cr, RR.out.cw, RR.out.cf, RR.out.n⟩
    obtain ⟨q1, hq1⟩ : ∃ q, q = s.cr := ⟨_, rfl⟩
    obtain ⟨q2, hq2⟩ : ∃ q, q = s.cw := ⟨_, rfl⟩
    obtain ⟨q3, hq3⟩ : ∃ q, q = s.cf := ⟨_, rfl⟩
    obtain ⟨q4, hq4⟩ : ∃ q, q = s.n := ⟨_, rfl⟩
    have C1 : Hid (∀ W, PH w0 w F C p d mb mp x bv W cv lv kv s r → Calls Try.prog 43 #[.pointer (some ⟨d, 0, none⟩)] W fun e w' => e = .returned (.agg #[.int .i64 q1, .int .i64 q2, .int .i64 q3]) ∧ PH w0 w F C p d mb mp x bv w' cv lv kv s r) := Lib.hid (fun W h => by rw [hq1, hq2, hq3]; exact ph_counts h)
    have C2 : Hid (∀ W, PH w0 w F C p d mb mp x bv W cv lv kv s r → Calls Try.prog 44 #[.pointer (some ⟨x, 0, none⟩)] W fun e w' => e = .returned (.agg #[.int .i64 q1, .int .i64 q2, .int .i64 q3]) ∧ PH w0 w F C p d mb mp x bv w' cv lv kv s r) := Lib.hid (fun W h => by rw [hq1, hq2, hq3, ← EC.out.1, ← EC.out.2.1, ← EC.out.2.2.1]; exact ph_rcounts h)
    have C3 : Hid (∀ W, PH w0 w F C p d mb mp x bv W cv lv kv s r → Calls Try.prog 45 #[.pointer (some ⟨d, 0, none⟩)] W fun e w' => e = .returned (.int .i64 (q4 : Int)) ∧ PH w0 w F C p d mb mp x bv w' cv lv kv s r) := Lib.hid (fun W h => by rw [hq4]; exact ph_blocks h)
    have C4 : Hid (∀ W, PH w0 w F C p d mb mp x bv W cv lv kv s r → Calls Try.prog 46 #[.pointer (some ⟨x, 0, none⟩)] W fun e w' => e = .returned (.int .i64 (q4 : Int)) ∧ PH w0 w F C p d mb mp x bv w' cv lv kv s r) := Lib.hid (fun W h => by rw [hq4, ← EC.out.2.2.2]; exact ph_rblocks h)
    have e1 : (q1 == q1) = true := beq_self_eq_true _
    have e2 : (q2 == q2) = true := beq_self_eq_true _
    have e3 : (q3 == q3) = true := beq_self_eq_true _
    have e4 : ((q4 : Int) == (q4 : Int)) = true := beq_self_eq_true _
    clear hq1 hq2 hq3 hq4 EC
    go_enter Try.func25, Try.ntmps25
    go_wp2_with fail
    go_region_held3 (fun W : World => W.cell? ⟨p, 0, none⟩ = some (.pointer (some ⟨d, 0, none⟩)) ∧ W.cell? ⟨p, 1, none⟩ = some (.pointer (some ⟨x, 0, none⟩)) ∧ W.cell? ⟨g, 2, none⟩ = some (.int .i64 blk)) (first | exact ⟨by assumption, by assumption, by assumption⟩ | go_keep) (first
      | (go_at_call 43
         refine (C1.out _ (by first | exact PX.out | exact PD.out)).mono ?_
         rintro e w1 ⟨rfl, hp1⟩
         have P1 := Lib.hid hp1
         obtain ⟨x0, x1, x2, y0, y1, y2⟩ := CF.out _ _ _ _ _ _ hp1
         clear hp1)
      | (go_at_call 44
         refine (C2.out _ (by first | exact P1.out | exact Ph.below P1.out (Below.refl _ _).drew)).mono ?_
         rintro e w2 ⟨rfl, hp2⟩
         have P2 := Lib.hid hp2
         obtain ⟨z0, z1, z2, u0, u1, u2⟩ := CF.out _ _ _ _ _ _ hp2
         clear hp2)
      | (go_at_call 45
         refine (C3.out _ (by first | exact P2.out | exact Ph.below P2.out (Below.refl _ _).drew)).mono ?_
         rintro e w3 ⟨rfl, hp3⟩
         have P3 := Lib.hid hp3
         obtain ⟨f0, f1, f2, h0, h1, h2⟩ := CF.out _ _ _ _ _ _ hp3
         clear hp3)
      | (go_at_call 46
         refine (C4.out _ (by first | exact P3.out | exact Ph.below P3.out (Below.refl _ _).drew)).mono ?_
         rintro e w4 ⟨rfl, hp4⟩
         have P4 := Lib.hid hp4
         obtain ⟨i0, i1, i2, j0, j1, j2⟩ := CF.out _ _ _ _ _ _ hp4
         clear hp4))
    all_goals
      go_wp2_with fail
      go_ret
      exact ⟨by simp, Ph.fin P4.out RR.out (by have := NN.out; omega) (by have := NN.out; omega)⟩
  have g1 : (kind == 1) = false := by rw [beq_eq_false_iff_ne]; exact hk
  have g2 : (kind == 2) = false := by rw [beq_eq_false_iff_ne]; exact hk2
  have g5 : (kind == 5) = false := by rw [beq_eq_false_iff_ne]; exact hk5
  have g7 : (kind == 7) = false := by rw [beq_eq_false_iff_ne]; exact hk7
  have g10 : (kind == 10) = false := by rw [beq_eq_false_iff_ne]; exact hk10
  have g11 : (kind == 11) = false := by rw [beq_eq_false_iff_ne]; exact hk11
  go_enter Try.func25, Try.ntmps25
  go_wp2_with fail
  go_ret
  exact ⟨rfl, Ph.fin PX.out RR.out (by have := NN.out; omega) (by have := NN.out; omega)⟩
end Rf
end Go.Proofs.Ytojemioophlplaa
