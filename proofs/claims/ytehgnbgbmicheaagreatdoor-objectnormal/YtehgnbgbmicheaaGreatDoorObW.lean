/-
  The writer in memory; layAmounts.
-/
import Derived.Test.YtehgnbgbmicheaaGreatDoorObD
namespace Go.Proofs.YtehgnbgbmicheaaGreatDoor
open Go.RowKit
/-- The writer in memory, behind all that was there. -/
structure WW (w0 : World) (B g : Nat) (s : WS) (w : World) : Prop where
  wr : ∃ v, WAt B w g v s
  lo : w0.heap.size ≤ B
  be : Below w0.heap.size w0 w
/-- With a box beside it. -/
structure WX (w0 : World) (B g b : Nat) (s : WS) (cs : Array Value) (t : TypeId) (w : World) : Prop where
  wr : ∃ v, WAt B w g v s ∧ ¬ WF g v b
  bx : w.heap[b]? = some (.cells cs t (0, 0))
  lo : w0.heap.size ≤ B
  be : Below w0.heap.size w0 w
theorem lt_of_some {w : World} {b : Nat} {o : Obj} (h : w.heap[b]? = some o) : b < w.heap.size := by
  rcases Nat.lt_or_ge b w.heap.size with q | q
  · exact q
  · rw [Array.getElem?_eq_none q] at h; simp at h
theorem WX.ww {w0 w : World} {B g b : Nat} {s : WS} {cs : Array Value} {t : TypeId} (h : WX w0 B g b s cs t w) : WW w0 B g s w := ⟨h.wr.elim fun v q => ⟨v, q.1⟩, h.lo, h.be⟩
theorem WX.cell {w0 w : World} {B g b : Nat} {s : WS} {cs : Array Value} {t : TypeId} (h : WX w0 B g b s cs t w) {i : Nat} {y : Value} (hi : cs[i]? = some y) : w.cell? ⟨b, i, none⟩ = some y := by
  rw [cell_of_row w b i _ _ _ h.bx]; exact hi
theorem WW.calls {w0 w : World} {B g : Nat} {s s' : WS} {f : Nat} {args : Array Value} {r : Ending} (h : WW w0 B g s w) (hc : ∀ v, WAt B w g v s → Calls Tryz.prog f args w fun e w' => e = r ∧ Laid B g v s' w w') :
    Calls Tryz.prog f args w fun e w' => e = r ∧ WW w0 B g s' w' := by
  obtain ⟨v, hv⟩ := h.wr
  refine (hc v hv).mono ?_
  rintro e w' ⟨rfl, hl⟩
  have hb := hl.below hv
  obtain ⟨v', h1, _, _⟩ := hl
  exact ⟨rfl, ⟨v', h1⟩, h.lo, h.be.trans (hb.mono h.lo)⟩
theorem WX.calls {w0 w : World} {B g b : Nat} {s s' : WS} {cs : Array Value} {t : TypeId} {f : Nat} {args : Array Value} {r : Ending} (h : WX w0 B g b s cs t w) (hc : ∀ v, WAt B w g v s → Calls Tryz.prog f args w fun e w' => e = r ∧ Laid B g v s' w w') :
    Calls Tryz.prog f args w fun e w' => e = r ∧ WX w0 B g b s' cs t w' := by
  obtain ⟨v, hv, hn⟩ := h.wr
  refine (hc v hv).mono ?_
  rintro e w' ⟨rfl, hl⟩
  have hb := hl.below hv
  obtain ⟨v', h1, h2, h3⟩ := hl
  have hlt := lt_of_some h.bx
  refine ⟨rfl, ⟨v', h1, ?_⟩, ?_, h.lo, h.be.trans (hb.mono h.lo)⟩
  · rintro (q | q)
    · exact hn (Or.inl q)
    · rcases h3 b q with p | p
      · exact hn (Or.inr p)
      · omega
  · rw [h2.block b hlt hn]; exact h.bx
/-- A contract of the writer's own kind, over what the writer lays. -/
theorem WX.laid {w0 w : World} {B g b : Nat} {s s' : WS} {cs : Array Value} {t : TypeId} {f : Nat} {args : Array Value} {r : Ending} (h : WX w0 B g b s cs t w) (hc : ∀ v, WAt B w g v s → Calls Tryz.prog f args w fun e w' => e = r ∧ Laid B g v s' w w') :
    Calls Tryz.prog f args w fun e w' => e = r ∧ WX w0 B g b s' cs t w' := h.calls hc
theorem WW.box {w0 w : World} {B g : Nat} {s : WS} (h : WW w0 B g s w) (cs : Array Value) (t : TypeId) : WX w0 B g w.heap.size s cs t (w.alloc (.cells cs t)) := by
  obtain ⟨v, hv⟩ := h.wr
  have hb : Below w.heap.size w (w.alloc (.cells cs t)) := (Below.refl _ _).alloc (Nat.le_refl _) _
  refine ⟨⟨v, hv.below hb, fun q => ?_⟩, ?_, h.lo, h.be.trans (hb.mono h.be.size)⟩
  · have := (hv.foot _ q).2; omega
  · rw [heap_alloc_new]
theorem WW.alloc {w0 w : World} {B g : Nat} {s : WS} (h : WW w0 B g s w) (o : Obj) : WW w0 B g s (w.alloc o) := by
  obtain ⟨v, hv⟩ := h.wr
  have hb : Below w.heap.size w (w.alloc o) := (Below.refl _ _).alloc (Nat.le_refl _) _
  exact ⟨⟨v, hv.below hb⟩, h.lo, h.be.trans (hb.mono h.be.size)⟩
/-- Laid, as the callers of a layer want it. -/
theorem Laid.refl {B g : Nat} {v : Value} {s : WS} {w : World} (h : WAt B w g v s) : Laid B g v s w w := Laid.same h (Kept.refl _ _)
theorem Laid.trans {B g : Nat} {v : Value} {s s' : WS} {a b c : World} (h : Laid B g v s a b) (k : ∀ v', WAt B b g v' s → Laid B g v' s' b c) : Laid B g v s' a c := by
  obtain ⟨v', h1, h2, h3⟩ := h
  obtain ⟨v'', k1, k2, k3⟩ := k v' h1
  refine ⟨v'', k1, h2.trans k2 (fun x hx q => ?_), fun i hi => ?_⟩
  · rcases q with q | q
    · exact Or.inl q
    · rcases h3 x q with p | p
      · exact Or.inr p
      · omega
  · rcases k3 i hi with p | p
    · exact h3 i p
    · exact Or.inr (Nat.le_trans h2.size p)
/-- Boxes: where, their cells, their type. -/
abbrev Bx := List (Nat × Array Value × TypeId)
/-- Laid since w, with boxes of the call's own beside the writer. -/
structure LX (w : World) (B g : Nat) (v0 : Value) (s : WS) (bs : Bx) (w' : World) : Prop where
  wr : ∃ v', WAt B w' g v' s ∧ Kept (WF g v0) w w' ∧ At v0 v' w ∧ ∀ e ∈ bs, ¬ WF g v' e.1
  bx : ∀ e ∈ bs, w'.heap[e.1]? = some (.cells e.2.1 e.2.2 (0, 0)) ∧ w.heap.size ≤ e.1
theorem LX.laid {w w' : World} {B g : Nat} {bs : Bx} {v0 : Value} {s : WS} (h : LX w B g v0 s bs w') : Laid B g v0 s w w' := by
  obtain ⟨v', h1, h2, h3, _⟩ := h.wr
  exact ⟨v', h1, h2, h3⟩
theorem LX.sub {w w' : World} {B g : Nat} {bs bs' : Bx} {v0 : Value} {s : WS} (h : LX w B g v0 s bs w') (hs : ∀ e ∈ bs', e ∈ bs) : LX w B g v0 s bs' w' := by
  obtain ⟨v', h1, h2, h3, h4⟩ := h.wr
  exact ⟨⟨v', h1, h2, h3, fun e he => h4 e (hs e he)⟩, fun e he => h.bx e (hs e he)⟩
theorem LX.pop {w w' : World} {B g : Nat} {e : Nat × Array Value × TypeId} {bs : Bx} {v0 : Value} {s : WS} (h : LX w B g v0 s (e :: bs) w') : LX w B g v0 s bs w' := h.sub fun _ q => List.mem_cons_of_mem _ q
theorem LX.cell {w w' : World} {B g b : Nat} {bs : Bx} {v0 : Value} {s : WS} {cs : Array Value} {t : TypeId} (h : LX w B g v0 s bs w') (hm : (b, cs, t) ∈ bs) {i : Nat} {y : Value} (hi : cs[i]? = some y) : w'.cell? ⟨b, i, none⟩ = some y := by
  rw [cell_of_row w' b i _ _ _ (h.bx _ hm).1]; exact hi
theorem LX.calls {w w' : World} {B g : Nat} {bs : Bx} {v0 : Value} {s s' : WS} {f : Nat} {args : Array Value} {r : Ending} (h : LX w B g v0 s bs w') (hc : ∀ v, WAt B w' g v s → Calls Tryz.prog f args w' fun e w'' => e = r ∧ Laid B g v s' w' w'') :
    Calls Tryz.prog f args w' fun e w'' => e = r ∧ LX w B g v0 s' bs w'' := by
  obtain ⟨v', h1, h2, h3, h4⟩ := h.wr
  refine (hc v' h1).mono ?_
  rintro e w'' ⟨rfl, v'', k1, k2, k3⟩
  refine ⟨rfl, ⟨v'', k1, h2.trans k2 (fun x hx q => ?_), fun i hi => ?_, fun e he => ?_⟩, fun e he => ⟨by rw [k2.block e.1 (lt_of_some (h.bx e he).1) (h4 e he)]; exact (h.bx e he).1, (h.bx e he).2⟩⟩
  · rcases q with q | q
    · exact Or.inl q
    · rcases h3 x q with p | p
      · exact Or.inr p
      · omega
  · rcases k3 i hi with p | p
    · exact h3 i p
    · exact Or.inr (Nat.le_trans h2.size p)
  · have hlt := lt_of_some (h.bx e he).1
    rintro (q | q)
    · exact h4 e he (Or.inl q)
    · rcases k3 e.1 q with p | p
      · exact h4 e he (Or.inr p)
      · omega
theorem LX.box {w w' : World} {B g : Nat} {bs : Bx} {v0 : Value} {s : WS} (h : LX w B g v0 s bs w') (cs : Array Value) (t : TypeId) : LX w B g v0 s ((w'.heap.size, cs, t) :: bs) (w'.alloc (.cells cs t)) := by
  obtain ⟨v', h1, h2, h3, h4⟩ := h.wr
  have hb : Below w'.heap.size w' (w'.alloc (.cells cs t)) := (Below.refl _ _).alloc (Nat.le_refl _) _
  refine ⟨⟨v', h1.below hb, h2.trans (Below.kept hb (fun _ => False)) (fun _ _ q => q.elim), h3, fun e he => ?_⟩, fun e he => ?_⟩
  · rcases List.mem_cons.1 he with rfl | he
    · intro q; have := (h1.foot _ q).2; simp only at this; omega
    · exact h4 e he
  · rcases List.mem_cons.1 he with rfl | he
    · exact ⟨by rw [heap_alloc_new], h2.size⟩
    · exact ⟨by rw [hb.block e.1 (lt_of_some (h.bx e he).1)]; exact (h.bx e he).1, (h.bx e he).2⟩
theorem Laid.lx {w w' : World} {B g : Nat} {v0 : Value} {s : WS} (h : Laid B g v0 s w w') : LX w B g v0 s [] w' := by
  obtain ⟨v', h1, h2, h3⟩ := h
  exact ⟨⟨v', h1, h2, h3, fun e he => by simp at he⟩, fun e he => by simp at he⟩
theorem Laid.calls {w w' : World} {B g : Nat} {v0 : Value} {s s' : WS} {f : Nat} {args : Array Value} {r : Ending} (h : Laid B g v0 s w w') (hc : ∀ v, WAt B w' g v s → Calls Tryz.prog f args w' fun e w'' => e = r ∧ Laid B g v s' w' w'') :
    Calls Tryz.prog f args w' fun e w'' => e = r ∧ Laid B g v0 s' w w'' := by
  obtain ⟨v', h1, h2, h3⟩ := h
  refine (hc v' h1).mono ?_
  rintro e w'' ⟨rfl, hl⟩
  exact ⟨rfl, Laid.trans ⟨v', h1, h2, h3⟩ (fun v2 hv2 => by
    have : v2 = v' := by have := hv2.2.1.symm.trans h1.2.1; simpa using this
    rw [this]; exact hl)⟩
theorem Laid.belowB {w w' : World} {B g : Nat} {v0 : Value} {s : WS} (h : Laid B g v0 s w w') {s0 : WS} (H : WAt B w g v0 s0) {w0 : World} (h0 : Below w0.heap.size w0 w) (lo : w0.heap.size ≤ B) : Below w0.heap.size w0 w' := h0.trans ((h.below H).mono lo)
theorem count_form (s : WS) (n : Nat) (h : n ≤ 4096) : s.count n = s.lay (form n) := by
  unfold WS.count; rw [if_pos (by omega)]; rfl
set_option maxHeartbeats 4000000 in
set_option maxRecDepth 100000 in
theorem layAmounts_any (w0 : World) (B g : Nat) (v : Value) (s : WS) (u : Value) (l : List Am) (w : World) (H : WAt B w g v s) (h0 : Below w0.heap.size w0 w) (lo : w0.heap.size ≤ B) (hv : Row kAm w0 u l) (hl : l.length ≤ 4096)
    (hf : ∀ x ∈ l, x.n.size ≤ 140737488355328 ∧ 0 ≤ x.v ∧ x.v ≤ 9223372036854775807) :
    Calls Tryz.prog 46 #[.pointer (some ⟨g, 0, none⟩), u] w fun e w' => e = .returned (.tuple #[]) ∧ Laid B g v ((amsE l).foldl WS.lay s) w w' := by
  have V : Aside (WAt B w g v s ∧ Below w0.heap.size w0 w ∧ w0.heap.size ≤ B ∧ Row kAm w0 u l ∧ ∀ x ∈ l, x.n.size ≤ 140737488355328 ∧ 0 ≤ x.v ∧ x.v ≤ 9223372036854775807) := ⟨H, h0, lo, hv, hf⟩
  obtain ⟨a, cap, rfl, hlc, hcm⟩ := hv.len
  unfold maxLen at hcm
  clear H h0 lo hv hf
  go_enter Tryz.func46, Tryz.ntmps46
  go_wp2_with fail
  refine (wCount_any B g v s (l.length : Int) w V.out.1).mono ?_
  rintro e w1 ⟨rfl, hw⟩
  rw [count_form s _ hl] at hw
  have W1 : Aside (Laid B g v (s.lay (form l.length)) w w1) := hw
  clear hw
  go_wp2_with fail
  go_loopg [12] l.length (fun gg si wr => ∃ (k : Nat), k ≤ l.length ∧ gg = l.length - k ∧ si = .int .i64 k ∧ Laid B g v (((l.take k).flatMap amE).foldl WS.lay (s.lay (form l.length))) w wr)
  case atStart => exact ⟨0, Nat.zero_le _, rfl, rfl, W1.out⟩
  case round =>
    clear W1
    obtain ⟨k, hk, hg, rfl, hw⟩ := hrel
    have R : Aside (gk = l.length - k ∧ Laid B g v (((l.take k).flatMap amE).foldl WS.lay (s.lay (form l.length))) w wr) := ⟨hg, hw⟩
    clear hg hw
    by_cases hlt : k < l.length
    · obtain ⟨b, off, rfl, pc⟩ := (V.out.2.2.2.1.below (R.out.2.belowB V.out.1 V.out.2.1 V.out.2.2.1)).at k hlt
      have HS := V.out.2.2.2.2 _ (getD_in (d := kAm.z) hlt)
      obtain ⟨x, hx⟩ : ∃ x, x = l.getD k kAm.z := ⟨_, rfl⟩
      rw [← hx] at pc HS
      obtain ⟨s2, hsx⟩ : ∃ s2, s2 = ((l.take k).flatMap amE).foldl WS.lay (s.lay (form l.length)) := ⟨_, rfl⟩
      have X : Aside ((amE x).foldl WS.lay s2 = ((l.take (k + 1)).flatMap amE).foldl WS.lay (s.lay (form l.length))) := by
        show _ = _
        rw [take_onez l k kAm.z hlt, ← hx, List.flatMap_append, List.foldl_append, ← hsx, List.flatMap_cons, List.flatMap_nil, List.append_nil]
      have W := R.out.2
      rw [← hsx] at W
      clear hx hsx
      have G : Aside (gk = l.length - k) := R.out.1
      clear R
      obtain ⟨xn, xv⟩ := x
      have p0 : wr.cell? ⟨b, off + k * 2, none⟩ = some (.string xn) := pc 0 _ rfl
      have p1 : wr.cell? ⟨b, off + k * 2 + 1, none⟩ = some (.int .i64 xv) := pc 1 _ rfl
      have W0 := W.lx.box #[.string xn, .int .i64 xv] 56
      have c0 := W0.cell (List.mem_cons_self ..) (i := 0) rfl
      have c1 := W0.cell (List.mem_cons_self ..) (i := 1) rfl
      simp only at HS
      obtain ⟨m, rfl⟩ : ∃ m : Nat, xv = m := ⟨xv.toNat, by omega⟩
      have W1 : Aside (LX w B g v s2 [(wr.heap.size, #[.string xn, .int .i64 m], 56)] (wr.alloc (.cells #[.string xn, .int .i64 m] 56))) := W0
      have HZ : Aside (xn.size ≤ 140737488355328 ∧ m < 18446744073709551616) := ⟨HS.1, by omega⟩
      have hm : m ≤ 9223372036854775807 := by omega
      have hlt' : (k : Int) < (l.length : Int) := by omega
      clear W W0 HS pc
      go_wp2_with fail
      refine (W1.out.calls (fun v' hv => wText_any B g v' _ xn _ HZ.out.1 hv)).mono ?_
      rintro e w2 ⟨rfl, hw⟩
      clear c0 c1 p0 p1
      have c1 := hw.cell (List.mem_cons_self ..) (i := 1) rfl
      have W2 : Aside (LX w B g v _ [(wr.heap.size, #[.string xn, .int .i64 m], 56)] w2) := hw
      clear hw W1
      go_wp2_with fail
      refine (W2.out.calls (fun v' hv => wUint_any B g v' _ m _ HZ.out.2 hv)).mono ?_
      rintro e w3 ⟨rfl, hw⟩
      have W3 : Aside (Laid B g v (((l.take (k + 1)).flatMap amE).foldl WS.lay (s.lay (form l.length))) w w3) := by rw [← X.out]; exact hw.laid
      clear hw W2 c1
      go_wp2_with fail
      go_roundg (l.length - (k + 1))
      case measure => have := G.out; omega
      case rel => exact ⟨k + 1, by omega, rfl, by go_num, W3.out⟩
    · have W : Aside (Laid B g v ((amsE l).foldl WS.lay s) w wr) := by
        have h2 := R.out.2
        rw [List.take_of_length_le (by omega)] at h2
        exact h2
      clear R
      go_wp2_with fail
      go_end0
      exact ⟨rfl, W.out⟩
end Go.Proofs.YtehgnbgbmicheaaGreatDoor
