/-
  Bindings: which stand; ValidBinding of every binding.
-/
import Derived.Test.YtlbnmafopfljcaaDoorWr
import Derived.Test.YtlbnmafopfljcaaDoorLPathA
import Derived.Deep.RegionHeld3
namespace Go.Proofs.YtlbnmafopfljcaaDoor
open Go.RowKit
def tx (t : ByteArray) : List UInt8 := form t.size ++ t.data.toList
def by8 (n : Int) : UInt8 := UInt8.ofNat n.toNat
theorem lays_no (fs : List (List UInt8)) (s : WS) (h : s.e = 23) : (fs.foldl WS.lay s).e = 23 := by
  induction fs generalizing s with
  | nil => exact h
  | cons f r ih =>
    refine ih _ ?_
    unfold WS.lay; rw [if_neg (by omega)]; exact h
theorem lays_all (fs : List (List UInt8)) (s : WS) (he : s.e = 0) (h : s.l.length ≤ s.lim) :
    (s.l.length + fs.flatten.length ≤ s.lim → fs.foldl WS.lay s = ⟨s.l ++ fs.flatten, s.lim, 0⟩) ∧ (¬ s.l.length + fs.flatten.length ≤ s.lim → (fs.foldl WS.lay s).e = 23) := by
  induction fs generalizing s with
  | nil =>
    obtain ⟨l, lim, e⟩ := s
    simp only at he h
    subst he
    refine ⟨fun _ => by simp, fun hn => absurd h (by simpa using hn)⟩
  | cons f r ih =>
    obtain ⟨l, lim, e⟩ := s
    simp only at he h
    subst he
    rw [List.foldl_cons, List.flatten_cons, List.length_append]
    by_cases hf : l.length + f.length ≤ lim
    · have e1 : WS.lay ⟨l, lim, 0⟩ f = ⟨l ++ f, lim, 0⟩ := by unfold WS.lay; rw [if_pos rfl, if_pos hf]
      rw [e1]
      have := ih ⟨l ++ f, lim, 0⟩ rfl (by simpa using hf)
      simp only [List.length_append, Nat.add_assoc, List.append_assoc] at this ⊢
      exact this
    · have e1 : WS.lay ⟨l, lim, 0⟩ f = ⟨l, lim, 23⟩ := by unfold WS.lay; rw [if_pos rfl, if_neg hf]
      rw [e1]
      exact ⟨fun q => absurd q (by show ¬ l.length + _ ≤ lim; omega), fun _ => lays_no r _ rfl⟩
def wr0 : WS := ⟨[], 8192, 0⟩
/-- What is written of pieces: the bytes, or that they are too many. -/
def outR (fs : List (List UInt8)) : ByteArray × Nat := if fs.flatten.length ≤ 8192 then (txt fs.flatten, 0) else (⟨#[]⟩, 23)
theorem lays_out (fs : List (List UInt8)) : (txt (fs.foldl WS.lay wr0).out, (fs.foldl WS.lay wr0).e) = outR fs := by
  have h := lays_all fs wr0 rfl (by decide)
  simp only [wr0, List.length_nil, Nat.zero_add, List.nil_append] at h
  unfold outR
  by_cases q : fs.flatten.length ≤ 8192
  · rw [if_pos q, show wr0 = ⟨[], 8192, 0⟩ from rfl, h.1 q]; rfl
  · have := h.2 q
    rw [if_neg q, show wr0 = ⟨[], 8192, 0⟩ from rfl]
    unfold WS.out
    rw [this]
    rfl
/-- The writer in memory, behind all that was there. -/
structure WW (w0 : World) (B g : Nat) (s : WS) (w : World) : Prop where
  wr : ∃ v, WAt B w g v s
  lo : w0.heap.size ≤ B
  be : Below w0.heap.size w0 w
/-- With a box beside it. -/
structure WX (w0 : World) (B g b : Nat) (s : WS) (cs : Array Value) (t : TypeId) (w : World) : Prop where
  wr : ∃ v, WAt B w g v s ∧ ¬ WF g v b
  bx : w.heap[b]? = some (.cells cs t (0, 0))
  lo : w0.heap.size ≤ B
  be : Below w0.heap.size w0 w
theorem lt_of_some {w : World} {b : Nat} {o : Obj} (h : w.heap[b]? = some o) : b < w.heap.size := by
  rcases Nat.lt_or_ge b w.heap.size with q | q
  · exact q
  · rw [Array.getElem?_eq_none q] at h; simp at h
theorem WX.ww {w0 w : World} {B g b : Nat} {s : WS} {cs : Array Value} {t : TypeId} (h : WX w0 B g b s cs t w) : WW w0 B g s w := ⟨h.wr.elim fun v q => ⟨v, q.1⟩, h.lo, h.be⟩
theorem WX.cell {w0 w : World} {B g b : Nat} {s : WS} {cs : Array Value} {t : TypeId} (h : WX w0 B g b s cs t w) {i : Nat} {y : Value} (hi : cs[i]? = some y) : w.cell? ⟨b, i, none⟩ = some y := by
  rw [cell_of_row w b i _ _ _ h.bx]; exact hi
theorem WW.calls {w0 w : World} {B g : Nat} {s s' : WS} {f : Nat} {args : Array Value} {r : Ending} (h : WW w0 B g s w) (hc : ∀ v, WAt B w g v s → Calls Tryd.prog f args w fun e w' => e = r ∧ Laid B g v s' w w') :
    Calls Tryd.prog f args w fun e w' => e = r ∧ WW w0 B g s' w' := by
  obtain ⟨v, hv⟩ := h.wr
  refine (hc v hv).mono ?_
  rintro e w' ⟨rfl, hl⟩
  have hb := hl.below hv
  obtain ⟨v', h1, _, _⟩ := hl
  exact ⟨rfl, ⟨v', h1⟩, h.lo, h.be.trans (hb.mono h.lo)⟩
theorem WX.calls {w0 w : World} {B g b : Nat} {s s' : WS} {cs : Array Value} {t : TypeId} {f : Nat} {args : Array Value} {r : Ending} (h : WX w0 B g b s cs t w) (hc : ∀ v, WAt B w g v s → Calls Tryd.prog f args w fun e w' => e = r ∧ Laid B g v s' w w') :
    Calls Tryd.prog f args w fun e w' => e = r ∧ WX w0 B g b s' cs t w' := by
  obtain ⟨v, hv, hn⟩ := h.wr
  refine (hc v hv).mono ?_
  rintro e w' ⟨rfl, hl⟩
  have hb := hl.below hv
  obtain ⟨v', h1, h2, h3⟩ := hl
  have hlt := lt_of_some h.bx
  refine ⟨rfl, ⟨v', h1, ?_⟩, ?_, h.lo, h.be.trans (hb.mono h.lo)⟩
  · rintro (q | q)
    · exact hn (Or.inl q)
    · rcases h3 b q with p | p
      · exact hn (Or.inr p)
      · omega
  · rw [h2.block b hlt hn]; exact h.bx
/-- A contract of the writer's own kind, over what the writer lays. -/
theorem WX.laid {w0 w : World} {B g b : Nat} {s s' : WS} {cs : Array Value} {t : TypeId} {f : Nat} {args : Array Value} {r : Ending} (h : WX w0 B g b s cs t w) (hc : ∀ v, WAt B w g v s → Calls Tryd.prog f args w fun e w' => e = r ∧ Laid B g v s' w w') :
    Calls Tryd.prog f args w fun e w' => e = r ∧ WX w0 B g b s' cs t w' := h.calls hc
theorem WW.box {w0 w : World} {B g : Nat} {s : WS} (h : WW w0 B g s w) (cs : Array Value) (t : TypeId) : WX w0 B g w.heap.size s cs t (w.alloc (.cells cs t)) := by
  obtain ⟨v, hv⟩ := h.wr
  have hb : Below w.heap.size w (w.alloc (.cells cs t)) := (Below.refl _ _).alloc (Nat.le_refl _) _
  refine ⟨⟨v, hv.below hb, fun q => ?_⟩, ?_, h.lo, h.be.trans (hb.mono h.be.size)⟩
  · have := (hv.foot _ q).2; omega
  · rw [heap_alloc_new]
theorem WW.alloc {w0 w : World} {B g : Nat} {s : WS} (h : WW w0 B g s w) (o : Obj) : WW w0 B g s (w.alloc o) := by
  obtain ⟨v, hv⟩ := h.wr
  have hb : Below w.heap.size w (w.alloc o) := (Below.refl _ _).alloc (Nat.le_refl _) _
  exact ⟨⟨v, hv.below hb⟩, h.lo, h.be.trans (hb.mono h.be.size)⟩
/-- Laid, as the callers of a layer want it. -/
theorem Laid.refl {B g : Nat} {v : Value} {s : WS} {w : World} (h : WAt B w g v s) : Laid B g v s w w := Laid.same h (Kept.refl _ _)
theorem Laid.trans {B g : Nat} {v : Value} {s s' : WS} {a b c : World} (h : Laid B g v s a b) (k : ∀ v', WAt B b g v' s → Laid B g v' s' b c) : Laid B g v s' a c := by
  obtain ⟨v', h1, h2, h3⟩ := h
  obtain ⟨v'', k1, k2, k3⟩ := k v' h1
  refine ⟨v'', k1, h2.trans k2 (fun x hx q => ?_), fun i hi => ?_⟩
  · rcases q with q | q
    · exact Or.inl q
    · rcases h3 x q with p | p
      · exact Or.inr p
      · omega
  · rcases k3 i hi with p | p
    · exact h3 i p
    · exact Or.inr (Nat.le_trans h2.size p)
/-- Boxes: where, their cells, their type. -/
abbrev Bx := List (Nat × Array Value × TypeId)
/-- Laid since w, with boxes of the call's own beside the writer. -/
structure LX (w : World) (B g : Nat) (v0 : Value) (s : WS) (bs : Bx) (w' : World) : Prop where
  wr : ∃ v', WAt B w' g v' s ∧ Kept (WF g v0) w w' ∧ At v0 v' w ∧ ∀ e ∈ bs, ¬ WF g v' e.1
  bx : ∀ e ∈ bs, w'.heap[e.1]? = some (.cells e.2.1 e.2.2 (0, 0)) ∧ w.heap.size ≤ e.1
theorem LX.laid {w w' : World} {B g : Nat} {bs : Bx} {v0 : Value} {s : WS} (h : LX w B g v0 s bs w') : Laid B g v0 s w w' := by
  obtain ⟨v', h1, h2, h3, _⟩ := h.wr
  exact ⟨v', h1, h2, h3⟩
theorem LX.sub {w w' : World} {B g : Nat} {bs bs' : Bx} {v0 : Value} {s : WS} (h : LX w B g v0 s bs w') (hs : ∀ e ∈ bs', e ∈ bs) : LX w B g v0 s bs' w' := by
  obtain ⟨v', h1, h2, h3, h4⟩ := h.wr
  exact ⟨⟨v', h1, h2, h3, fun e he => h4 e (hs e he)⟩, fun e he => h.bx e (hs e he)⟩
theorem LX.pop {w w' : World} {B g : Nat} {e : Nat × Array Value × TypeId} {bs : Bx} {v0 : Value} {s : WS} (h : LX w B g v0 s (e :: bs) w') : LX w B g v0 s bs w' := h.sub fun _ q => List.mem_cons_of_mem _ q
theorem LX.cell {w w' : World} {B g b : Nat} {bs : Bx} {v0 : Value} {s : WS} {cs : Array Value} {t : TypeId} (h : LX w B g v0 s bs w') (hm : (b, cs, t) ∈ bs) {i : Nat} {y : Value} (hi : cs[i]? = some y) : w'.cell? ⟨b, i, none⟩ = some y := by
  rw [cell_of_row w' b i _ _ _ (h.bx _ hm).1]; exact hi
theorem LX.calls {w w' : World} {B g : Nat} {bs : Bx} {v0 : Value} {s s' : WS} {f : Nat} {args : Array Value} {r : Ending} (h : LX w B g v0 s bs w') (hc : ∀ v, WAt B w' g v s → Calls Tryd.prog f args w' fun e w'' => e = r ∧ Laid B g v s' w' w'') :
    Calls Tryd.prog f args w' fun e w'' => e = r ∧ LX w B g v0 s' bs w'' := by
  obtain ⟨v', h1, h2, h3, h4⟩ := h.wr
  refine (hc v' h1).mono ?_
  rintro e w'' ⟨rfl, v'', k1, k2, k3⟩
  refine ⟨rfl, ⟨v'', k1, h2.trans k2 (fun x hx q => ?_), fun i hi => ?_, fun e he => ?_⟩, fun e he => ⟨by rw [k2.block e.1 (lt_of_some (h.bx e he).1) (h4 e he)]; exact (h.bx e he).1, (h.bx e he).2⟩⟩
  · rcases q with q | q
    · exact Or.inl q
    · rcases h3 x q with p | p
      · exact Or.inr p
      · omega
  · rcases k3 i hi with p | p
    · exact h3 i p
    · exact Or.inr (Nat.le_trans h2.size p)
  · have hlt := lt_of_some (h.bx e he).1
    rintro (q | q)
    · exact h4 e he (Or.inl q)
    · rcases k3 e.1 q with p | p
      · exact h4 e he (Or.inr p)
      · omega
theorem LX.box {w w' : World} {B g : Nat} {bs : Bx} {v0 : Value} {s : WS} (h : LX w B g v0 s bs w') (cs : Array Value) (t : TypeId) : LX w B g v0 s ((w'.heap.size, cs, t) :: bs) (w'.alloc (.cells cs t)) := by
  obtain ⟨v', h1, h2, h3, h4⟩ := h.wr
  have hb : Below w'.heap.size w' (w'.alloc (.cells cs t)) := (Below.refl _ _).alloc (Nat.le_refl _) _
  refine ⟨⟨v', h1.below hb, h2.trans (Below.kept hb (fun _ => False)) (fun _ _ q => q.elim), h3, fun e he => ?_⟩, fun e he => ?_⟩
  · rcases List.mem_cons.1 he with rfl | he
    · intro q; have := (h1.foot _ q).2; simp only at this; omega
    · exact h4 e he
  · rcases List.mem_cons.1 he with rfl | he
    · exact ⟨by rw [heap_alloc_new], h2.size⟩
    · exact ⟨by rw [hb.block e.1 (lt_of_some (h.bx e he).1)]; exact (h.bx e he).1, (h.bx e he).2⟩
theorem Laid.lx {w w' : World} {B g : Nat} {v0 : Value} {s : WS} (h : Laid B g v0 s w w') : LX w B g v0 s [] w' := by
  obtain ⟨v', h1, h2, h3⟩ := h
  exact ⟨⟨v', h1, h2, h3, fun e he => by simp at he⟩, fun e he => by simp at he⟩
theorem Laid.calls {w w' : World} {B g : Nat} {v0 : Value} {s s' : WS} {f : Nat} {args : Array Value} {r : Ending} (h : Laid B g v0 s w w') (hc : ∀ v, WAt B w' g v s → Calls Tryd.prog f args w' fun e w'' => e = r ∧ Laid B g v s' w' w'') :
    Calls Tryd.prog f args w' fun e w'' => e = r ∧ Laid B g v0 s' w w'' := by
  obtain ⟨v', h1, h2, h3⟩ := h
  refine (hc v' h1).mono ?_
  rintro e w'' ⟨rfl, hl⟩
  exact ⟨rfl, Laid.trans ⟨v', h1, h2, h3⟩ (fun v2 hv2 => by
    have : v2 = v' := by have := hv2.2.1.symm.trans h1.2.1; simpa using this
    rw [this]; exact hl)⟩
theorem Laid.belowB {w w' : World} {B g : Nat} {v0 : Value} {s : WS} (h : Laid B g v0 s w w') {s0 : WS} (H : WAt B w g v0 s0) {w0 : World} (h0 : Below w0.heap.size w0 w) (lo : w0.heap.size ≤ B) : Below w0.heap.size w0 w' := h0.trans ((h.below H).mono lo)
def inB (n least most : Int) : Bool := decide (least ≤ n) && decide (n ≤ most)
def namedB (p n : ByteArray) : Bool := decide (L.splitE p = 0) && L.nameB n
set_option maxHeartbeats 1000000 in
theorem within_any (n a b : Int) (w : World) : Calls Tryd.prog 55 #[.int .i64 n, .int .i64 a, .int .i64 b] w fun e w' => e = .returned (.bool (inB n a b)) ∧ w' = w := by
  unfold inB
  by_cases h : a ≤ n
  · have g : decide (a ≤ n) = true := decide_eq_true h
    rw [g]
    go_enter Tryd.func55, Tryd.ntmps55
    go_wp2_with fail
    go_ret
    exact ⟨rfl, rfl⟩
  · have g : decide (a ≤ n) = false := decide_eq_false h
    rw [g]
    go_enter Tryd.func55, Tryd.ntmps55
    go_wp2_with fail
    go_ret
    exact ⟨rfl, rfl⟩
set_option maxHeartbeats 1000000 in
theorem named_any (p n : ByteArray) (w : World) (hm : L.HasM w) : Calls Tryd.prog 53 #[.string p, .string n] w fun e w' => e = .returned (.bool (namedB p n)) ∧ Below w.heap.size w w' := by
  have PA := Lib.hid (L.path_any p w hm)
  have NA := Lib.hid (L.name_any n)
  go_enter Tryd.func53, Tryd.ntmps53
  go_wp2_with fail
  refine PA.out.mono ?_
  rintro e w1 ⟨rfl, hb⟩
  have B1 := Lib.hid hb
  clear hb PA
  by_cases h : L.splitE p = 0
  · have E : Aside (namedB p n = L.nameB n) := by show _ = _; unfold namedB; rw [decide_eq_true h]; rfl
    have g : (L.splitE p == 0) = true := by rw [beq_iff_eq]; exact h
    clear h
    go_wp2_with fail
    refine (NA.out w1).mono ?_
    rintro e w2 ⟨rfl, hb⟩
    have B2 := Lib.hid (B1.out.trans (hb.mono B1.out.size))
    clear hb
    go_wp2_with fail
    go_ret
    exact ⟨by rw [E.out]; rfl, B2.out⟩
  · have E : Aside (namedB p n = false) := by show _ = _; unfold namedB; rw [decide_eq_false h]; rfl
    have g : (L.splitE p == 0) = false := by rw [beq_eq_false_iff_ne]; exact h
    clear h
    go_wp2_with fail
    go_ret
    exact ⟨by rw [E.out]; rfl, B1.out⟩
theorem by8_c8 (n : Int) (h : 0 ≤ n) (h2 : n ≤ 9) : n = c8 (by8 n) := by
  obtain ⟨m, rfl⟩ : ∃ m : Nat, n = m := ⟨n.toNat, by omega⟩
  have : m ≤ 9 := by omega
  unfold by8 c8
  rw [Int.toNat_natCast, UInt8.toNat_ofNat']
  congr 1
  omega
set_option maxHeartbeats 2000000 in
theorem bytesOf_no (c : Int) (v : Value) (w : World) : Calls Tryd.prog 29 #[.bool false, .int .u8 c, v] w fun e w' => e = .returned (.tuple #[.string ⟨#[]⟩, .int .i64 130]) ∧ w' = w := by
  go_enter Tryd.func29, Tryd.ntmps29
  go_wp2_with fail
  go_ret2
  exact ⟨rfl, rfl⟩
structure Bd where
  p : ByteArray
  n : ByteArray
  s : ByteArray
  v : Int
def Bd.z : Bd := ⟨⟨#[]⟩, ⟨#[]⟩, ⟨#[]⟩, 0⟩
def Bd.val (b : Bd) : Value := .agg #[.string b.p, .string b.n, .string b.s, .int .i64 b.v]
structure Bd.Fit (b : Bd) : Prop where
  s : b.p.size ≤ 140737488355328 ∧ b.n.size ≤ 140737488355328 ∧ b.s.size ≤ 140737488355328
  n : -9223372036854775808 ≤ b.v ∧ b.v ≤ 9223372036854775807
def bdL (b : Bd) : List (List UInt8) := [tx b.p, tx b.n, tx b.s, [by8 b.v]]
def bdE (b : Bd) : List (List UInt8) := [66] :: [1] :: bdL b
def bdS (b : Bd) : Bool := namedB b.p b.n && (L.nameB b.s && inB b.v 0 3)
def bdR (b : Bd) : ByteArray × Nat := if bdS b = true then outR (bdE b) else (⟨#[]⟩, 130)
theorem size_bd : (Tryd.prog.info? 36).map (·.size) = some 4 := by kernel_rfl
set_option maxHeartbeats 4000000 in
set_option maxRecDepth 100000 in
theorem bindingStands_any (b : Bd) (w : World) (hm : L.HasM w) : Calls Tryd.prog 30 #[b.val] w fun e w' => e = .returned (.bool (bdS b)) ∧ Below w.heap.size w w' := by
  obtain ⟨p, n, s, v⟩ := b
  obtain ⟨S, hS⟩ : ∃ S, S = bdS ⟨p, n, s, v⟩ := ⟨_, rfl⟩
  have ES : Aside (S = (namedB p n && (L.nameB s && inB v 0 3))) := hS
  rw [← hS]
  clear hS
  unfold Bd.val
  simp only
  obtain ⟨X, hX⟩ : ∃ X, X = w.alloc (.cells #[.string p, .string n, .string s, .int .i64 v] 36) := ⟨_, rfl⟩
  have AX : Hid (Below w.heap.size w X) := Lib.hid (by rw [hX]; exact (Below.refl _ w).alloc (Nat.le_refl _) _)
  have CX : Hid (∀ i y, #[Value.string p, .string n, .string s, .int .i64 v][i]? = some y → X.cell? ⟨w.heap.size, i, none⟩ = some y) := Lib.hid fun i y h => by
    rw [hX, World.cell?_alloc_new]; exact h
  have d0 := CX.out 0 _ rfl
  have d1 := CX.out 1 _ rfl
  have NA := Lib.hid (named_any p n X (hm.below AX.out))
  have hX' := hX.symm
  clear hX hm
  go_enter Tryd.func30, Tryd.ntmps30
  go_wp2_with fail
  refine NA.out.mono ?_
  rintro e w1 ⟨rfl, hb⟩
  have B1 := Lib.hid hb
  clear hb NA hX' d0 d1
  cases h1 : namedB p n with
  | false =>
    have F : Aside (S = false) := by show _ = _; rw [ES.out, h1]; rfl
    go_wp2_with fail
    go_ret
    exact ⟨by rw [F.out]; rfl, AX.out.trans (B1.out.mono AX.out.size)⟩
  | true =>
  have d2 := (B1.out.cell (block_lt_of_cell (CX.out 2 _ rfl))).trans (CX.out 2 _ rfl)
  have NB := Lib.hid (L.name_any s w1)
  go_wp2_with fail
  refine NB.out.mono ?_
  rintro e w2 ⟨rfl, hb⟩
  have B2 := Lib.hid (B1.out.trans (hb.mono B1.out.size))
  clear hb NB d2
  cases h2 : L.nameB s with
  | false =>
    have F : Aside (S = false) := by show _ = _; rw [ES.out, h2]; simp
    go_wp2_with fail
    go_ret
    exact ⟨by rw [F.out]; rfl, AX.out.trans (B2.out.mono AX.out.size)⟩
  | true =>
  have d3 := (B2.out.cell (block_lt_of_cell (CX.out 3 _ rfl))).trans (CX.out 3 _ rfl)
  have W3 := Lib.hid (within_any v 0 3 w2)
  have F : Aside (S = inB v 0 3) := by show _ = _; rw [ES.out, h1, h2]; rfl
  go_wp2_with fail
  refine W3.out.mono ?_
  rintro e w3 ⟨rfl, hw3⟩
  subst hw3
  clear d3 W3
  go_wp2_with fail
  go_ret
  exact ⟨by rw [F.out]; rfl, AX.out.trans (B2.out.mono AX.out.size)⟩
set_option maxHeartbeats 4000000 in
set_option maxRecDepth 100000 in
theorem layBinding_any (B g : Nat) (v : Value) (s : WS) (b : Bd) (w : World) (H : WAt B w g v s) (hf : b.Fit) (hn : 0 ≤ b.v ∧ b.v ≤ 9) :
    Calls Tryd.prog 32 #[.pointer (some ⟨g, 0, none⟩), b.val] w fun e w' => e = .returned (.tuple #[]) ∧ Laid B g v ((bdL b).foldl WS.lay s) w w' := by
  have SZ := Lib.hid hf.s
  obtain ⟨bp, bn, bs, bv⟩ := b
  simp only at SZ hn
  have hPR := by8_c8 bv hn.1 hn.2
  obtain ⟨c, hc⟩ : ∃ c, c = by8 bv := ⟨_, rfl⟩
  rw [← hc] at hPR
  have EL : Aside (bdL ⟨bp, bn, bs, bv⟩ = [tx bp, tx bn, tx bs, [c]]) := by show _ = _; rw [hc]; rfl
  have P9 : Aside (bv = c8 c) := hPR
  have pr9 : 0 ≤ bv ∧ bv ≤ 255 := by omega
  obtain ⟨cs, hcs⟩ : ∃ cs : Array Value, cs = #[.string bp, .string bn, .string bs, .int .i64 bv] := ⟨_, rfl⟩
  obtain ⟨bo, hbo⟩ : ∃ bo, bo = w.heap.size := ⟨_, rfl⟩
  have W0 : Aside (LX w B g v s [(bo, cs, 36)] (w.alloc (.cells #[.string bp, .string bn, .string bs, .int .i64 bv] 36))) := by
    rw [hcs, hbo]; exact (Laid.refl H).lx.box _ _
  have CSA : Aside (cs = #[.string bp, .string bn, .string bs, .int .i64 bv]) := hcs
  clear hcs H hf hn hc hPR
  have c0 := W0.out.cell (List.mem_cons_self ..) (i := 0) (by rw [CSA.out]; rfl)
  rw [hbo] at c0
  unfold Bd.val
  simp only
  rw [EL.out]
  go_enter Tryd.func32, Tryd.ntmps32
  go_wp2_with fail
  rw [← hbo]
  clear hbo
  refine (W0.out.calls (fun v' hv => wText_any B g v' _ bp _ SZ.out.1 hv)).mono ?_
  rintro e w1 ⟨rfl, hw⟩
  have W1 : Aside (LX w B g v (s.lay (tx bp)) [(bo, cs, 36)] w1) := hw
  clear hw W0 c0
  have c1 := W1.out.cell (List.mem_cons_self ..) (i := 1) (by rw [CSA.out]; rfl)
  go_wp2_with fail
  refine (W1.out.calls (fun v' hv => wText_any B g v' _ bn _ SZ.out.2.1 hv)).mono ?_
  rintro e w2 ⟨rfl, hw⟩
  have W2 : Aside (LX w B g v ((s.lay (tx bp)).lay (tx bn)) [(bo, cs, 36)] w2) := hw
  clear hw W1 c1
  have c2 := W2.out.cell (List.mem_cons_self ..) (i := 2) (by rw [CSA.out]; rfl)
  go_wp2_with fail
  refine (W2.out.calls (fun v' hv => wText_any B g v' _ bs _ SZ.out.2.2 hv)).mono ?_
  rintro e w3 ⟨rfl, hw⟩
  have W3 : Aside (LX w B g v (((s.lay (tx bp)).lay (tx bn)).lay (tx bs)) [(bo, cs, 36)] w3) := hw
  clear hw W2 c2
  have c3 := W3.out.cell (List.mem_cons_self ..) (i := 3) (by rw [CSA.out]; rfl)
  go_wp2_with fail
  refine (W3.out.calls (fun v' hv => wByte_eq P9.out B g v' _ _ hv)).mono ?_
  rintro e w4 ⟨rfl, hw⟩
  have W4 : Aside (Laid B g v ([tx bp, tx bn, tx bs, [c]].foldl WS.lay s) w w4) := hw.laid
  clear hw W3 c3
  go_wp2_with fail
  go_end0
  exact ⟨rfl, W4.out⟩
set_option maxHeartbeats 2000000 in
theorem layB1_any (w0 : World) (bo B g : Nat) (v : Value) (s : WS) (b : Bd) (w : World) (H : WAt B w g v s) (h0 : Below w0.heap.size w0 w) (hf : b.Fit) (hn : 0 ≤ b.v ∧ b.v ≤ 9)
    (hb : w0.heap[bo]? = some (.cells #[.string b.p, .string b.n, .string b.s, .int .i64 b.v] 36 (0, 0))) :
    Calls Tryd.prog 31 #[.pointer (some ⟨g, 0, none⟩), .pointer (some ⟨bo, 0, none⟩)] w fun e w' => e = .returned (.tuple #[]) ∧ Laid B g v ((bdL b).foldl WS.lay s) w w' := by
  have LA := Lib.hid (layBinding_any B g v s b w H hf hn)
  have hc : ∀ i y, (#[.string b.p, .string b.n, .string b.s, .int .i64 b.v] : Array Value)[i]? = some y → w.cell? ⟨bo, i, none⟩ = some y := fun i y hy => by
    have q : w0.cell? ⟨bo, i, none⟩ = some y := by rw [cell_of_row w0 bo i _ _ _ hb]; exact hy
    exact (h0.cell (block_lt_of_cell q)).trans q
  have d0 := hc 0 _ rfl
  have d1 := hc 1 _ rfl
  have d2 := hc 2 _ rfl
  have d3 := hc 3 _ rfl
  unfold Bd.val at LA
  clear H h0 hf hn hb hc
  go_enter Tryd.func31, Tryd.ntmps31
  go_wp2_with fail
  refine LA.out.mono ?_
  rintro e w1 ⟨rfl, hl⟩
  have L1 := Lib.hid hl
  clear hl d0 d1 d2 d3
  go_wp2_with fail
  go_end0
  exact ⟨rfl, L1.out⟩
set_option maxHeartbeats 4000000 in
set_option maxRecDepth 100000 in
theorem bytesOfB_any (bo : Nat) (b : Bd) (w : World) (hf : b.Fit) (hn : 0 ≤ b.v ∧ b.v ≤ 9) (hb : w.heap[bo]? = some (.cells #[.string b.p, .string b.n, .string b.s, .int .i64 b.v] 36 (0, 0))) :
    Calls Tryd.prog 29 #[.bool true, .int .u8 66, .func (.func 31) #[] #[.pointer (some ⟨bo, 0, none⟩)]] w fun e w' => e = .returned (.tuple #[.string (outR (bdE b)).1, .int .i64 (outR (bdE b)).2]) ∧ Below w.heap.size w w' := by
  have V := Lib.hid (And.intro hf (And.intro hn hb))
  clear hf hn hb
  go_enter Tryd.func29, Tryd.ntmps29
  go_wp2_with fail
  refine (newWriter_any 8192 w).mono ?_
  rintro e w3 ⟨rfl, hw, _, hb⟩
  obtain ⟨B, hB⟩ : ∃ B, B = w.heap.size := ⟨_, rfl⟩
  rw [← hB] at hw ⊢
  have W3 : Aside (WW w B B wr0 w3) := ⟨⟨_, hw⟩, by rw [hB]; exact Nat.le_refl _, hb⟩
  clear hw hb hB
  go_wp2_with fail
  refine (W3.out.calls (fun v hv => wByte_eq (n := 66) (c := 66) rfl B B v _ w3 hv)).mono ?_
  rintro e w4 ⟨rfl, hw⟩
  have W4 : Aside (WW w B B (wr0.lay [66]) w4) := hw
  clear hw W3
  go_wp2_with fail
  refine (W4.out.calls (fun v hv => wByte_eq (n := 1) (c := 1) rfl B B v _ w4 hv)).mono ?_
  rintro e w5 ⟨rfl, hw⟩
  have W5 : Aside (WW w B B ((wr0.lay [66]).lay [1]) w5) := hw
  clear hw W4
  go_wp2_with fail
  refine (W5.out.calls (fun v hv => layB1_any w bo B B v _ b w5 hv W5.out.be V.out.1 V.out.2.1 V.out.2.2)).mono ?_
  rintro e w6 ⟨rfl, hw⟩
  have W6 : Aside (WW w B B ((bdE b).foldl WS.lay wr0) w6) := hw
  clear hw W5
  go_wp2_with fail
  obtain ⟨u, hu⟩ := W6.out.wr
  refine (wOut_any _ _ _ _ w6 hu).mono ?_
  rintro e w7 ⟨v2, rfl, ho, hb⟩
  have hc := convT ho.bytes
  have A : Aside (Below w.heap.size w w7) := W6.out.be.trans (hb.mono W6.out.be.size)
  have E : Aside _ := lays_out (bdE b)
  clear ho hb hu
  go_wp2_with fail
  go_ret2
  exact ⟨by rw [← E.out]; rfl, A.out⟩
set_option maxHeartbeats 4000000 in
set_option maxRecDepth 100000 in
theorem encodeB_any (b : Bd) (w : World) (hm : L.HasM w) (hf : b.Fit) :
    Calls Tryd.prog 20 #[b.val] w fun e w' => e = .returned (.tuple #[.string (bdR b).1, .int .i64 (bdR b).2]) ∧ Below w.heap.size w w' := by
  obtain ⟨X, hX⟩ : ∃ X, X = w.alloc (.cells #[.string b.p, .string b.n, .string b.s, .int .i64 b.v] 36) := ⟨_, rfl⟩
  have AX : Hid (Below w.heap.size w X) := Lib.hid (by rw [hX]; exact (Below.refl _ w).alloc (Nat.le_refl _) _)
  have HX : X.heap[w.heap.size]? = some (.cells #[.string b.p, .string b.n, .string b.s, .int .i64 b.v] 36 (0, 0)) := by rw [hX, heap_alloc_new]
  have hc : ∀ i y, (#[.string b.p, .string b.n, .string b.s, .int .i64 b.v] : Array Value)[i]? = some y → X.cell? ⟨w.heap.size, i, none⟩ = some y := fun i y hy => by
    rw [cell_of_row X w.heap.size i _ _ _ HX]; exact hy
  have d0 := hc 0 _ rfl
  have d1 := hc 1 _ rfl
  have d2 := hc 2 _ rfl
  have d3 := hc 3 _ rfl
  have V := Lib.hid (And.intro hf HX)
  have OS := Lib.hid (bindingStands_any b X (hm.below AX.out))
  unfold Bd.val at OS ⊢
  have hX' := hX.symm
  clear hX HX hc hf hm
  go_enter Tryd.func20, Tryd.ntmps20
  go_wp2_with fail
  refine OS.out.mono ?_
  rintro e w1 ⟨rfl, hb⟩
  have B1 := Lib.hid hb
  clear hb d0 d1 d2 d3 hX' OS
  cases hS : bdS b with
  | false =>
    have E : Aside (bdR b = (⟨#[]⟩, 130)) := by show _ = _; unfold bdR; rw [hS]; rfl
    go_wp2_with fail
    refine (bytesOf_no _ _ w1).mono ?_
    rintro e w2 ⟨rfl, rfl⟩
    go_wp2_with fail
    go_ret2
    exact ⟨by rw [E.out]; rfl, AX.out.trans (B1.out.mono AX.out.size)⟩
  | true =>
    have E : Aside (bdR b = outR (bdE b)) := by show _ = _; unfold bdR; rw [hS]; rfl
    have hv : 0 ≤ b.v ∧ b.v ≤ 9 := by
      unfold bdS inB at hS
      simp only [Bool.and_eq_true, decide_eq_true_iff] at hS
      exact ⟨hS.2.2.1, by omega⟩
    have BO := Lib.hid (bytesOfB_any w.heap.size b w1 V.out.1 hv (by rw [B1.out.block w.heap.size (lt_of_some V.out.2)]; exact V.out.2))
    clear hS hv
    go_wp2_with fail
    refine BO.out.mono ?_
    rintro e w2 ⟨rfl, hb⟩
    have B2 := Lib.hid hb
    clear hb BO
    go_wp2_with fail
    go_ret2
    exact ⟨by rw [E.out]; rfl, AX.out.trans ((B1.out.trans (B2.out.mono B1.out.size)).mono AX.out.size)⟩
set_option maxHeartbeats 1000000 in
theorem validB_any (o : Bd) (w : World) (hm : L.HasM w) (hf : o.Fit) :
    Calls Tryd.prog 10 #[o.val] w fun e w' => e = .returned (.int .i64 (bdR o).2) ∧ Below w.heap.size w w' := by
  have A0 := Lib.hid ((Below.refl _ w).alloc (Nat.le_refl _) (.cells #[.string o.p, .string o.n, .string o.s, .int .i64 o.v] 36))
  have EN := Lib.hid (encodeB_any o _ (hm.below A0.out) hf)
  unfold Bd.val at EN ⊢
  clear hf hm
  go_enter Tryd.func10, Tryd.ntmps10
  go_wp2_with fail
  refine EN.out.mono ?_
  rintro e w1 ⟨rfl, hb⟩
  have B1 := Lib.hid hb
  clear hb EN
  go_wp2_with fail
  go_ret
  exact ⟨rfl, A0.out.trans (B1.out.mono A0.out.size)⟩
end Go.Proofs.YtlbnmafopfljcaaDoor
