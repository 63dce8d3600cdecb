/-
  AcB, AcM, AcT, AcL, AcS, AcN, AcO, AcD, AcE, joined.
-/
import Derived.Test.YthdofbjijpghfaaGreatDoorMgA
import Derived.Test.YthdofbjijpghfaaGreatDoorMgB
import Derived.Deep.RegionHeld3
import Derived.Maps.OwnSet
import Derived.Maps.OwnOps
import Derived.Maps.Own
import Derived.Maps.Views
import Derived.Maps.RangeWalk
import Derived.DeepKeys4
import Derived.Deep.RegionLaw
import Derived.Deep.CutRange
import Derived.Sort.Walk0
import Derived.Lib.QuietBelow
section S0
namespace Go.Proofs.YthdofbjijpghfaaGreatDoor
open Go.RowKit
def tx (t : ByteArray) : List UInt8 := form t.size ++ t.data.toList
def by8 (n : Int) : UInt8 := UInt8.ofNat n.toNat
theorem lays_no (fs : List (List UInt8)) (s : WS) (h : s.e = 23) : (fs.foldl WS.lay s).e = 23 := by
  induction fs generalizing s with
  | nil => exact h
  | cons f r ih =>
    refine ih _ ?_
    unfold WS.lay; rw [if_neg (by omega)]; exact h
theorem lays_all (fs : List (List UInt8)) (s : WS) (he : s.e = 0) (h : s.l.length ≤ s.lim) :
    (s.l.length + fs.flatten.length ≤ s.lim → fs.foldl WS.lay s = ⟨s.l ++ fs.flatten, s.lim, 0⟩) ∧ (¬ s.l.length + fs.flatten.length ≤ s.lim → (fs.foldl WS.lay s).e = 23) := by
  induction fs generalizing s with
  | nil =>
    obtain ⟨l, lim, e⟩ := s
    simp only at he h
    subst he
    refine ⟨fun _ => by simp, fun hn => absurd h (by simpa using hn)⟩
  | cons f r ih =>
    obtain ⟨l, lim, e⟩ := s
    simp only at he h
    subst he
    rw [List.foldl_cons, List.flatten_cons, List.length_append]
    by_cases hf : l.length + f.length ≤ lim
    · have e1 : WS.lay ⟨l, lim, 0⟩ f = ⟨l ++ f, lim, 0⟩ := by unfold WS.lay; rw [if_pos rfl, if_pos hf]
      rw [e1]
      have := ih ⟨l ++ f, lim, 0⟩ rfl (by simpa using hf)
      simp only [List.length_append, Nat.add_assoc, List.append_assoc] at this ⊢
      exact this
    · have e1 : WS.lay ⟨l, lim, 0⟩ f = ⟨l, lim, 23⟩ := by unfold WS.lay; rw [if_pos rfl, if_neg hf]
      rw [e1]
      exact ⟨fun q => absurd q (by show ¬ l.length + _ ≤ lim; omega), fun _ => lays_no r _ rfl⟩
def wr0 : WS := ⟨[], 8192, 0⟩
/-- What is written of pieces: the bytes, or that they are too many. -/
def outR (fs : List (List UInt8)) : ByteArray × Nat := if fs.flatten.length ≤ 8192 then (txt fs.flatten, 0) else (⟨#[]⟩, 23)
theorem lays_out (fs : List (List UInt8)) : (txt (fs.foldl WS.lay wr0).out, (fs.foldl WS.lay wr0).e) = outR fs := by
  have h := lays_all fs wr0 rfl (by decide)
  simp only [wr0, List.length_nil, Nat.zero_add, List.nil_append] at h
  unfold outR
  by_cases q : fs.flatten.length ≤ 8192
  · rw [if_pos q, show wr0 = ⟨[], 8192, 0⟩ from rfl, h.1 q]; rfl
  · have := h.2 q
    rw [if_neg q, show wr0 = ⟨[], 8192, 0⟩ from rfl]
    unfold WS.out
    rw [this]
    rfl
/-- The writer in memory, behind all that was there. -/
structure WW (w0 : World) (B g : Nat) (s : WS) (w : World) : Prop where
  wr : ∃ v, WAt B w g v s
  lo : w0.heap.size ≤ B
  be : Below w0.heap.size w0 w
/-- With a box beside it. -/
structure WX (w0 : World) (B g b : Nat) (s : WS) (cs : Array Value) (t : TypeId) (w : World) : Prop where
  wr : ∃ v, WAt B w g v s ∧ ¬ WF g v b
  bx : w.heap[b]? = some (.cells cs t (0, 0))
  lo : w0.heap.size ≤ B
  be : Below w0.heap.size w0 w
theorem lt_of_some {w : World} {b : Nat} {o : Obj} (h : w.heap[b]? = some o) : b < w.heap.size := by
  rcases Nat.lt_or_ge b w.heap.size with q | q
  · exact q
  · rw [Array.getElem?_eq_none q] at h; simp at h
theorem WX.ww {w0 w : World} {B g b : Nat} {s : WS} {cs : Array Value} {t : TypeId} (h : WX w0 B g b s cs t w) : WW w0 B g s w := ⟨h.wr.elim fun v q => ⟨v, q.1⟩, h.lo, h.be⟩
theorem WX.cell {w0 w : World} {B g b : Nat} {s : WS} {cs : Array Value} {t : TypeId} (h : WX w0 B g b s cs t w) {i : Nat} {y : Value} (hi : cs[i]? = some y) : w.cell? ⟨b, i, none⟩ = some y := by
  rw [cell_of_row w b i _ _ _ h.bx]; exact hi
theorem WW.calls {w0 w : World} {B g : Nat} {s s' : WS} {f : Nat} {args : Array Value} {r : Ending} (h : WW w0 B g s w) (hc : ∀ v, WAt B w g v s → Calls Tryz.prog f args w fun e w' => e = r ∧ Laid B g v s' w w') :
    Calls Tryz.prog f args w fun e w' => e = r ∧ WW w0 B g s' w' := by
  obtain ⟨v, hv⟩ := h.wr
  refine (hc v hv).mono ?_
  rintro e w' ⟨rfl, hl⟩
  have hb := hl.below hv
  obtain ⟨v', h1, _, _⟩ := hl
  exact ⟨rfl, ⟨v', h1⟩, h.lo, h.be.trans (hb.mono h.lo)⟩
theorem WX.calls {w0 w : World} {B g b : Nat} {s s' : WS} {cs : Array Value} {t : TypeId} {f : Nat} {args : Array Value} {r : Ending} (h : WX w0 B g b s cs t w) (hc : ∀ v, WAt B w g v s → Calls Tryz.prog f args w fun e w' => e = r ∧ Laid B g v s' w w') :
    Calls Tryz.prog f args w fun e w' => e = r ∧ WX w0 B g b s' cs t w' := by
  obtain ⟨v, hv, hn⟩ := h.wr
  refine (hc v hv).mono ?_
  rintro e w' ⟨rfl, hl⟩
  have hb := hl.below hv
  obtain ⟨v', h1, h2, h3⟩ := hl
  have hlt := lt_of_some h.bx
  refine ⟨rfl, ⟨v', h1, ?_⟩, ?_, h.lo, h.be.trans (hb.mono h.lo)⟩
  · rintro (q | q)
    · exact hn (Or.inl q)
    · rcases h3 b q with p | p
      · exact hn (Or.inr p)
      · omega
  · rw [h2.block b hlt hn]; exact h.bx
/-- A contract of the writer's own kind, over what the writer lays. -/
theorem WX.laid {w0 w : World} {B g b : Nat} {s s' : WS} {cs : Array Value} {t : TypeId} {f : Nat} {args : Array Value} {r : Ending} (h : WX w0 B g b s cs t w) (hc : ∀ v, WAt B w g v s → Calls Tryz.prog f args w fun e w' => e = r ∧ Laid B g v s' w w') :
    Calls Tryz.prog f args w fun e w' => e = r ∧ WX w0 B g b s' cs t w' := h.calls hc
theorem WW.box {w0 w : World} {B g : Nat} {s : WS} (h : WW w0 B g s w) (cs : Array Value) (t : TypeId) : WX w0 B g w.heap.size s cs t (w.alloc (.cells cs t)) := by
  obtain ⟨v, hv⟩ := h.wr
  have hb : Below w.heap.size w (w.alloc (.cells cs t)) := (Below.refl _ _).alloc (Nat.le_refl _) _
  refine ⟨⟨v, hv.below hb, fun q => ?_⟩, ?_, h.lo, h.be.trans (hb.mono h.be.size)⟩
  · have := (hv.foot _ q).2; omega
  · rw [heap_alloc_new]
theorem WW.alloc {w0 w : World} {B g : Nat} {s : WS} (h : WW w0 B g s w) (o : Obj) : WW w0 B g s (w.alloc o) := by
  obtain ⟨v, hv⟩ := h.wr
  have hb : Below w.heap.size w (w.alloc o) := (Below.refl _ _).alloc (Nat.le_refl _) _
  exact ⟨⟨v, hv.below hb⟩, h.lo, h.be.trans (hb.mono h.be.size)⟩
/-- Laid, as the callers of a layer want it. -/
theorem Laid.refl {B g : Nat} {v : Value} {s : WS} {w : World} (h : WAt B w g v s) : Laid B g v s w w := Laid.same h (Kept.refl _ _)
theorem Laid.trans {B g : Nat} {v : Value} {s s' : WS} {a b c : World} (h : Laid B g v s a b) (k : ∀ v', WAt B b g v' s → Laid B g v' s' b c) : Laid B g v s' a c := by
  obtain ⟨v', h1, h2, h3⟩ := h
  obtain ⟨v'', k1, k2, k3⟩ := k v' h1
  refine ⟨v'', k1, h2.trans k2 (fun x hx q => ?_), fun i hi => ?_⟩
  · rcases q with q | q
    · exact Or.inl q
    · rcases h3 x q with p | p
      · exact Or.inr p
      · omega
  · rcases k3 i hi with p | p
    · exact h3 i p
    · exact Or.inr (Nat.le_trans h2.size p)
/-- Boxes: where, their cells, their type. -/
abbrev Bx := List (Nat × Array Value × TypeId)
/-- Laid since w, with boxes of the call's own beside the writer. -/
structure LX (w : World) (B g : Nat) (v0 : Value) (s : WS) (bs : Bx) (w' : World) : Prop where
  wr : ∃ v', WAt B w' g v' s ∧ Kept (WF g v0) w w' ∧ At v0 v' w ∧ ∀ e ∈ bs, ¬ WF g v' e.1
  bx : ∀ e ∈ bs, w'.heap[e.1]? = some (.cells e.2.1 e.2.2 (0, 0)) ∧ w.heap.size ≤ e.1
theorem LX.laid {w w' : World} {B g : Nat} {bs : Bx} {v0 : Value} {s : WS} (h : LX w B g v0 s bs w') : Laid B g v0 s w w' := by
  obtain ⟨v', h1, h2, h3, _⟩ := h.wr
  exact ⟨v', h1, h2, h3⟩
theorem LX.sub {w w' : World} {B g : Nat} {bs bs' : Bx} {v0 : Value} {s : WS} (h : LX w B g v0 s bs w') (hs : ∀ e ∈ bs', e ∈ bs) : LX w B g v0 s bs' w' := by
  obtain ⟨v', h1, h2, h3, h4⟩ := h.wr
  exact ⟨⟨v', h1, h2, h3, fun e he => h4 e (hs e he)⟩, fun e he => h.bx e (hs e he)⟩
theorem LX.pop {w w' : World} {B g : Nat} {e : Nat × Array Value × TypeId} {bs : Bx} {v0 : Value} {s : WS} (h : LX w B g v0 s (e :: bs) w') : LX w B g v0 s bs w' := h.sub fun _ q => List.mem_cons_of_mem _ q
theorem LX.cell {w w' : World} {B g b : Nat} {bs : Bx} {v0 : Value} {s : WS} {cs : Array Value} {t : TypeId} (h : LX w B g v0 s bs w') (hm : (b, cs, t) ∈ bs) {i : Nat} {y : Value} (hi : cs[i]? = some y) : w'.cell? ⟨b, i, none⟩ = some y := by
  rw [cell_of_row w' b i _ _ _ (h.bx _ hm).1]; exact hi
theorem LX.calls {w w' : World} {B g : Nat} {bs : Bx} {v0 : Value} {s s' : WS} {f : Nat} {args : Array Value} {r : Ending} (h : LX w B g v0 s bs w') (hc : ∀ v, WAt B w' g v s → Calls Tryz.prog f args w' fun e w'' => e = r ∧ Laid B g v s' w' w'') :
    Calls Tryz.prog f args w' fun e w'' => e = r ∧ LX w B g v0 s' bs w'' := by
  obtain ⟨v', h1, h2, h3, h4⟩ := h.wr
  refine (hc v' h1).mono ?_
  rintro e w'' ⟨rfl, v'', k1, k2, k3⟩
  refine ⟨rfl, ⟨v'', k1, h2.trans k2 (fun x hx q => ?_), fun i hi => ?_, fun e he => ?_⟩, fun e he => ⟨by rw [k2.block e.1 (lt_of_some (h.bx e he).1) (h4 e he)]; exact (h.bx e he).1, (h.bx e he).2⟩⟩
  · rcases q with q | q
    · exact Or.inl q
    · rcases h3 x q with p | p
      · exact Or.inr p
      · omega
  · rcases k3 i hi with p | p
    · exact h3 i p
    · exact Or.inr (Nat.le_trans h2.size p)
  · have hlt := lt_of_some (h.bx e he).1
    rintro (q | q)
    · exact h4 e he (Or.inl q)
    · rcases k3 e.1 q with p | p
      · exact h4 e he (Or.inr p)
      · omega
theorem LX.box {w w' : World} {B g : Nat} {bs : Bx} {v0 : Value} {s : WS} (h : LX w B g v0 s bs w') (cs : Array Value) (t : TypeId) : LX w B g v0 s ((w'.heap.size, cs, t) :: bs) (w'.alloc (.cells cs t)) := by
  obtain ⟨v', h1, h2, h3, h4⟩ := h.wr
  have hb : Below w'.heap.size w' (w'.alloc (.cells cs t)) := (Below.refl _ _).alloc (Nat.le_refl _) _
  refine ⟨⟨v', h1.below hb, h2.trans (Below.kept hb (fun _ => False)) (fun _ _ q => q.elim), h3, fun e he => ?_⟩, fun e he => ?_⟩
  · rcases List.mem_cons.1 he with rfl | he
    · intro q; have := (h1.foot _ q).2; simp only at this; omega
    · exact h4 e he
  · rcases List.mem_cons.1 he with rfl | he
    · exact ⟨by rw [heap_alloc_new], h2.size⟩
    · exact ⟨by rw [hb.block e.1 (lt_of_some (h.bx e he).1)]; exact (h.bx e he).1, (h.bx e he).2⟩
theorem Laid.lx {w w' : World} {B g : Nat} {v0 : Value} {s : WS} (h : Laid B g v0 s w w') : LX w B g v0 s [] w' := by
  obtain ⟨v', h1, h2, h3⟩ := h
  exact ⟨⟨v', h1, h2, h3, fun e he => by simp at he⟩, fun e he => by simp at he⟩
theorem Laid.calls {w w' : World} {B g : Nat} {v0 : Value} {s s' : WS} {f : Nat} {args : Array Value} {r : Ending} (h : Laid B g v0 s w w') (hc : ∀ v, WAt B w' g v s → Calls Tryz.prog f args w' fun e w'' => e = r ∧ Laid B g v s' w' w'') :
    Calls Tryz.prog f args w' fun e w'' => e = r ∧ Laid B g v0 s' w w'' := by
  obtain ⟨v', h1, h2, h3⟩ := h
  refine (hc v' h1).mono ?_
  rintro e w'' ⟨rfl, hl⟩
  exact ⟨rfl, Laid.trans ⟨v', h1, h2, h3⟩ (fun v2 hv2 => by
    have : v2 = v' := by have := hv2.2.1.symm.trans h1.2.1; simpa using this
    rw [this]; exact hl)⟩
theorem Laid.belowB {w w' : World} {B g : Nat} {v0 : Value} {s : WS} (h : Laid B g v0 s w w') {s0 : WS} (H : WAt B w g v0 s0) {w0 : World} (h0 : Below w0.heap.size w0 w) (lo : w0.heap.size ≤ B) : Below w0.heap.size w0 w' := h0.trans ((h.below H).mono lo)
def inB (n least most : Int) : Bool := decide (least ≤ n) && decide (n ≤ most)
def namedB (p n : ByteArray) : Bool := decide (L.splitE p = 0) && L.nameB n
set_option maxHeartbeats 1000000 in
theorem within_any (n a b : Int) (w : World) : Calls Tryz.prog 109 #[.int .i64 n, .int .i64 a, .int .i64 b] w fun e w' => e = .returned (.bool (inB n a b)) ∧ w' = w := by
  unfold inB
  by_cases h : a ≤ n
  · have g : decide (a ≤ n) = true := decide_eq_true h
    rw [g]
    go_enter Tryz.func109, Tryz.ntmps109
    go_wp2_with fail
    go_ret
    exact ⟨rfl, rfl⟩
  · have g : decide (a ≤ n) = false := decide_eq_false h
    rw [g]
    go_enter Tryz.func109, Tryz.ntmps109
    go_wp2_with fail
    go_ret
    exact ⟨rfl, rfl⟩
set_option maxHeartbeats 1000000 in
theorem named_any (p n : ByteArray) (w : World) (hm : L.HasM w) : Calls Tryz.prog 107 #[.string p, .string n] w fun e w' => e = .returned (.bool (namedB p n)) ∧ Below w.heap.size w w' := by
  have PA := Lib.hid (L.path_any p w hm)
  have NA := Lib.hid (L.name_any n)
  go_enter Tryz.func107, Tryz.ntmps107
  go_wp2_with fail
  refine PA.out.mono ?_
  rintro e w1 ⟨rfl, hb⟩
  have B1 := Lib.hid hb
  clear hb PA
  by_cases h : L.splitE p = 0
  · have E : Aside (namedB p n = L.nameB n) := by show _ = _; unfold namedB; rw [decide_eq_true h]; rfl
    have g : (L.splitE p == 0) = true := by rw [beq_iff_eq]; exact h
    clear h
    go_wp2_with fail
    refine (NA.out w1).mono ?_
    rintro e w2 ⟨rfl, hb⟩
    have B2 := Lib.hid (B1.out.trans (hb.mono B1.out.size))
    clear hb
    go_wp2_with fail
    go_ret
    exact ⟨by rw [E.out]; rfl, B2.out⟩
  · have E : Aside (namedB p n = false) := by show _ = _; unfold namedB; rw [decide_eq_false h]; rfl
    have g : (L.splitE p == 0) = false := by rw [beq_eq_false_iff_ne]; exact h
    clear h
    go_wp2_with fail
    go_ret
    exact ⟨by rw [E.out]; rfl, B1.out⟩
theorem by8_c8 (n : Int) (h : 0 ≤ n) (h2 : n ≤ 9) : n = c8 (by8 n) := by
  obtain ⟨m, rfl⟩ : ∃ m : Nat, n = m := ⟨n.toNat, by omega⟩
  have : m ≤ 9 := by omega
  unfold by8 c8
  rw [Int.toNat_natCast, UInt8.toNat_ofNat']
  congr 1
  omega
set_option maxHeartbeats 2000000 in
theorem bytesOf_no (c : Int) (v : Value) (w : World) : Calls Tryz.prog 76 #[.bool false, .int .u8 c, v] w fun e w' => e = .returned (.tuple #[.string ⟨#[]⟩, .int .i64 130]) ∧ w' = w := by
  go_enter Tryz.func76, Tryz.ntmps76
  go_wp2_with fail
  go_ret2
  exact ⟨rfl, rfl⟩
structure Bd where
  p : ByteArray
  n : ByteArray
  s : ByteArray
  v : Int
def Bd.z : Bd := ⟨⟨#[]⟩, ⟨#[]⟩, ⟨#[]⟩, 0⟩
def Bd.val (b : Bd) : Value := .agg #[.string b.p, .string b.n, .string b.s, .int .i64 b.v]
structure Bd.Fit (b : Bd) : Prop where
  s : b.p.size ≤ 140737488355328 ∧ b.n.size ≤ 140737488355328 ∧ b.s.size ≤ 140737488355328
  n : -9223372036854775808 ≤ b.v ∧ b.v ≤ 9223372036854775807
def bdL (b : Bd) : List (List UInt8) := [tx b.p, tx b.n, tx b.s, [by8 b.v]]
def bdE (b : Bd) : List (List UInt8) := [66] :: [1] :: bdL b
def bdS (b : Bd) : Bool := namedB b.p b.n && (L.nameB b.s && inB b.v 0 3)
def bdR (b : Bd) : ByteArray × Nat := if bdS b = true then outR (bdE b) else (⟨#[]⟩, 130)
theorem size_bd : (Tryz.prog.info? 28).map (·.size) = some 4 := by kernel_rfl
set_option maxHeartbeats 4000000 in
set_option maxRecDepth 100000 in
theorem bindingStands_any (b : Bd) (w : World) (hm : L.HasM w) : Calls Tryz.prog 77 #[b.val] w fun e w' => e = .returned (.bool (bdS b)) ∧ Below w.heap.size w w' := by
  obtain ⟨p, n, s, v⟩ := b
  obtain ⟨S, hS⟩ : ∃ S, S = bdS ⟨p, n, s, v⟩ := ⟨_, rfl⟩
  have ES : Aside (S = (namedB p n && (L.nameB s && inB v 0 3))) := hS
  rw [← hS]
  clear hS
  unfold Bd.val
  simp only
  obtain ⟨X, hX⟩ : ∃ X, X = w.alloc (.cells #[.string p, .string n, .string s, .int .i64 v] 28) := ⟨_, rfl⟩
  have AX : Hid (Below w.heap.size w X) := Lib.hid (by rw [hX]; exact (Below.refl _ w).alloc (Nat.le_refl _) _)
  have CX : Hid (∀ i y, #[Value.string p, .string n, .string s, .int .i64 v][i]? = some y → X.cell? ⟨w.heap.size, i, none⟩ = some y) := Lib.hid fun i y h => by
    rw [hX, World.cell?_alloc_new]; exact h
  have d0 := CX.out 0 _ rfl
  have d1 := CX.out 1 _ rfl
  have NA := Lib.hid (named_any p n X (hm.below AX.out))
  have hX' := hX.symm
  clear hX hm
  go_enter Tryz.func77, Tryz.ntmps77
  go_wp2_with fail
  refine NA.out.mono ?_
  rintro e w1 ⟨rfl, hb⟩
  have B1 := Lib.hid hb
  clear hb NA hX' d0 d1
  cases h1 : namedB p n with
  | false =>
    have F : Aside (S = false) := by show _ = _; rw [ES.out, h1]; rfl
    go_wp2_with fail
    go_ret
    exact ⟨by rw [F.out]; rfl, AX.out.trans (B1.out.mono AX.out.size)⟩
  | true =>
  have d2 := (B1.out.cell (block_lt_of_cell (CX.out 2 _ rfl))).trans (CX.out 2 _ rfl)
  have NB := Lib.hid (L.name_any s w1)
  go_wp2_with fail
  refine NB.out.mono ?_
  rintro e w2 ⟨rfl, hb⟩
  have B2 := Lib.hid (B1.out.trans (hb.mono B1.out.size))
  clear hb NB d2
  cases h2 : L.nameB s with
  | false =>
    have F : Aside (S = false) := by show _ = _; rw [ES.out, h2]; simp
    go_wp2_with fail
    go_ret
    exact ⟨by rw [F.out]; rfl, AX.out.trans (B2.out.mono AX.out.size)⟩
  | true =>
  have d3 := (B2.out.cell (block_lt_of_cell (CX.out 3 _ rfl))).trans (CX.out 3 _ rfl)
  have W3 := Lib.hid (within_any v 0 3 w2)
  have F : Aside (S = inB v 0 3) := by show _ = _; rw [ES.out, h1, h2]; rfl
  go_wp2_with fail
  refine W3.out.mono ?_
  rintro e w3 ⟨rfl, hw3⟩
  subst hw3
  clear d3 W3
  go_wp2_with fail
  go_ret
  exact ⟨by rw [F.out]; rfl, AX.out.trans (B2.out.mono AX.out.size)⟩
set_option maxHeartbeats 4000000 in
set_option maxRecDepth 100000 in
theorem layBinding_any (B g : Nat) (v : Value) (s : WS) (b : Bd) (w : World) (H : WAt B w g v s) (hf : b.Fit) (hn : 0 ≤ b.v ∧ b.v ≤ 9) :
    Calls Tryz.prog 79 #[.pointer (some ⟨g, 0, none⟩), b.val] w fun e w' => e = .returned (.tuple #[]) ∧ Laid B g v ((bdL b).foldl WS.lay s) w w' := by
  have SZ := Lib.hid hf.s
  obtain ⟨bp, bn, bs, bv⟩ := b
  simp only at SZ hn
  have hPR := by8_c8 bv hn.1 hn.2
  obtain ⟨c, hc⟩ : ∃ c, c = by8 bv := ⟨_, rfl⟩
  rw [← hc] at hPR
  have EL : Aside (bdL ⟨bp, bn, bs, bv⟩ = [tx bp, tx bn, tx bs, [c]]) := by show _ = _; rw [hc]; rfl
  have P9 : Aside (bv = c8 c) := hPR
  have pr9 : 0 ≤ bv ∧ bv ≤ 255 := by omega
  obtain ⟨cs, hcs⟩ : ∃ cs : Array Value, cs = #[.string bp, .string bn, .string bs, .int .i64 bv] := ⟨_, rfl⟩
  obtain ⟨bo, hbo⟩ : ∃ bo, bo = w.heap.size := ⟨_, rfl⟩
  have W0 : Aside (LX w B g v s [(bo, cs, 28)] (w.alloc (.cells #[.string bp, .string bn, .string bs, .int .i64 bv] 28))) := by
    rw [hcs, hbo]; exact (Laid.refl H).lx.box _ _
  have CSA : Aside (cs = #[.string bp, .string bn, .string bs, .int .i64 bv]) := hcs
  clear hcs H hf hn hc hPR
  have c0 := W0.out.cell (List.mem_cons_self ..) (i := 0) (by rw [CSA.out]; rfl)
  rw [hbo] at c0
  unfold Bd.val
  simp only
  rw [EL.out]
  go_enter Tryz.func79, Tryz.ntmps79
  go_wp2_with fail
  rw [← hbo]
  clear hbo
  refine (W0.out.calls (fun v' hv => wText_any B g v' _ bp _ SZ.out.1 hv)).mono ?_
  rintro e w1 ⟨rfl, hw⟩
  have W1 : Aside (LX w B g v (s.lay (tx bp)) [(bo, cs, 28)] w1) := hw
  clear hw W0 c0
  have c1 := W1.out.cell (List.mem_cons_self ..) (i := 1) (by rw [CSA.out]; rfl)
  go_wp2_with fail
  refine (W1.out.calls (fun v' hv => wText_any B g v' _ bn _ SZ.out.2.1 hv)).mono ?_
  rintro e w2 ⟨rfl, hw⟩
  have W2 : Aside (LX w B g v ((s.lay (tx bp)).lay (tx bn)) [(bo, cs, 28)] w2) := hw
  clear hw W1 c1
  have c2 := W2.out.cell (List.mem_cons_self ..) (i := 2) (by rw [CSA.out]; rfl)
  go_wp2_with fail
  refine (W2.out.calls (fun v' hv => wText_any B g v' _ bs _ SZ.out.2.2 hv)).mono ?_
  rintro e w3 ⟨rfl, hw⟩
  have W3 : Aside (LX w B g v (((s.lay (tx bp)).lay (tx bn)).lay (tx bs)) [(bo, cs, 28)] w3) := hw
  clear hw W2 c2
  have c3 := W3.out.cell (List.mem_cons_self ..) (i := 3) (by rw [CSA.out]; rfl)
  go_wp2_with fail
  refine (W3.out.calls (fun v' hv => wByte_eq P9.out B g v' _ _ hv)).mono ?_
  rintro e w4 ⟨rfl, hw⟩
  have W4 : Aside (Laid B g v ([tx bp, tx bn, tx bs, [c]].foldl WS.lay s) w w4) := hw.laid
  clear hw W3 c3
  go_wp2_with fail
  go_end0
  exact ⟨rfl, W4.out⟩
set_option maxHeartbeats 2000000 in
theorem layB1_any (w0 : World) (bo B g : Nat) (v : Value) (s : WS) (b : Bd) (w : World) (H : WAt B w g v s) (h0 : Below w0.heap.size w0 w) (hf : b.Fit) (hn : 0 ≤ b.v ∧ b.v ≤ 9)
    (hb : w0.heap[bo]? = some (.cells #[.string b.p, .string b.n, .string b.s, .int .i64 b.v] 28 (0, 0))) :
    Calls Tryz.prog 78 #[.pointer (some ⟨g, 0, none⟩), .pointer (some ⟨bo, 0, none⟩)] w fun e w' => e = .returned (.tuple #[]) ∧ Laid B g v ((bdL b).foldl WS.lay s) w w' := by
  have LA := Lib.hid (layBinding_any B g v s b w H hf hn)
  have hc : ∀ i y, (#[.string b.p, .string b.n, .string b.s, .int .i64 b.v] : Array Value)[i]? = some y → w.cell? ⟨bo, i, none⟩ = some y := fun i y hy => by
    have q : w0.cell? ⟨bo, i, none⟩ = some y := by rw [cell_of_row w0 bo i _ _ _ hb]; exact hy
    exact (h0.cell (block_lt_of_cell q)).trans q
  have d0 := hc 0 _ rfl
  have d1 := hc 1 _ rfl
  have d2 := hc 2 _ rfl
  have d3 := hc 3 _ rfl
  unfold Bd.val at LA
  clear H h0 hf hn hb hc
  go_enter Tryz.func78, Tryz.ntmps78
  go_wp2_with fail
  refine LA.out.mono ?_
  rintro e w1 ⟨rfl, hl⟩
  have L1 := Lib.hid hl
  clear hl d0 d1 d2 d3
  go_wp2_with fail
  go_end0
  exact ⟨rfl, L1.out⟩
set_option maxHeartbeats 4000000 in
set_option maxRecDepth 100000 in
theorem bytesOfB_any (bo : Nat) (b : Bd) (w : World) (hf : b.Fit) (hn : 0 ≤ b.v ∧ b.v ≤ 9) (hb : w.heap[bo]? = some (.cells #[.string b.p, .string b.n, .string b.s, .int .i64 b.v] 28 (0, 0))) :
    Calls Tryz.prog 76 #[.bool true, .int .u8 66, .func (.func 78) #[] #[.pointer (some ⟨bo, 0, none⟩)]] w fun e w' => e = .returned (.tuple #[.string (outR (bdE b)).1, .int .i64 (outR (bdE b)).2]) ∧ Below w.heap.size w w' := by
  have V := Lib.hid (And.intro hf (And.intro hn hb))
  clear hf hn hb
  go_enter Tryz.func76, Tryz.ntmps76
  go_wp2_with fail
  refine (newWriter_any 8192 w).mono ?_
  rintro e w3 ⟨rfl, hw, _, hb⟩
  obtain ⟨B, hB⟩ : ∃ B, B = w.heap.size := ⟨_, rfl⟩
  rw [← hB] at hw ⊢
  have W3 : Aside (WW w B B wr0 w3) := ⟨⟨_, hw⟩, by rw [hB]; exact Nat.le_refl _, hb⟩
  clear hw hb hB
  go_wp2_with fail
  refine (W3.out.calls (fun v hv => wByte_eq (n := 66) (c := 66) rfl B B v _ w3 hv)).mono ?_
  rintro e w4 ⟨rfl, hw⟩
  have W4 : Aside (WW w B B (wr0.lay [66]) w4) := hw
  clear hw W3
  go_wp2_with fail
  refine (W4.out.calls (fun v hv => wByte_eq (n := 1) (c := 1) rfl B B v _ w4 hv)).mono ?_
  rintro e w5 ⟨rfl, hw⟩
  have W5 : Aside (WW w B B ((wr0.lay [66]).lay [1]) w5) := hw
  clear hw W4
  go_wp2_with fail
  refine (W5.out.calls (fun v hv => layB1_any w bo B B v _ b w5 hv W5.out.be V.out.1 V.out.2.1 V.out.2.2)).mono ?_
  rintro e w6 ⟨rfl, hw⟩
  have W6 : Aside (WW w B B ((bdE b).foldl WS.lay wr0) w6) := hw
  clear hw W5
  go_wp2_with fail
  obtain ⟨u, hu⟩ := W6.out.wr
  refine (wOut_any _ _ _ _ w6 hu).mono ?_
  rintro e w7 ⟨v2, rfl, ho, hb⟩
  have hc := convT ho.bytes
  have A : Aside (Below w.heap.size w w7) := W6.out.be.trans (hb.mono W6.out.be.size)
  have E : Aside _ := lays_out (bdE b)
  clear ho hb hu
  go_wp2_with fail
  go_ret2
  exact ⟨by rw [← E.out]; rfl, A.out⟩
set_option maxHeartbeats 4000000 in
set_option maxRecDepth 100000 in
theorem encodeB_any (b : Bd) (w : World) (hm : L.HasM w) (hf : b.Fit) :
    Calls Tryz.prog 49 #[b.val] w fun e w' => e = .returned (.tuple #[.string (bdR b).1, .int .i64 (bdR b).2]) ∧ Below w.heap.size w w' := by
  obtain ⟨X, hX⟩ : ∃ X, X = w.alloc (.cells #[.string b.p, .string b.n, .string b.s, .int .i64 b.v] 28) := ⟨_, rfl⟩
  have AX : Hid (Below w.heap.size w X) := Lib.hid (by rw [hX]; exact (Below.refl _ w).alloc (Nat.le_refl _) _)
  have HX : X.heap[w.heap.size]? = some (.cells #[.string b.p, .string b.n, .string b.s, .int .i64 b.v] 28 (0, 0)) := by rw [hX, heap_alloc_new]
  have hc : ∀ i y, (#[.string b.p, .string b.n, .string b.s, .int .i64 b.v] : Array Value)[i]? = some y → X.cell? ⟨w.heap.size, i, none⟩ = some y := fun i y hy => by
    rw [cell_of_row X w.heap.size i _ _ _ HX]; exact hy
  have d0 := hc 0 _ rfl
  have d1 := hc 1 _ rfl
  have d2 := hc 2 _ rfl
  have d3 := hc 3 _ rfl
  have V := Lib.hid (And.intro hf HX)
  have OS := Lib.hid (bindingStands_any b X (hm.below AX.out))
  unfold Bd.val at OS ⊢
  have hX' := hX.symm
  clear hX HX hc hf hm
  go_enter Tryz.func49, Tryz.ntmps49
  go_wp2_with fail
  refine OS.out.mono ?_
  rintro e w1 ⟨rfl, hb⟩
  have B1 := Lib.hid hb
  clear hb d0 d1 d2 d3 hX' OS
  cases hS : bdS b with
  | false =>
    have E : Aside (bdR b = (⟨#[]⟩, 130)) := by show _ = _; unfold bdR; rw [hS]; rfl
    go_wp2_with fail
    refine (bytesOf_no _ _ w1).mono ?_
    rintro e w2 ⟨rfl, rfl⟩
    go_wp2_with fail
    go_ret2
    exact ⟨by rw [E.out]; rfl, AX.out.trans (B1.out.mono AX.out.size)⟩
  | true =>
    have E : Aside (bdR b = outR (bdE b)) := by show _ = _; unfold bdR; rw [hS]; rfl
    have hv : 0 ≤ b.v ∧ b.v ≤ 9 := by
      unfold bdS inB at hS
      simp only [Bool.and_eq_true, decide_eq_true_iff] at hS
      exact ⟨hS.2.2.1, by omega⟩
    have BO := Lib.hid (bytesOfB_any w.heap.size b w1 V.out.1 hv (by rw [B1.out.block w.heap.size (lt_of_some V.out.2)]; exact V.out.2))
    clear hS hv
    go_wp2_with fail
    refine BO.out.mono ?_
    rintro e w2 ⟨rfl, hb⟩
    have B2 := Lib.hid hb
    clear hb BO
    go_wp2_with fail
    go_ret2
    exact ⟨by rw [E.out]; rfl, AX.out.trans ((B1.out.trans (B2.out.mono B1.out.size)).mono AX.out.size)⟩
set_option maxHeartbeats 1000000 in
theorem validB_any (o : Bd) (w : World) (hm : L.HasM w) (hf : o.Fit) :
    Calls Tryz.prog 26 #[o.val] w fun e w' => e = .returned (.int .i64 (bdR o).2) ∧ Below w.heap.size w w' := by
  have A0 := Lib.hid ((Below.refl _ w).alloc (Nat.le_refl _) (.cells #[.string o.p, .string o.n, .string o.s, .int .i64 o.v] 28))
  have EN := Lib.hid (encodeB_any o _ (hm.below A0.out) hf)
  unfold Bd.val at EN ⊢
  clear hf hm
  go_enter Tryz.func26, Tryz.ntmps26
  go_wp2_with fail
  refine EN.out.mono ?_
  rintro e w1 ⟨rfl, hb⟩
  have B1 := Lib.hid hb
  clear hb EN
  go_wp2_with fail
  go_ret
  exact ⟨rfl, A0.out.trans (B1.out.mono A0.out.size)⟩
end Go.Proofs.YthdofbjijpghfaaGreatDoor
end S0

section S1
namespace Go.Proofs.YthdofbjijpghfaaGreatDoor
open Go.RowKit
namespace Ac
def pv (p n : ByteArray) : Value := .agg #[.string p, .string n]
def rv (s : ByteArray) (v : Int) : Value := .agg #[.string s, .int .i64 v]
def kl (p n : ByteArray) : Lit := .string (keyBytes [.string p.data.toList, .string n.data.toList])
def eR (s : ByteArray) (v : Int) : DataW Unit := .agg [.lit (.string s.data.toList), .lit (.int .i64 v)]
def rR (v : Value) : Option (DataW Unit × List MemPlace) :=
  match v with
  | .agg xs => match xs.toList with
    | [.string s, .int .i64 n] => some (eR s n, [])
    | _ => none
  | _ => none
theorem rR_mk (s : ByteArray) (v : Int) : rR (rv s v) = some (eR s v, []) := rfl
theorem rR_inv (x : Value) (y : DataW Unit × List MemPlace) (h : rR x = some y) : ∃ c : ByteArray × Int, x = rv c.1 c.2 ∧ y = (eR c.1 c.2, []) := by
  unfold rR at h
  split at h
  · rename_i xs
    split at h
    · rename_i s n e
      simp only [Option.some.injEq] at h
      refine ⟨(s, n), ?_, h.symm⟩
      unfold rv
      congr 1
      apply Array.ext'
      rw [e]
    · simp at h
  · simp at h
theorem eR_inj {s s' : ByteArray} {v v' : Int} (h : eR s v = eR s' v') : s = s' ∧ v = v' := by
  unfold eR at h
  simp only [DataW.agg.injEq, List.cons.injEq, DataW.lit.injEq, Lit.string.injEq, Lit.int.injEq, true_and, and_true] at h
  refine ⟨?_, h.2⟩
  apply ByteArray.ext
  apply Array.ext'
  exact h.1
theorem laidOut : laidOutB Tryz.prog = true := by kernel_rfl
theorem row : 52 < Tryz.prog.types.size := of_decide_eq_true (by kernel_rfl)
theorem wide : (match Tryz.prog.underlying 52 with | some (.array _ _) | some (.struct _) => true | _ => false) = true := by kernel_rfl
set_option maxRecDepth 100000 in
theorem K : Maps.Keyed Tryz.prog 52 := Maps.Keyed.of_law (deep_law_laid laidOut (m := 3) (by omega) row (by kernel_rfl) wide)
theorem keyT : Tryz.prog.keyType 52 = true := by kernel_rfl
theorem cells2 : Tryz.prog.cellsOf 52 = 2 := by kernel_rfl
theorem cells1 : Tryz.prog.cellsOf 9 = 1 := by kernel_rfl
theorem types1 : 1 ≤ Tryz.prog.types.size := of_decide_eq_true (by kernel_rfl)
theorem types2 : ∃ m, Tryz.prog.types.size = m + 1 := ⟨_, (Nat.sub_add_cancel types1).symm⟩
theorem str_lits (d : Nat) (s : ByteArray) (h : s.size ≤ maxLen) : Tryz.prog.keyLits (d + 1) 9 [.string s] = some [.string s.data.toList] := by
  simp [Program.keyLits, Tryz.underlying9, h]
set_option maxRecDepth 100000 in
theorem str_lits_inv {d : Nat} {cs : List Value} {l : List Lit} (h : Tryz.prog.keyLits (d + 1) 9 cs = some l) : ∃ s : ByteArray, cs = [.string s] ∧ s.size ≤ maxLen ∧ l = [.string s.data.toList] := by
  unfold Program.keyLits at h
  rw [Tryz.underlying9] at h
  match cs, h with
  | [.string s], h =>
    simp only at h
    split at h
    · rename_i hs
      exact ⟨s, rfl, hs, by simpa using h.symm⟩
    · simp at h
theorem key_mk (p n : ByteArray) (hp : p.size ≤ maxLen) (hn : n.size ≤ maxLen) : keyOf Tryz.prog 52 (pv p n) = some (kl p n) := by
  obtain ⟨m, hm⟩ := types2
  have hf : (pv p n).formed Tryz.prog 52 = true := by
    simp [Value.formed, pv, Tryz.underlying52, cells2]
  unfold keyOf
  rw [Tryz.underlying52]
  simp only [keyT, hf, Bool.and_self, if_true]
  rw [hm]
  have e : (pv p n).cells.toList = [.string p, .string n] := rfl
  rw [e]
  unfold Program.keyLits
  rw [Tryz.underlying52]
  simp only [cells2]
  simp [str_lits _ _ hp, str_lits _ _ hn, cells1, kl]
set_option maxRecDepth 100000 in
theorem key_inv (key : Value) (l : Lit) (h : keyOf Tryz.prog 52 key = some l) : ∃ x : ByteArray × ByteArray, key = pv x.1 x.2 ∧ l = kl x.1 x.2 ∧ x.1.size ≤ maxLen ∧ x.2.size ≤ maxLen := by
  obtain ⟨m, hm⟩ := types2
  unfold keyOf at h
  rw [Tryz.underlying52] at h
  simp only at h
  split at h
  · rename_i hf
    simp only [keyT, Bool.true_and] at hf
    rw [hm] at h
    unfold Program.keyLits at h
    rw [Tryz.underlying52] at h
    simp only [cells2] at h
    split at h
    · rename_i hl
      simp only [List.mapM_cons, List.mapM_nil, cells1, List.drop_zero] at h
      have hd : key.cells.toList.length = 2 := hl.1
      cases h1 : Tryz.prog.keyLits (m + 1) 9 (List.take 1 key.cells.toList) with
      | none => rw [h1] at h; simp at h
      | some l1 =>
      cases h2 : Tryz.prog.keyLits (m + 1) 9 (List.take 1 (List.drop 1 key.cells.toList)) with
      | none => rw [h1, h2] at h; simp at h
      | some l2 =>
      rw [h1, h2] at h
      obtain ⟨p, e1, s1, rfl⟩ := str_lits_inv h1
      obtain ⟨n, e2, s2, rfl⟩ := str_lits_inv h2
      have hc : key.cells.toList = [.string p, .string n] := by
        match hk : key.cells.toList, hd with
        | [a, b], _ =>
          rw [hk] at e1 e2
          simp only [List.take, List.drop, List.cons.injEq, and_true] at e1 e2
          rw [e1, e2]
      refine ⟨(p, n), ?_, ?_, s1, s2⟩
      · cases key <;> simp [Value.cells] at hc
        rename_i xs
        unfold pv
        congr 1
        apply Array.ext'
        rw [hc]
      · simp at h
        rw [← h]
        rfl
    · simp at h
  · simp at h
end Ac
end Go.Proofs.YthdofbjijpghfaaGreatDoor
end S1

section S2
namespace Go.Proofs.YthdofbjijpghfaaGreatDoor
open Go.RowKit
namespace Ac
/-- The table at t, its map at b (at most n entries), read as D. -/
structure Tb (w : World) (t b n : Nat) (D : DataW Unit) : Prop where
  t : w.heap[t]? = some (.cells #[.map (some b)] 38 (0, 0))
  m : w.ownsMap Tryz.prog 52 rR b n D
variable {w w' : World} {t b n : Nat} {D : DataW Unit}
theorem own_same (h : w.ownsMap Tryz.prog 52 rR b n D) (e : w'.heap[b]? = w.heap[b]?) : w'.ownsMap Tryz.prog 52 rR b n D := by
  obtain ⟨es, clock, hb, F, hs, hD⟩ := h
  exact ⟨es, clock, e.trans hb, F, hs, hD⟩
theorem Tb.kept {F : Nat → Prop} (h : Tb w t b n D) (hk : Kept F w w') (ht : ¬ F t) (hb : ¬ F b) : Tb w' t b n D :=
  ⟨(hk.block t (lt_of_some h.t) ht).trans h.t, own_same h.m (hk.block b h.m.lt hb)⟩
theorem Tb.below (h : Tb w t b n D) (hb : Below w.heap.size w w') : Tb w' t b n D := h.kept (Below.kept hb (fun _ => False)) id id
theorem Tb.ne (h : Tb w t b n D) : t ≠ b := fun e => by
  obtain ⟨es, clock, hb, _⟩ := h.m
  have := h.t
  rw [e, hb] at this
  simp at this
theorem Tb.cell (h : Tb w t b n D) : w.cell? ⟨t, 0, none⟩ = some (.map (some b)) := by rw [cell_of_row w t 0 _ _ _ h.t]; rfl
theorem Tb.more (h : Tb w t b n D) {n' : Nat} (hn : n ≤ n') : Tb w t b n' D := ⟨h.t, h.m.mono hn⟩
theorem teq_no {x y : ByteArray} (h : x ≠ y) : (x.toList == y.toList) = false := by
  rw [beq_eq_false_iff_ne]
  intro e
  apply h
  rw [ByteArray.toList_eq, ByteArray.toList_eq] at e
  exact ByteArray.ext (Array.ext' e)
theorem make_map (w : World) : (Instr.makeMap 36 none).run Tryz.prog w = .ok (.map (some w.heap.size)) (w.alloc (.map #[] 0)) := by
  first | rfl | simp [Instr.makeMap, run_underlying Tryz.underlying36, Result.andThen]
theorem new_any (w : World) : Calls Tryz.prog 4 #[] w fun e w' => ∃ t b, e = .returned (.pointer (some ⟨t, 0, none⟩)) ∧ Tb w' t b 0 (.map []) ∧ w.heap.size ≤ t ∧ w.heap.size ≤ b ∧ Below w.heap.size w w' := by
  have hmm := make_map
  go_enter Tryz.func4, Tryz.ntmps4
  go_wp2_with fail
  go_ret
  refine ⟨_, _, rfl, ⟨?_, ?_⟩, ?_, Nat.le_refl _, ?_⟩
  · have := heap_alloc_new (w.alloc (.map #[] 0)) (.cells #[.map (some w.heap.size)] 38)
    rw [World.size_alloc] at this
    exact this
  · exact own_same (World.ownsMap_made w _ _ _) (Below.heap_alloc _ _ _ (by simp))
  · omega
  · exact ((Below.refl _ _).alloc (Nat.le_refl _) _).alloc (by simp) _
theorem zero_right (w : World) : (zeroValue 54).run Tryz.prog w = .ok (rv ⟨#[]⟩ 0) w := by kernel_rfl
set_option maxHeartbeats 2000000 in
set_option maxRecDepth 100000 in
theorem has_any (p q : ByteArray) (w : World) (t b n : Nat) (D : DataW Unit) (H : Tb w t b n D) (hp : p.size ≤ maxLen) (hq : q.size ≤ maxLen) :
    Calls Tryz.prog 27 #[.pointer (some ⟨t, 0, none⟩), .string p, .string q] w fun e w' => e = .returned (.bool (Maps.has D (kl p q))) ∧ Below w.heap.size w w' := by
  have H' := Lib.hid H
  have KY := Lib.hid (key_mk p q hp hq)
  have c0 := H.cell
  clear H hp hq
  go_enter Tryz.func27, Tryz.ntmps27
  go_wp2_with (at_lookup; refine wpList_lookup_own_ok _ rfl _ _ 36 rfl 52 54 K Tryz.underlying36 rR (zero_right _) (eR ⟨#[]⟩ 0) [] (rR_mk _ _) b n D rfl H'.out.m _ _ rfl KY.out ?_; intro v ps hv; obtain ⟨⟨s, m⟩, hvv, -⟩ := rR_inv v _ hv; subst hvv; clear hv; unfold rv)
  go_ret
  exact ⟨rfl, (Below.refl _ _).alloc (Nat.le_refl _) _⟩
set_option maxHeartbeats 4000000 in
set_option maxRecDepth 100000 in
theorem held_any (p : ByteArray) (w : World) (t b n : Nat) (D : DataW Unit) (H : Tb w t b n D) (hn : n ≤ 1000000) :
    Calls Tryz.prog 28 #[.pointer (some ⟨t, 0, none⟩), .string p] w fun e w' => ∃ k : Nat, e = .returned (.int .i64 k) ∧ k ≤ Maps.size D ∧ Below w.heap.size w w' := by
  have H' := Lib.hid H
  have SZ := Lib.hid (Nat.le_trans H.m.size_le hn)
  have c0 := H.cell
  clear H hn
  obtain ⟨r, hr⟩ : ∃ r, r = w.heap.size := ⟨_, rfl⟩
  go_enter Tryz.func28, Tryz.ntmps28
  go_wp2_with (at_range; refine wpList_range_own _ rfl _ 36 rfl 52 54 K Tryz.underlying36 rR b n D rfl H'.out.m ?_; intro w0 hrg0 hg0 hs0)
  go_frame
  rw [← hr] at hrg0 ⊢
  have S0 : Hid (w0.ranges Tryz.prog 52 rR b r n D (Maps.has D) (Maps.size D) ∧ Below w.heap.size w w0) := Lib.hid ⟨hrg0, (Below.refl _ w).grown hg0 (Nat.le_refl _) (fun k e => by cases e)⟩
  have RB : Hid (w.heap.size ≤ r) := Lib.hid (by rw [hr]; exact Nat.le_refl _)
  clear hrg0 hg0 hs0 hr
  go_loopw [5] (fun s wr => ∃ (left : Lit → Bool) (cnt k : Nat), s = .int .i64 k ∧ Hid (wr.ranges Tryz.prog 52 rR b r n D left cnt ∧ Below w.heap.size w wr ∧ k + cnt ≤ Maps.size D)) (fun _ wr => wr.rangeLeft b r)
  case atStart => exact ⟨_, _, 0, rfl, Lib.hid ⟨S0.out.1, S0.out.2, by omega⟩⟩
  case round =>
    clear S0
    obtain ⟨left, cnt, k, rfl, S⟩ := hrel
    have hk : (k : Int) < 1000001 := by have := S.out.2.2; have := SZ.out; omega
    go_wp2_with (at_next; refine wpList_next_ranges _ rfl _ rfl 52 K rR (fun x : ByteArray × ByteArray => pv x.1 x.2) (fun x : ByteArray × Int => rv x.1 x.2) (fun key l h => (key_inv key l h).imp fun _ q => q.1) (fun v y h => (rR_inv v y h).imp fun _ q => q.1) b r n D left cnt rfl S.out.1 ?_ ?_)
    · intro h0 hl
      go_wp2_with fail
      go_ret
      exact ⟨k, rfl, by have := S.out.2.2; omega, S.out.2.1⟩
    · rintro p2 q2 s2 v2 l2 yd yp w2 cnt2 hkey hl2 hR hat hrg2 hlt hg2 hs2 hen
      unfold pv rv at hen
      have S2 : Hid (w2.ranges Tryz.prog 52 rR b r n D (fun z => left z && !z.sameKey l2) cnt2 ∧ Below w.heap.size w w2 ∧ cnt2 < cnt) := Lib.hid ⟨hrg2, S.out.2.1.trans ((Below.refl _ wr).grown hg2 S.out.2.1.size (fun k e => by cases e; exact RB.out)), hlt⟩
      clear hkey hl2 hR hat hrg2 hlt hg2 hs2
      by_cases he : p2 = p
      · subst he
        have A2 : Hid (World.ranges (w2.alloc (.cells #[.string p2, .string q2] 52)) Tryz.prog 52 rR b r n D (fun z => left z && !z.sameKey l2) cnt2 ∧ Below w.heap.size w (w2.alloc (.cells #[.string p2, .string q2] 52))) := Lib.hid ⟨S2.out.1.alloc _, S2.out.2.1.alloc S2.out.2.1.size _⟩
        go_wp2_with fail
        go_roundw
        case rel => exact ⟨_, cnt2, k + 1, by go_num, Lib.hid ⟨A2.out.1, A2.out.2, by have := S.out.2.2; have := S2.out.2.2; omega⟩⟩
        case measure => rw [A2.out.1.left_eq, S.out.1.left_eq]; exact S2.out.2.2
      · have ge := teq_no he
        clear he
        have A2 : Hid (World.ranges (w2.alloc (.cells #[.string p2, .string q2] 52)) Tryz.prog 52 rR b r n D (fun z => left z && !z.sameKey l2) cnt2 ∧ Below w.heap.size w (w2.alloc (.cells #[.string p2, .string q2] 52))) := Lib.hid ⟨S2.out.1.alloc _, S2.out.2.1.alloc S2.out.2.1.size _⟩
        go_wp2_with fail
        go_roundw
        case rel => exact ⟨_, cnt2, k, rfl, Lib.hid ⟨A2.out.1, A2.out.2, by have := S.out.2.2; have := S2.out.2.2; omega⟩⟩
        case measure => rw [A2.out.1.left_eq, S.out.1.left_eq]; exact S2.out.2.2
end Ac
end Go.Proofs.YthdofbjijpghfaaGreatDoor
end S2

section S3
namespace Go.Proofs.YthdofbjijpghfaaGreatDoor
open Go.RowKit
namespace Ac
theorem clone_any (s : ByteArray) (w : World) (h : s.size ≤ 140737488355328) : Calls Tryz.prog 50 #[.string s] w fun e w' => e = .returned (.string s) ∧ Below w.heap.size w w' := by
  have C := Lib.hid (Tryz.stringslite_Clone s w (by omega))
  clear h
  go_enter Tryz.func50, Tryz.ntmps50
  go_wp2_with fail
  refine C.out.mono ?_
  rintro e w1 ⟨rfl, hb⟩
  have B := Lib.hid hb
  clear hb C
  go_wp2_with fail
  go_ret
  exact ⟨rfl, B.out⟩
theorem cellA {W : World} {a : Addr} {v : Value} (h : W.cell? a = some v) (o : Obj) : (W.alloc o).cell? a = some v := (((Below.refl _ W).alloc (Nat.le_refl _) o).cell (block_lt_of_cell h)).trans h
theorem bal {B : Nat} {w W : World} (h : Below B w W) (hB : B ≤ w.heap.size) (o : Obj) : Below B w (W.alloc o) := h.alloc (Nat.le_trans hB h.size) o
/-- A place's block, made since w. -/
def Pl (B : Nat) (W : World) (g : Nat) (p q : ByteArray) : Prop := B ≤ g ∧ W.heap[g]? = some (.cells #[.string p, .string q] 52 (0, 0))
theorem Pl.call {B : Nat} {W W' : World} {g : Nat} {p q : ByteArray} (h : Pl B W g p q) (hb : Below W.heap.size W W') : Pl B W' g p q := ⟨h.1, (hb.block g (lt_of_some h.2)).trans h.2⟩
theorem Pl.made {B : Nat} {W : World} (hB : B ≤ W.heap.size) (p q : ByteArray) : Pl B (W.alloc (.cells #[.string p, .string q] 52)) W.heap.size p q := ⟨hB, by rw [heap_alloc_new]⟩
theorem Pl.facts {B : Nat} {W : World} {g : Nat} {p q : ByteArray} (h : Pl B W g p q) : W.cell? ⟨g, 0, none⟩ = some (.string p) ∧ W.cell? ⟨g, 1, none⟩ = some (.string q) ∧ W.frozen? ⟨g, 0, none⟩ = false ∧ W.frozen? ⟨g, 1, none⟩ = false :=
  ⟨by rw [cell_of_row _ _ _ _ _ _ h.2]; rfl, by rw [cell_of_row _ _ _ _ _ _ h.2]; rfl, frozen_of_row _ _ _ _ _ h.2, frozen_of_row _ _ _ _ _ h.2⟩
theorem Pl.set {B : Nat} {W : World} {g : Nat} {p q p' q' : ByteArray} (h : Pl B W g p q) : Pl B ((W.setCell ⟨g, 0, none⟩ (.string p')).setCell ⟨g, 1, none⟩ (.string q')) g p' q' := by
  refine ⟨h.1, ?_⟩
  rw [heap_setCell_same _ _ _ _ _ _ (heap_setCell_same _ _ _ _ _ _ h.2)]
  rfl
theorem Pl.other {B : Nat} {W : World} {g g3 i : Nat} {p q : ByteArray} {a c v : Value} (h : Pl B W g p q) (hg : g3 < B) (hc : W.cell? ⟨g3, i, none⟩ = some v) : ((W.setCell ⟨g, 0, none⟩ a).setCell ⟨g, 1, none⟩ c).cell? ⟨g3, i, none⟩ = some v := by
  have hne : g3 ≠ g := by have := h.1; omega
  rw [World.cell?_of_block (Below.heap_setCell _ _ _ _ hne), World.cell?_of_block (Below.heap_setCell _ _ _ _ hne)]
  exact hc
set_option maxHeartbeats 8000000 in
set_option maxRecDepth 100000 in
theorem lay_any (x : Bd) (w : World) (t b n : Nat) (D : DataW Unit) (H : Tb w t b n D) (hn : n ≤ 1000000) (hf : x.Fit) :
    Calls Tryz.prog 29 #[.pointer (some ⟨t, 0, none⟩), x.val] w fun e w' => e = .returned (.tuple #[]) ∧ Tb w' t b (n + 1) (D.put (kl x.p x.n) (eR x.s x.v)) ∧ Kept (fun y => y = b) w w' := by
  obtain ⟨p, q, s, v⟩ := x
  have FI := Lib.hid hf
  have H' := Lib.hid H
  have NN := Lib.hid hn
  unfold Bd.val
  simp only
  obtain ⟨g3, hg3⟩ : ∃ g, g = w.heap.size := ⟨_, rfl⟩
  obtain ⟨X, hX⟩ : ∃ X, X = w.alloc (.cells #[.string p, .string q, .string s, .int .i64 v] 28) := ⟨_, rfl⟩
  have AX : Hid (Below w.heap.size w X ∧ X.heap[g3]? = some (.cells #[.string p, .string q, .string s, .int .i64 v] 28 (0, 0)) ∧ X.heap.size = w.heap.size + 1) := Lib.hid ⟨by rw [hX]; exact (Below.refl _ w).alloc (Nat.le_refl _) _, by rw [hX, hg3, heap_alloc_new], by rw [hX]; simp⟩
  have c0 : X.cell? ⟨g3, 0, none⟩ = some (.string p) := by rw [cell_of_row _ _ _ _ _ _ AX.out.2.1]; rfl
  have c1 : X.cell? ⟨g3, 1, none⟩ = some (.string q) := by rw [cell_of_row _ _ _ _ _ _ AX.out.2.1]; rfl
  have CL : Hid (∀ r W, (r = p ∨ r = q) → Calls Tryz.prog 50 #[.string r] W fun e w' => e = .returned (.string r) ∧ Below W.heap.size W w') := Lib.hid fun r W h => clone_any r W (h.elim (fun e => by rw [e]; exact hf.s.1) (fun e => by rw [e]; exact hf.s.2.1))
  have G3 : Hid (g3 < X.heap.size) := Lib.hid (lt_of_some AX.out.2.1)
  have BD : Hid (Below X.heap.size X X.drew) := Lib.hid ((Below.refl _ X).drew)
  have d0 : X.drew.cell? ⟨g3, 0, none⟩ = some (.string p) := c0
  have d1 : X.drew.cell? ⟨g3, 1, none⟩ = some (.string q) := c1
  have hX' := hX.symm
  have hg3' := hg3.symm
  clear hX hg3 hf H hn
  go_enter Tryz.func29, Tryz.ntmps29
  go_wp2_with fail
  go_cut [4] from 5 to 11 (fun s4 wx => ∃ g4, s4 = .pointer (some ⟨g4, 0, none⟩) ∧ Hid (Pl X.heap.size wx g4 p q ∧ Below X.heap.size X wx))
  case first =>
    have d2 := cellA d0 (Obj.cells #[.string ⟨#[]⟩, .string ⟨#[]⟩] 52)
    have d3 := cellA d1 (Obj.cells #[.string ⟨#[]⟩, .string ⟨#[]⟩] 52)
    have M1 : True := trivial
    go_region_held3 (fun W : World => W.cell? ⟨g3, 0, none⟩ = some (.string p) ∧ W.cell? ⟨g3, 1, none⟩ = some (.string q)) (first | (constructor <;> assumption) | (constructor <;> first | exact LM.out.other G3.out (by assumption)) | go_keep) (first
      | (go_at_call 50
         clear M1
         refine (CL.out _ _ (by first | exact Or.inl rfl | exact Or.inr rfl)).mono ?_
         rintro e x6 ⟨rfl, hb6⟩
         have Q6 : Hid (Below X.heap.size X x6) := Lib.hid (by first | exact BD.out.trans (hb6.mono BD.out.size) | exact (bal BD.out (Nat.le_refl _) _).trans (hb6.mono (bal BD.out (Nat.le_refl _) _).size))
         have z0 : x6.cell? ⟨g3, 0, none⟩ = some (.string p) := (Q6.out.cell (block_lt_of_cell c0)).trans c0
         have z1 : x6.cell? ⟨g3, 1, none⟩ = some (.string q) := (Q6.out.cell (block_lt_of_cell c1)).trans c1
         have z2 := cellA z0 (Obj.cells #[.string ⟨#[]⟩, .string ⟨#[]⟩] 52)
         have z3 := cellA z1 (Obj.cells #[.string ⟨#[]⟩, .string ⟨#[]⟩] 52)
         first
           | (have LL : Hid (Pl X.heap.size x6 X.heap.size ⟨#[]⟩ ⟨#[]⟩) := Lib.hid ((Pl.made (W := X.drew) (Nat.le_refl _) _ _).call hb6))
           | skip
         clear hb6)
      | (go_at_call 50
         refine (CL.out _ _ (by first | exact Or.inl rfl | exact Or.inr rfl)).mono ?_
         rintro e x7 ⟨rfl, hb7⟩
         have Q7 : Hid (Below X.heap.size X x7) := Lib.hid (by first | exact Q6.out.trans (hb7.mono Q6.out.size) | exact (bal Q6.out (Nat.le_refl _) _).trans (hb7.mono (bal Q6.out (Nat.le_refl _) _).size))
         have y0 : x7.cell? ⟨g3, 0, none⟩ = some (.string p) := (Q7.out.cell (block_lt_of_cell c0)).trans c0
         have y1 : x7.cell? ⟨g3, 1, none⟩ = some (.string q) := (Q7.out.cell (block_lt_of_cell c1)).trans c1
         have y2 := cellA y0 (Obj.cells #[.string ⟨#[]⟩, .string ⟨#[]⟩] 52)
         have y3 := cellA y1 (Obj.cells #[.string ⟨#[]⟩, .string ⟨#[]⟩] 52)
         first
           | (have LM := Lib.hid (LL.out.call hb7); obtain ⟨k0, k1, k2, k3⟩ := LM.out.facts)
           | (have LM : Hid (Pl X.heap.size x7 x6.heap.size ⟨#[]⟩ ⟨#[]⟩) := Lib.hid ((Pl.made (W := x6) Q6.out.size _ _).call hb7); obtain ⟨k0, k1, k2, k3⟩ := LM.out.facts)
           | skip
         clear hb7))
    all_goals
      go_wp2_with fail
      go_meet
      first
        | exact ⟨_, rfl, Lib.hid ⟨Pl.made Q7.out.size _ _, bal Q7.out (Nat.le_refl _) _⟩⟩
        | exact ⟨_, rfl, Lib.hid ⟨LM.out.set, (Q7.out.setCell (p := ⟨_, 0, none⟩) LM.out.1 _).setCell (p := ⟨_, 1, none⟩) LM.out.1 _⟩⟩
  case rest =>
    obtain ⟨g4, rfl, PL⟩ := hcut
    have TC : Hid (Tb wc t b n D) := Lib.hid ((H'.out.below AX.out.1).below PL.out.2)
    have e0 : wc.cell? ⟨t, 0, none⟩ = some (.map (some b)) := TC.out.cell
    obtain ⟨e1, e2, -, -⟩ := PL.out.1.facts
    have e3 : wc.cell? ⟨g3, 2, none⟩ = some (.string s) := (PL.out.2.cell (p := ⟨g3, 2, none⟩) G3.out).trans (by rw [cell_of_row _ _ _ _ _ _ AX.out.2.1]; rfl)
    have e4 : wc.cell? ⟨g3, 3, none⟩ = some (.int .i64 v) := (PL.out.2.cell (p := ⟨g3, 3, none⟩) G3.out).trans (by rw [cell_of_row _ _ _ _ _ _ AX.out.2.1]; rfl)
    have CS : Hid (∀ W, Calls Tryz.prog 50 #[.string s] W fun e w' => e = .returned (.string s) ∧ Below W.heap.size W w') := Lib.hid fun W => clone_any s W FI.out.s.2.2
    have KY := Lib.hid (key_mk p q (by have := FI.out.s.1; unfold maxLen; simp only at this; omega) (by have := FI.out.s.2.1; unfold maxLen; simp only at this; omega))
    have BC : Hid (Below wc.heap.size wc wc.drew) := Lib.hid ((Below.refl _ wc).drew)
    have f0 : wc.drew.cell? ⟨t, 0, none⟩ = some (.map (some b)) := e0
    have f1 : wc.drew.cell? ⟨g4, 0, none⟩ = some (.string p) := e1
    have f2 : wc.drew.cell? ⟨g4, 1, none⟩ = some (.string q) := e2
    have f3 : wc.drew.cell? ⟨g3, 2, none⟩ = some (.string s) := e3
    have f4 : wc.drew.cell? ⟨g3, 3, none⟩ = some (.int .i64 v) := e4
    go_wp2_with fail
    go_region_held3 (fun W : World => W.cell? ⟨t, 0, none⟩ = some (.map (some b)) ∧ W.cell? ⟨g4, 0, none⟩ = some (.string p) ∧ W.cell? ⟨g4, 1, none⟩ = some (.string q) ∧ W.cell? ⟨g3, 2, none⟩ = some (.string s) ∧ W.cell? ⟨g3, 3, none⟩ = some (.int .i64 v)) (first | exact ⟨by assumption, by assumption, by assumption, by assumption, by assumption⟩ | go_keep) (first
      | (go_at_call 50
         refine (CS.out _).mono ?_
         rintro e x6 ⟨rfl, hb6⟩
         have Q6 : Hid (Below wc.heap.size wc x6) := Lib.hid (BC.out.trans (hb6.mono BC.out.size))
         have T6 : Hid (Tb x6 t b n D) := Lib.hid (TC.out.below Q6.out)
         have z0 : x6.cell? ⟨t, 0, none⟩ = some (.map (some b)) := (Q6.out.cell (block_lt_of_cell e0)).trans e0
         have z1 : x6.cell? ⟨g4, 0, none⟩ = some (.string p) := (Q6.out.cell (block_lt_of_cell e1)).trans e1
         have z2 : x6.cell? ⟨g4, 1, none⟩ = some (.string q) := (Q6.out.cell (block_lt_of_cell e2)).trans e2
         have z3 : x6.cell? ⟨g3, 2, none⟩ = some (.string s) := (Q6.out.cell (block_lt_of_cell e3)).trans e3
         have z4 : x6.cell? ⟨g3, 3, none⟩ = some (.int .i64 v) := (Q6.out.cell (block_lt_of_cell e4)).trans e4
         obtain ⟨x7, hrun, o7, gr7⟩ := T6.out.m.update K Tryz.underlying36 (by have := NN.out; unfold maxLen; omega) KY.out (rR_mk s v)
         unfold pv rv at hrun
         have KP : Hid (∀ (g i : Nat) (y : Value), x6.cell? ⟨g, i, none⟩ = some y → x7.cell? ⟨g, i, none⟩ = some y) := Lib.hid (fun g i y h => by
           have hne : g ≠ b := fun e => by
             obtain ⟨es, clock, hb, _⟩ := T6.out.m
             rw [e] at h
             simp [World.cell?, hb] at h
           rw [World.cell?_of_block (gr7.block g (block_lt_of_cell h) (fun e => hne (Option.some.inj e)))]
           exact h)
         have u0 := KP.out _ _ _ z0
         have u1 := KP.out _ _ _ z1
         have u2 := KP.out _ _ _ z2
         have u3 := KP.out _ _ _ z3
         have u4 := KP.out _ _ _ z4
         have W7 : Hid (Tb x7 t b (n + 1) (D.put (kl p q) (eR s v)) ∧ Kept (fun y => y = b) x6 x7) := Lib.hid ⟨⟨(gr7.block t (lt_of_some T6.out.t) (fun e => T6.out.ne (Option.some.inj e))).trans T6.out.t, o7⟩, (grown_kept gr7).mono (fun y _ e => Option.some.inj e)⟩
         clear hb6 o7 gr7))
    all_goals
      go_wp2_with fail
      go_end0
      refine ⟨rfl, W7.out.1, ?_⟩
      have b1 := AX.out.1.trans ((PL.out.2.trans (Q6.out.mono PL.out.2.size)).mono AX.out.1.size)
      exact (Below.kept b1 _).trans W7.out.2 (fun _ _ e => e)
end Ac
end Go.Proofs.YthdofbjijpghfaaGreatDoor
end S3

section S4
namespace Go.Proofs.YthdofbjijpghfaaGreatDoor
open Go.RowKit
namespace Ac
/-- The table, with the package's variable. -/
structure Ta (w : World) (t b n : Nat) (D : DataW Unit) : Prop where
  tb : Tb w t b n D
  hm : L.HasM w
variable {w w' : World} {t b n : Nat} {D D' : DataW Unit}
theorem hm_kept (hm : L.HasM w) (hk : Kept (fun y => y = b) w w') (hb : ∃ es c, w.heap[b]? = some (.map es c)) : L.HasM w' := by
  obtain ⟨m, hc⟩ := hm
  refine ⟨m, (World.cell?_of_block (hk.block _ (block_lt_of_cell hc) (fun e => ?_))).trans hc⟩
  obtain ⟨es, c, hb⟩ := hb
  have e' : w.heap[0]? = some (.map es c) := by rw [← hb]; exact congrArg (fun x => w.heap[x]?) e
  simp [World.cell?, e'] at hc
theorem Tb.map (h : Tb w t b n D) : ∃ es c, w.heap[b]? = some (.map es c) := by
  obtain ⟨es, c, hb, _⟩ := h.m
  exact ⟨es, c, hb⟩
theorem Ta.below (h : Ta w t b n D) (hb : Below w.heap.size w w') : Ta w' t b n D := ⟨h.tb.below hb, h.hm.below hb⟩
theorem bd_codes (x : Bd) : (bdR x).2 = 0 ∨ (bdR x).2 = 23 ∨ (bdR x).2 = 130 := by
  unfold bdR outR
  split
  · split
    · exact Or.inl rfl
    · exact Or.inr (Or.inl rfl)
  · exact Or.inr (Or.inr rfl)
set_option maxHeartbeats 4000000 in
set_option maxRecDepth 100000 in
theorem set_any (x : Bd) (w : World) (t b n : Nat) (D : DataW Unit) (H : Ta w t b n D) (hn : n ≤ 100000) (hf : x.Fit) :
    Calls Tryz.prog 10 #[.pointer (some ⟨t, 0, none⟩), x.val] w fun e w' => ∃ r D', e = .returned (.int .i64 r) ∧ Ta w' t b (n + 1) D' ∧ Kept (fun y => y = b) w w' ∧ ((r = 0 ∧ (bdR x).2 = 0 ∧ D' = D.put (kl x.p x.n) (eR x.s x.v)) ∨ (r ≠ 0 ∧ D' = D)) ∧ ((bdR x).2 = 0 → Maps.size D < 16 → r = 0) := by
  have FI := Lib.hid hf
  have HH := Lib.hid H
  have NN := Lib.hid hn
  have LY : Hid (∀ W, Ta W t b n D → Calls Tryz.prog 29 #[.pointer (some ⟨t, 0, none⟩), x.val] W fun e w' => e = .returned (.tuple #[]) ∧ Hid (Ta w' t b (n + 1) (D.put (kl x.p x.n) (eR x.s x.v)) ∧ Kept (fun y => y = b) W w')) := Lib.hid fun W h => by
    refine (lay_any x W t b n D h.tb (by omega) hf).mono ?_
    rintro e w' ⟨rfl, h1, h2⟩
    exact ⟨rfl, Lib.hid ⟨⟨h1, hm_kept h.hm h2 h.tb.map⟩, h2⟩⟩
  obtain ⟨c, hc⟩ : ∃ c, c = (bdR x).2 := ⟨_, rfl⟩
  have CC := Lib.hid hc
  have VB : Hid (∀ W, L.HasM W → Calls Tryz.prog 26 #[x.val] W fun e w' => e = .returned (.int .i64 (c : Int)) ∧ Below W.heap.size W w') := Lib.hid fun W h => by rw [hc]; exact validB_any x W h hf
  have hcs : c = 0 ∨ c ≠ 0 := by omega
  have KS : Hid (x.p.size ≤ maxLen ∧ x.n.size ≤ maxLen) := Lib.hid ⟨by have := hf.s.1; unfold maxLen; omega, by have := hf.s.2.1; unfold maxLen; omega⟩
  have HA : Hid (∀ W, Ta W t b n D → Calls Tryz.prog 27 #[.pointer (some ⟨t, 0, none⟩), .string x.p, .string x.n] W fun e w' => e = .returned (.bool (Maps.has D (kl x.p x.n))) ∧ Below W.heap.size W w') := Lib.hid fun W h => has_any x.p x.n W t b n D h.tb KS.out.1 KS.out.2
  have HE : Hid (∀ W, Ta W t b n D → Calls Tryz.prog 28 #[.pointer (some ⟨t, 0, none⟩), .string x.p] W fun e w' => ∃ k : Nat, e = .returned (.int .i64 k) ∧ k ≤ Maps.size D ∧ Below W.heap.size W w') := Lib.hid fun W h => held_any x.p W t b n D h.tb (by omega)
  clear hc hf H hn
  unfold Bd.val at VB LY ⊢
  obtain ⟨p, q, s, v⟩ := x
  simp only at VB LY HA HE ⊢
  obtain ⟨g3, hg3⟩ : ∃ g, g = w.heap.size := ⟨_, rfl⟩
  obtain ⟨X, hX⟩ : ∃ X, X = w.alloc (.cells #[.string p, .string q, .string s, .int .i64 v] 28) := ⟨_, rfl⟩
  have AX : Hid (Below w.heap.size w X ∧ X.heap[g3]? = some (.cells #[.string p, .string q, .string s, .int .i64 v] 28 (0, 0))) := Lib.hid ⟨by rw [hX]; exact (Below.refl _ w).alloc (Nat.le_refl _) _, by rw [hX, hg3, heap_alloc_new]⟩
  have CE : Hid (∀ W, Below X.heap.size X W → W.cell? ⟨g3, 0, none⟩ = some (.string p) ∧ W.cell? ⟨g3, 1, none⟩ = some (.string q) ∧ W.cell? ⟨g3, 2, none⟩ = some (.string s) ∧ W.cell? ⟨g3, 3, none⟩ = some (.int .i64 v)) := Lib.hid fun W h => by
    have e := (h.block g3 (lt_of_some AX.out.2)).trans AX.out.2
    refine ⟨?_, ?_, ?_, ?_⟩ <;> rw [cell_of_row _ _ _ _ _ _ e] <;> rfl
  have TX : Hid (∀ W, Below X.heap.size X W → Ta W t b n D) := Lib.hid fun W h => (HH.out.below AX.out.1).below h
  obtain ⟨a0, a1, a2, a3⟩ := CE.out X (Below.refl _ _)
  have hX' := hX.symm
  have hg3' := hg3.symm
  clear hX hg3
  go_enter Tryz.func10, Tryz.ntmps10
  go_wp2_with fail
  refine (VB.out X (TX.out X (Below.refl _ _)).hm).mono ?_
  rintro e w1 ⟨rfl, hb⟩
  have B1 := Lib.hid hb
  clear hb a0 a1 a2 a3 hX' hg3'
  rcases hcs with h0 | h0
  · subst h0
    obtain ⟨a0, a1, a2, a3⟩ := CE.out w1 B1.out
    go_wp2_with fail
    refine (HA.out w1 (TX.out w1 B1.out)).mono ?_
    rintro e w2 ⟨rfl, hb⟩
    have B2 := Lib.hid (B1.out.trans (hb.mono B1.out.size))
    clear hb a0 a1 a2 a3
    obtain ⟨a0, a1, a2, a3⟩ := CE.out w2 B2.out
    cases hh : Maps.has D (kl p q) with
    | true =>
      go_wp2_with fail
      refine (LY.out w2 (TX.out w2 B2.out)).mono ?_
      rintro e w3 ⟨rfl, W3⟩
      clear a0 a1 a2 a3
      go_wp2_with fail
      go_ret
      exact ⟨0, _, rfl, W3.out.1, (Below.kept (AX.out.1.trans (B2.out.mono AX.out.1.size)) _).trans W3.out.2 (fun _ _ e => e), Or.inl ⟨rfl, CC.out.symm, rfl⟩, fun _ _ => rfl⟩
    | false =>
      go_wp2_with fail
      refine (HE.out w2 (TX.out w2 B2.out)).mono ?_
      rintro e w3 ⟨k, rfl, hk, hb⟩
      have B3 := Lib.hid (B2.out.trans (hb.mono B2.out.size))
      have HK := Lib.hid hk
      clear hb hk a0 a1 a2 a3
      obtain ⟨a0, a1, a2, a3⟩ := CE.out w3 B3.out
      by_cases h6 : 16 ≤ k
      · have g6 : decide ((k : Int) ≥ 16) = true := decide_eq_true (by omega)
        have g7 : decide (16 ≤ (k : Int)) = true := decide_eq_true (by omega)
        have h6' : (16 : Int) ≤ k := by omega
        go_wp2_with fail
        go_ret
        have HT := (TX.out w3 B3.out)
        exact ⟨194, D, rfl, ⟨HT.tb.more (by omega), HT.hm⟩, Below.kept (AX.out.1.trans (B3.out.mono AX.out.1.size)) _, Or.inr ⟨by decide, rfl⟩, fun _ h => by have := HK.out; omega⟩
      · have g6 : decide ((k : Int) ≥ 16) = false := decide_eq_false (by omega)
        have g7 : decide (16 ≤ (k : Int)) = false := decide_eq_false (by omega)
        have h6' : ¬ (16 : Int) ≤ k := by omega
        go_wp2_with fail
        refine (LY.out w3 (TX.out w3 B3.out)).mono ?_
        rintro e w4 ⟨rfl, W3⟩
        clear a0 a1 a2 a3
        go_wp2_with fail
        go_ret
        exact ⟨0, _, rfl, W3.out.1, (Below.kept (AX.out.1.trans (B3.out.mono AX.out.1.size)) _).trans W3.out.2 (fun _ _ e => e), Or.inl ⟨rfl, CC.out.symm, rfl⟩, fun _ _ => rfl⟩
  · have g0 : ((c : Int) != 0) = true := by rw [bne_iff_ne]; omega
    have h0' : ¬ (c : Int) = 0 := by omega
    go_wp2_with fail
    go_ret
    have HT := (TX.out w1 B1.out)
    exact ⟨130, D, rfl, ⟨HT.tb.more (by omega), HT.hm⟩, Below.kept (AX.out.1.trans (B1.out.mono AX.out.1.size)) _, Or.inr ⟨by decide, rfl⟩, fun h => by rw [CC.out] at h0; exact absurd h h0⟩
set_option maxHeartbeats 4000000 in
set_option maxRecDepth 100000 in
theorem drop_any (p q : ByteArray) (w : World) (t b n : Nat) (D : DataW Unit) (H : Ta w t b n D) (hp : p.size ≤ maxLen) (hq : q.size ≤ maxLen) :
    Calls Tryz.prog 12 #[.pointer (some ⟨t, 0, none⟩), .string p, .string q] w fun e w' => ∃ r D', e = .returned (.int .i64 r) ∧ Ta w' t b n D' ∧ Kept (fun y => y = b) w w' ∧ ((r = 0 ∧ L.splitE p = 0 ∧ Maps.has D (kl p q) = true ∧ D' = D.del (kl p q)) ∨ (r ≠ 0 ∧ D' = D)) ∧ (L.splitE p = 0 → Maps.has D (kl p q) = true → r = 0) := by
  have HH := Lib.hid H
  obtain ⟨c, hc⟩ : ∃ c, c = L.splitE p := ⟨_, rfl⟩
  have CC := Lib.hid hc
  have PA := Lib.hid (L.path_any p w H.hm)
  rw [← hc] at PA
  have hcs : c = 0 ∨ c ≠ 0 := by omega
  have KY := Lib.hid (key_mk p q hp hq)
  have TX : Hid (∀ W, Below w.heap.size w W → Ta W t b n D) := Lib.hid fun W h => HH.out.below h
  have HA : Hid (∀ W, Ta W t b n D → Calls Tryz.prog 27 #[.pointer (some ⟨t, 0, none⟩), .string p, .string q] W fun e w' => e = .returned (.bool (Maps.has D (kl p q))) ∧ Below W.heap.size W w') := Lib.hid fun W h => has_any p q W t b n D h.tb hp hq
  clear hc H hp hq
  go_enter Tryz.func12, Tryz.ntmps12
  go_wp2_with fail
  refine PA.out.mono ?_
  rintro e w1 ⟨rfl, hb⟩
  have B1 := Lib.hid hb
  clear hb
  rcases hcs with h0 | h0
  · subst h0
    go_wp2_with fail
    refine (HA.out w1 (TX.out w1 B1.out)).mono ?_
    rintro e w2 ⟨rfl, hb⟩
    have B2 := Lib.hid (B1.out.trans (hb.mono B1.out.size))
    clear hb
    cases hh : Maps.has D (kl p q) with
    | false =>
      go_wp2_with fail
      go_ret
      exact ⟨191, D, rfl, TX.out w2 B2.out, Below.kept B2.out _, Or.inr ⟨by decide, rfl⟩, fun _ h => by rw [hh] at h; simp at h⟩
    | true =>
      have T2 := Lib.hid (TX.out w2 B2.out)
      have e0 := T2.out.tb.cell
      go_wp2_with (at_delete; refine wpList_delete_own _ rfl _ _ 36 52 rfl 54 K Tryz.underlying36 rR b n D rfl T2.out.tb.m _ _ rfl KY.out ?_; intro w3 hown3 hturn3; have W3 := Lib.hid (And.intro hown3 hturn3); clear hown3 hturn3)
      go_ret
      have gr := W3.out.2.grown
      have kp : Kept (fun y => y = b) w2 w3 := (grown_kept gr).mono (fun y _ e => Option.some.inj e)
      refine ⟨0, _, rfl, ⟨⟨(gr.block t (lt_of_some T2.out.tb.t) (fun e => T2.out.tb.ne (Option.some.inj e))).trans T2.out.tb.t, W3.out.1⟩, hm_kept T2.out.hm kp T2.out.tb.map⟩, (Below.kept B2.out _).trans kp (fun _ _ e => e), Or.inl ⟨rfl, CC.out.symm, hh, rfl⟩, fun _ _ => rfl⟩
  · have g0 : ((c : Int) != 0) = true := by rw [bne_iff_ne]; omega
    have h0' : ¬ (c : Int) = 0 := by omega
    go_wp2_with fail
    go_ret
    exact ⟨_, D, rfl, TX.out w1 B1.out, Below.kept B1.out _, Or.inr ⟨by omega, rfl⟩, fun h => by rw [CC.out] at h0; exact absurd h h0⟩
/-- A table whose map is gone through. -/
structure Rg (w0 : World) (t b r n : Nat) (left : Lit → Bool) (cnt : Nat) (w : World) : Prop where
  t : w.heap[t]? = some (.cells #[.map (some b)] 38 (0, 0))
  m : ∃ D, w.ranges Tryz.prog 52 rR b r n D left cnt
  hm : L.HasM w
  k : Kept (fun y => y = b) w0 w
theorem Rg.cell {w0 : World} {r cnt : Nat} {left : Lit → Bool} (h : Rg w0 t b r n left cnt w) : w.cell? ⟨t, 0, none⟩ = some (.map (some b)) := by rw [cell_of_row w t 0 _ _ _ h.t]; rfl
set_option maxHeartbeats 4000000 in
set_option maxRecDepth 100000 in
theorem leave_any (p : ByteArray) (w : World) (t b n : Nat) (D : DataW Unit) (H : Ta w t b n D) (hn : n ≤ 1000000) :
    Calls Tryz.prog 14 #[.pointer (some ⟨t, 0, none⟩), .string p] w fun e w' => ∃ (k : Nat) (D' : DataW Unit), e = .returned (.int .i64 k) ∧ Ta w' t b n D' ∧ Kept (fun y => y = b) w w' := by
  have H' := Lib.hid H
  have SZ := Lib.hid (Nat.le_trans H.tb.m.size_le hn)
  have c0 := H.tb.cell
  clear H hn
  obtain ⟨r, hr⟩ : ∃ r, r = w.heap.size := ⟨_, rfl⟩
  go_enter Tryz.func14, Tryz.ntmps14
  go_wp2_with (at_range; refine wpList_range_own _ rfl _ 36 rfl 52 54 K Tryz.underlying36 rR b n D rfl H'.out.tb.m ?_; intro w0 hrg0 hg0 hs0)
  go_frame
  rw [← hr] at hrg0 ⊢
  have S0 : Hid (Rg w t b r n (Maps.has D) (Maps.size D) w0) := Lib.hid (by
    have bl : Below w.heap.size w w0 := (Below.refl _ w).grown hg0 (Nat.le_refl _) (fun k e => by cases e)
    exact ⟨(bl.block t (lt_of_some H'.out.tb.t)).trans H'.out.tb.t, ⟨D, hrg0⟩, H'.out.hm.below bl, Below.kept bl _⟩)
  have RB : Hid (w.heap.size ≤ r ∧ b < w.heap.size ∧ t < w.heap.size ∧ t ≠ b) := Lib.hid ⟨by rw [hr]; exact Nat.le_refl _, H'.out.tb.m.lt, lt_of_some H'.out.tb.t, H'.out.tb.ne⟩
  clear hrg0 hg0 hs0 hr c0
  go_loopw [5] (fun s wr => ∃ (left : Lit → Bool) (cnt k : Nat), s = .int .i64 k ∧ Hid (Rg w t b r n left cnt wr ∧ k + cnt ≤ Maps.size D)) (fun _ wr => wr.rangeLeft b r)
  case atStart => exact ⟨_, _, 0, rfl, Lib.hid ⟨S0.out, by omega⟩⟩
  case round =>
    clear S0
    obtain ⟨left, cnt, k, rfl, S⟩ := hrel
    have hk : (k : Int) < 1000001 := by have := S.out.2; have := SZ.out; omega
    obtain ⟨D1, hD1⟩ := S.out.1.m
    have R1 := Lib.hid hD1
    clear hD1
    go_wp2_with (at_next; refine wpList_next_ranges _ rfl _ rfl 52 K rR (fun x : ByteArray × ByteArray => pv x.1 x.2) (fun x : ByteArray × Int => rv x.1 x.2) (fun key l h => (key_inv key l h).imp fun _ q => q.1) (fun v y h => (rR_inv v y h).imp fun _ q => q.1) b r n D1 left cnt rfl R1.out ?_ ?_)
    · intro h0 hl
      go_wp2_with fail
      go_ret
      exact ⟨k, D1, rfl, ⟨⟨S.out.1.t, R1.out.owns⟩, S.out.1.hm⟩, S.out.1.k⟩
    · rintro p2 q2 s2 v2 l2 yd yp w2 cnt2 hkey hl2 hR hat hrg2 hlt hg2 hs2 hen
      have KY := Lib.hid hkey
      unfold pv rv at hen
      obtain ⟨A2, hA2⟩ : ∃ A, A = w2.alloc (.cells #[.string p2, .string q2] 52) := ⟨_, rfl⟩
      have S2 : Hid (A2.ranges Tryz.prog 52 rR b r n D1 (fun z => left z && !z.sameKey l2) cnt2 ∧ cnt2 < cnt ∧ Rg w t b r n (fun z => left z && !z.sameKey l2) cnt2 A2 ∧ A2.cell? ⟨w2.heap.size, 0, none⟩ = some (.string p2) ∧ A2.cell? ⟨w2.heap.size, 1, none⟩ = some (.string q2)) := Lib.hid (by
        have rg : A2.ranges Tryz.prog 52 rR b r n D1 (fun z => left z && !z.sameKey l2) cnt2 := by rw [hA2]; exact hrg2.alloc _
        have k1 : Kept (fun y => y = r) wr w2 := (grown_kept hg2).mono (fun y _ e => Option.some.inj e)
        have bA : Below w2.heap.size w2 A2 := by rw [hA2]; exact (Below.refl _ _).alloc (Nat.le_refl _) _
        have sz := S.out.1.k.size
        have rb := RB.out
        have t2 : w2.heap[t]? = some (.cells #[.map (some b)] 38 (0, 0)) := (k1.block t (lt_of_some S.out.1.t) (by omega)).trans S.out.1.t
        have m2 : L.HasM w2 := by
          obtain ⟨m, hc⟩ := S.out.1.hm
          refine ⟨m, (World.cell?_of_block (k1.block _ (block_lt_of_cell hc) (fun e => ?_))).trans hc⟩
          obtain ⟨es, clock, since, seen, c1, _, _, _, _, ho, _⟩ := R1.out
          have e' : wr.heap[0]? = some (.mapIter (some b) since seen c1) := by rw [← ho]; exact congrArg (fun x => wr.heap[x]?) e
          simp [World.cell?, e'] at hc
        refine ⟨rg, hlt, ⟨(bA.block t (lt_of_some t2)).trans t2, ⟨D1, rg⟩, m2.below bA, ?_⟩, by rw [hA2, World.cell?_alloc_new]; rfl, by rw [hA2, World.cell?_alloc_new]; rfl⟩
        exact (S.out.1.k.trans k1 (fun y hy e => by omega)).trans (Below.kept bA (fun _ => False)) (fun _ _ z => z.elim))
      have hA2' := hA2.symm
      clear hkey hl2 hR hat hrg2 hlt hg2 hs2 hA2
      by_cases he : p2 = p
      · subst he
        have RW : Hid (A2.drew.ranges Tryz.prog 52 rR b r n D1 (fun z => left z && !z.sameKey l2) cnt2) := Lib.hid S2.out.1
        obtain ⟨A3, cnt3, hdel, hrg3, hle3, htu3⟩ := World.ranges.drop (w := A2.drew) RW.out K Tryz.underlying36 KY.out 0
        unfold pv at hdel
        have f0 := S2.out.2.2.1.cell
        have f1 := S2.out.2.2.2.1
        have f2 := S2.out.2.2.2.2
        have d0 : A2.drew.cell? ⟨t, 0, none⟩ = some (.map (some b)) := f0
        have d1 : A2.drew.cell? ⟨w2.heap.size, 0, none⟩ = some (.string p2) := f1
        have d2 : A2.drew.cell? ⟨w2.heap.size, 1, none⟩ = some (.string q2) := f2
        have KP : Hid (∀ (g i : Nat) (y : Value), A2.drew.cell? ⟨g, i, none⟩ = some y → A3.cell? ⟨g, i, none⟩ = some y) := Lib.hid (fun g i y h => by
          have hne : g ≠ b := fun e => by
            obtain ⟨es, clock, hb, _⟩ := RW.out.owns
            rw [e] at h
            simp [World.cell?, hb] at h
          rw [World.cell?_of_block (htu3.grown.block g (block_lt_of_cell h) (fun e => hne (Option.some.inj e)))]
          exact h)
        have u0 := KP.out _ _ _ d0
        have u1 := KP.out _ _ _ d1
        have u2 := KP.out _ _ _ d2
        have S3 : Hid (A3.ranges Tryz.prog 52 rR b r n (D1.del l2) (fun z => left z && !z.sameKey l2) cnt3 ∧ cnt3 ≤ cnt2 ∧ Rg w t b r n (fun z => left z && !z.sameKey l2) cnt3 A3) := Lib.hid (by
          rw [Maps.strike_twice] at hrg3
          have gr := htu3.grown
          have kp0 : Kept (fun y => y = b) A2.drew A3 := (grown_kept gr).mono (fun y _ e => Option.some.inj e)
          have kp : Kept (fun y => y = b) A2 A3 := (Below.kept ((Below.refl _ A2).drew) _).trans kp0 (fun _ _ e => e)
          have rb := RB.out
          exact ⟨hrg3, hle3, ⟨(kp.block t (lt_of_some S2.out.2.2.1.t) (by omega)).trans S2.out.2.2.1.t, ⟨_, hrg3⟩, hm_kept S2.out.2.2.1.hm kp (by obtain ⟨es, c, hb, _⟩ := S2.out.1.owns; exact ⟨es, c, hb⟩), S2.out.2.2.1.k.trans kp (fun _ _ e => e)⟩⟩)
        clear hrg3 hle3 htu3
        go_wp2_with fail
        go_region_held3 (fun W : World => W.cell? ⟨t, 0, none⟩ = some (.map (some b)) ∧ W.cell? ⟨w2.heap.size, 0, none⟩ = some (.string p2) ∧ W.cell? ⟨w2.heap.size, 1, none⟩ = some (.string q2)) (first | exact ⟨by assumption, by assumption, by assumption⟩ | go_keep) (fail)
        all_goals
          go_wp2_with fail
          go_roundw
          case rel => exact ⟨_, cnt3, k + 1, by go_num, Lib.hid ⟨S3.out.2.2, by have := S.out.2; have := S2.out.2.1; have := S3.out.2.1; omega⟩⟩
          case measure => rw [S3.out.1.left_eq, R1.out.left_eq]; have := S2.out.2.1; have := S3.out.2.1; omega
      · have ge := teq_no he
        clear he
        have f1 := S2.out.2.2.2.1
        have f2 := S2.out.2.2.2.2
        go_wp2_with fail
        go_roundw
        case rel => exact ⟨_, cnt2, k, rfl, Lib.hid ⟨S2.out.2.2.1, by have := S.out.2; have := S2.out.2.1; omega⟩⟩
        case measure => rw [S2.out.1.left_eq, R1.out.left_eq]; exact S2.out.2.1
end Ac
end Go.Proofs.YthdofbjijpghfaaGreatDoor
end S4

section S5
namespace Go.Proofs.YthdofbjijpghfaaGreatDoor
open Go.RowKit Go.Sort
namespace Ac
def cmS (x y : ByteArray) : Int := if Op.bytesLess x.toList y.toList then -1 else if Op.bytesLess y.toList x.toList then 1 else 0
theorem nan_any (x : ByteArray) (w : World) : Calls Tryz.prog 75 #[.string x] w fun e w' => e = .returned (.bool false) ∧ w' = w := by
  have g1 : (x.toList == x.toList) = true := beq_self_eq_true _
  have g2 : (x.toList != x.toList) = false := bne_self_eq_false _
  go_enter Tryz.func75, Tryz.ntmps75
  go_wp2_with fail
  go_ret
  exact ⟨rfl, rfl⟩
theorem cmpS_any (x y : ByteArray) (w : World) : Calls Tryz.prog 48 #[.string x, .string y] w fun e w' => e = .returned (.int .i64 (cmS x y)) ∧ w' = w := by
  have C1 := Lib.hid (nan_any x w)
  have C2 := Lib.hid (nan_any y w)
  cases g : Op.bytesLess x.toList y.toList with
  | true =>
    have E : Hid (cmS x y = -1) := Lib.hid (by unfold cmS; rw [if_pos g])
    go_enter Tryz.func48, Tryz.ntmps48
    go_wp2_with fail
    refine C1.out.mono ?_
    rintro e w1 ⟨rfl, rfl⟩
    go_wp2_with fail
    refine C2.out.mono ?_
    rintro e w1 ⟨rfl, rfl⟩
    go_wp2_with fail
    go_ret
    rw [E.out]
    exact ⟨rfl, rfl⟩
  | false =>
    cases h : Op.bytesLess y.toList x.toList with
    | true =>
      have E : Hid (cmS x y = 1) := Lib.hid (by unfold cmS; rw [if_neg (by rw [g]; decide), if_pos h])
      have q : (x.toList == y.toList) = false := by
        rw [beq_eq_false_iff_ne]
        intro e
        rw [e, bytesLess_eq] at h
        exact absurd (of_decide_eq_true h) (List.lt_irrefl _)
      go_enter Tryz.func48, Tryz.ntmps48
      go_wp2_with fail
      refine C1.out.mono ?_
      rintro e w1 ⟨rfl, rfl⟩
      go_wp2_with fail
      refine C2.out.mono ?_
      rintro e w1 ⟨rfl, rfl⟩
      go_wp2_with fail
      go_ret
      rw [E.out]
      exact ⟨rfl, rfl⟩
    | false =>
      have E : Hid (cmS x y = 0) := Lib.hid (by unfold cmS; rw [if_neg (by rw [g]; decide), if_neg (by rw [h]; decide)])
      have q : (x.toList == y.toList) = true := by
        rw [beq_iff_eq]
        rw [bytesLess_eq] at g h
        exact List.le_antisymm (List.not_lt.1 (of_decide_eq_false h)) (List.not_lt.1 (of_decide_eq_false g))
      go_enter Tryz.func48, Tryz.ntmps48
      go_wp2_with fail
      refine C1.out.mono ?_
      rintro e w1 ⟨rfl, rfl⟩
      go_wp2_with fail
      refine C2.out.mono ?_
      rintro e w1 ⟨rfl, rfl⟩
      go_wp2_with fail
      go_ret
      rw [E.out]
      exact ⟨rfl, rfl⟩
theorem kept_setRow (w : World) (g : Nat) (cs : Array Value) : Kept (fun k => k = g) w (w.setRow g cs) := ⟨rfl, rfl, rfl, by simp [World.setRow], fun k _ hn => setRow_other w g k cs hn⟩
def vbB (v : Int) : Bool := decide (0 ≤ v) && decide (v ≤ 3)
theorem isVerb_any (v : Int) (w : World) : Calls Tryz.prog 41 #[.int .i64 v] w fun e w' => e = .returned (.bool (vbB v)) ∧ w' = w := by
  unfold vbB
  by_cases h : 0 ≤ v
  · have g : decide (0 ≤ v) = true := decide_eq_true h
    rw [g]
    go_enter Tryz.func41, Tryz.ntmps41
    go_wp2_with fail
    go_ret
    exact ⟨rfl, rfl⟩
  · have g : decide (0 ≤ v) = false := decide_eq_false h
    rw [g]
    go_enter Tryz.func41, Tryz.ntmps41
    go_wp2_with fail
    go_ret
    exact ⟨rfl, rfl⟩
/-- The right is the subject's and includes the verb. -/
def isB (s : ByteArray) (r : Int) (u : ByteArray) (v : Int) : Bool := (s.toList == u.toList) && (vbB v && decide (v ≤ r))
set_option maxHeartbeats 2000000 in
theorem is_any (s : ByteArray) (r : Int) (u : ByteArray) (v : Int) (w : World) : Calls Tryz.prog 57 #[rv s r, .string u, .int .i64 v] w fun e w' => e = .returned (.bool (isB s r u v)) ∧ Below w.heap.size w w' := by
  unfold rv
  obtain ⟨S, hS⟩ : ∃ S, S = isB s r u v := ⟨_, rfl⟩
  rw [← hS]
  have ES : Hid (S = ((s.toList == u.toList) && (vbB v && decide (v ≤ r)))) := Lib.hid hS
  obtain ⟨X, hX⟩ : ∃ X, X = w.alloc (.cells #[.string s, .int .i64 r] 54) := ⟨_, rfl⟩
  have AX : Hid (Below w.heap.size w X) := Lib.hid (by rw [hX]; exact (Below.refl _ w).alloc (Nat.le_refl _) _)
  have c0 : X.cell? ⟨w.heap.size, 0, none⟩ = some (.string s) := by rw [hX, World.cell?_alloc_new]; rfl
  have c1 : X.cell? ⟨w.heap.size, 1, none⟩ = some (.int .i64 r) := by rw [hX, World.cell?_alloc_new]; rfl
  have IV := Lib.hid (isVerb_any v X)
  have hX' := hX.symm
  clear hX hS
  cases h1 : (s.toList == u.toList) with
  | false =>
    have F : Hid (S = false) := Lib.hid (by rw [ES.out, h1]; rfl)
    go_enter Tryz.func57, Tryz.ntmps57
    go_wp2_with fail
    go_ret
    exact ⟨by rw [F.out]; rfl, AX.out⟩
  | true =>
    go_enter Tryz.func57, Tryz.ntmps57
    go_wp2_with fail
    refine IV.out.mono ?_
    rintro e w1 ⟨rfl, rfl⟩
    cases h2 : vbB v with
    | false =>
      have F : Hid (S = false) := Lib.hid (by rw [ES.out, h1, h2]; rfl)
      go_wp2_with fail
      go_ret
      exact ⟨by rw [F.out]; rfl, AX.out⟩
    | true =>
      have F : Hid (S = decide (v ≤ r)) := Lib.hid (by rw [ES.out, h1, h2]; rfl)
      go_wp2_with fail
      go_ret
      exact ⟨by rw [F.out]; rfl, AX.out⟩
set_option maxHeartbeats 2000000 in
theorem with_any (p q s : ByteArray) (v : Int) (w : World) : Calls Tryz.prog 23 #[pv p q, rv s v] w fun e w' => e = .returned (Bd.val ⟨p, q, s, v⟩) ∧ Below w.heap.size w w' := by
  unfold pv rv Bd.val
  simp only
  obtain ⟨X, hX⟩ : ∃ X, X = w.alloc (.cells #[.string p, .string q] 52) := ⟨_, rfl⟩
  obtain ⟨Y, hY⟩ : ∃ Y, Y = X.alloc (.cells #[.string s, .int .i64 v] 54) := ⟨_, rfl⟩
  obtain ⟨Z, hZ⟩ : ∃ Z, Z = Y.alloc (.cells #[.string ⟨#[]⟩, .string ⟨#[]⟩, .string ⟨#[]⟩, .int .i64 0] 28) := ⟨_, rfl⟩
  have bX : Below w.heap.size w X := by rw [hX]; exact (Below.refl _ _).alloc (Nat.le_refl _) _
  have bY : Below X.heap.size X Y := by rw [hY]; exact (Below.refl _ _).alloc (Nat.le_refl _) _
  have bZ : Below Y.heap.size Y Z := by rw [hZ]; exact (Below.refl _ _).alloc (Nat.le_refl _) _
  have x0 : X.cell? ⟨w.heap.size, 0, none⟩ = some (.string p) := by rw [hX, World.cell?_alloc_new]; rfl
  have x1 : X.cell? ⟨w.heap.size, 1, none⟩ = some (.string q) := by rw [hX, World.cell?_alloc_new]; rfl
  have y0 : Y.cell? ⟨X.heap.size, 0, none⟩ = some (.string s) := by rw [hY, World.cell?_alloc_new]; rfl
  have y1 : Y.cell? ⟨X.heap.size, 1, none⟩ = some (.int .i64 v) := by rw [hY, World.cell?_alloc_new]; rfl
  have bXZ : Below X.heap.size X Z := bY.trans (bZ.mono bY.size)
  have p0 := (bXZ.cell (block_lt_of_cell x0)).trans x0
  have p1 := (bXZ.cell (block_lt_of_cell x1)).trans x1
  have q0 := (bZ.cell (block_lt_of_cell y0)).trans y0
  have q1 := (bZ.cell (block_lt_of_cell y1)).trans y1
  have HZ : Hid (Z.heap[Y.heap.size]? = some (.cells #[.string ⟨#[]⟩, .string ⟨#[]⟩, .string ⟨#[]⟩, .int .i64 0] 28 (0, 0)) ∧ Below w.heap.size w Z ∧ w.heap.size ≤ Y.heap.size) := Lib.hid ⟨by rw [hZ, heap_alloc_new], bX.trans (bXZ.mono bX.size), Nat.le_trans bX.size bY.size⟩
  have ON : Hid ((#[.string p, .string q, .string s, .int .i64 v] : Array Value).all (·.oneCell') = true) := Lib.hid (by simp [Value.oneCell'])
  have hX' := hX.symm
  have hY' := hY.symm
  have hZ' := hZ.symm
  clear hX hY hZ bX bY bZ bXZ x0 x1 y0 y1
  go_enter Tryz.func23, Tryz.ntmps23
  go_wp2_with (refine wpList_store_row rfl 28 (.tmp 4) (.tmp 13) rfl Y.heap.size #[.string p, .string q, .string s, .int .i64 v] rfl rfl 28 #[.string ⟨#[]⟩, .string ⟨#[]⟩, .string ⟨#[]⟩, .int .i64 0] HZ.out.1 size_bd rfl ON.out ?_)
  refine bodyPost_ret (results_cell_row rfl _ _ Y.heap.size 28 #[.string p, .string q, .string s, .int .i64 v] (0, 0) _ rfl (setRow_heap _ _ _ _ _ _ HZ.out.1) Tryz.underlying28 rfl size_bd) rfl ?_
  exact ⟨rfl, HZ.out.2.1.trans ((kept_setRow _ _ _).below HZ.out.2.1.size (fun y e => by rw [e]; exact HZ.out.2.2))⟩
set_option maxHeartbeats 2000000 in
theorem or_any (g : Nat) (x y : Int) (w : World) (h0 : w.cell? ⟨g, 0, none⟩ = some (.int .i64 x)) (h1 : w.cell? ⟨g, 1, none⟩ = some (.int .i64 y)) :
    Calls Tryz.prog 59 #[.slice (some ⟨g, 0, none⟩) 2 2] w fun e w' => e = .returned (.int .i64 (if x = 0 then y else x)) ∧ w' = w := by
  by_cases hx : x = 0
  · subst hx
    by_cases hy : y = 0
    · subst hy
      go_enter Tryz.func59, Tryz.ntmps59
      go_wp2_with fail
      refine wp_loop_rounds 3 ?_
      rw [rounds_succ]
      go_wp2_with fail
      rw [rounds_succ]
      go_wp2_with fail
      rw [rounds_succ]
      go_wp2_with fail
      go_ret
      exact ⟨rfl, rfl⟩
    · have gy : (y == 0) = false := by rw [beq_eq_false_iff_ne]; exact hy
      have gy' : (y != 0) = true := by rw [bne_iff_ne]; exact hy
      go_enter Tryz.func59, Tryz.ntmps59
      go_wp2_with fail
      refine wp_loop_rounds 3 ?_
      rw [rounds_succ]
      go_wp2_with fail
      rw [rounds_succ]
      go_wp2_with fail
      go_ret
      exact ⟨rfl, rfl⟩
  · have gx : (x == 0) = false := by rw [beq_eq_false_iff_ne]; exact hx
    have gx' : (x != 0) = true := by rw [bne_iff_ne]; exact hx
    rw [if_neg hx]
    go_enter Tryz.func59, Tryz.ntmps59
    go_wp2_with fail
    refine wp_loop_rounds 3 ?_
    rw [rounds_succ]
    go_wp2_with fail
    go_ret
    exact ⟨rfl, rfl⟩
end Ac
end Go.Proofs.YthdofbjijpghfaaGreatDoor
end S5

section S6
namespace Go.Proofs.YthdofbjijpghfaaGreatDoor
open Go.RowKit Go.Sort
namespace Ac
/-- Which of two bindings on a line is nearer. -/
def nearB (a b : Bd) : Bool := decide ((if Lib.compareInt (b.p.size : Int) (a.p.size : Int) = 0 then cmS a.n b.n else Lib.compareInt (b.p.size : Int) (a.p.size : Int)) < 0)
set_option maxHeartbeats 4000000 in
set_option maxRecDepth 100000 in
theorem nearer_any (a b : Bd) (w : World) : Calls Tryz.prog 39 #[a.val, b.val] w fun e w' => e = .returned (.bool (nearB a b)) ∧ Below w.heap.size w w' := by
  obtain ⟨ap, an, az, av⟩ := a
  obtain ⟨bp, bn, bs, bv⟩ := b
  unfold Bd.val
  simp only
  obtain ⟨X, hX⟩ : ∃ X, X = w.alloc (.cells #[.string ap, .string an, .string az, .int .i64 av] 28) := ⟨_, rfl⟩
  obtain ⟨Y, hY⟩ : ∃ Y, Y = X.alloc (.cells #[.string bp, .string bn, .string bs, .int .i64 bv] 28) := ⟨_, rfl⟩
  have bX : Below w.heap.size w X := by rw [hX]; exact (Below.refl _ _).alloc (Nat.le_refl _) _
  have bY : Below X.heap.size X Y := by rw [hY]; exact (Below.refl _ _).alloc (Nat.le_refl _) _
  have x0 : X.cell? ⟨w.heap.size, 0, none⟩ = some (.string ap) := by rw [hX, World.cell?_alloc_new]; rfl
  have x1 : X.cell? ⟨w.heap.size, 1, none⟩ = some (.string an) := by rw [hX, World.cell?_alloc_new]; rfl
  have y0 : Y.cell? ⟨X.heap.size, 0, none⟩ = some (.string bp) := by rw [hY, World.cell?_alloc_new]; rfl
  have y1 : Y.cell? ⟨X.heap.size, 1, none⟩ = some (.string bn) := by rw [hY, World.cell?_alloc_new]; rfl
  have p0 := (bY.cell (block_lt_of_cell x0)).trans x0
  have p1 := (bY.cell (block_lt_of_cell x1)).trans x1
  have BB : Hid (Below w.heap.size w Y) := Lib.hid (bX.trans (bY.mono bX.size))
  obtain ⟨I, hI⟩ : ∃ I, I = Lib.compareInt (bp.size : Int) (ap.size : Int) := ⟨_, rfl⟩
  obtain ⟨J, hJ⟩ : ∃ J, J = cmS an bn := ⟨_, rfl⟩
  have IC : Hid (∀ W : World, Calls Tryz.prog 60 #[.int .i64 (bp.size : Int), .int .i64 (ap.size : Int)] W fun e w' => e = .returned (.int .i64 I) ∧ w' = W) := Lib.hid fun W => by rw [hI]; exact Tryz.cmp_Compare_int _ _ W
  have SC : Hid (∀ W : World, Calls Tryz.prog 48 #[.string an, .string bn] W fun e w' => e = .returned (.int .i64 J) ∧ w' = W) := Lib.hid fun W => by rw [hJ]; exact cmpS_any _ _ W
  have OR : Hid (Calls Tryz.prog 59 #[.slice (some ⟨Y.heap.size, 0, none⟩) 2 2] (Y.alloc (.cells #[.int .i64 I, .int .i64 J] 3)).drew fun e w' => e = .returned (.int .i64 (if I = 0 then J else I)) ∧ w' = (Y.alloc (.cells #[.int .i64 I, .int .i64 J] 3)).drew) := Lib.hid (or_any Y.heap.size I J _ (show (Y.alloc _).cell? _ = _ by rw [World.cell?_alloc_new]; rfl) (show (Y.alloc _).cell? _ = _ by rw [World.cell?_alloc_new]; rfl))
  have EN : Hid (nearB ⟨ap, an, az, av⟩ ⟨bp, bn, bs, bv⟩ = decide ((if I = 0 then J else I) < 0)) := Lib.hid (by unfold nearB; rw [hI, hJ])
  obtain ⟨R, hR⟩ : ∃ R, R = (if I = 0 then J else I) := ⟨_, rfl⟩
  rw [← hR] at EN OR
  rw [EN.out]
  have d0 : Y.drew.cell? ⟨w.heap.size, 0, none⟩ = some (.string ap) := p0
  have d1 : Y.drew.cell? ⟨w.heap.size, 1, none⟩ = some (.string an) := p1
  have d2 : Y.drew.cell? ⟨X.heap.size, 0, none⟩ = some (.string bp) := y0
  have d3 : Y.drew.cell? ⟨X.heap.size, 1, none⟩ = some (.string bn) := y1
  have e0 : (Y.alloc (.cells #[.int .i64 I, .int .i64 J] 3)).drew.cell? ⟨w.heap.size, 0, none⟩ = some (.string ap) := cellA p0 _
  have e1 : (Y.alloc (.cells #[.int .i64 I, .int .i64 J] 3)).drew.cell? ⟨w.heap.size, 1, none⟩ = some (.string an) := cellA p1 _
  have e2 : (Y.alloc (.cells #[.int .i64 I, .int .i64 J] 3)).drew.cell? ⟨X.heap.size, 0, none⟩ = some (.string bp) := cellA y0 _
  have e3 : (Y.alloc (.cells #[.int .i64 I, .int .i64 J] 3)).drew.cell? ⟨X.heap.size, 1, none⟩ = some (.string bn) := cellA y1 _
  have hX' := hX.symm
  have hY' := hY.symm
  clear hX hY bX bY x0 x1 hI hJ hR
  go_enter Tryz.func39, Tryz.ntmps39
  go_wp2_with fail
  go_region_held3 (fun W : World => W.cell? ⟨w.heap.size, 0, none⟩ = some (.string ap) ∧ W.cell? ⟨w.heap.size, 1, none⟩ = some (.string an) ∧ W.cell? ⟨X.heap.size, 0, none⟩ = some (.string bp) ∧ W.cell? ⟨X.heap.size, 1, none⟩ = some (.string bn)) (first | exact ⟨by assumption, by assumption, by assumption, by assumption⟩ | go_keep) (first
    | (go_at_call 60; refine (IC.out _).mono ?_; rintro e x6 ⟨rfl, rfl⟩)
    | (go_at_call 48; refine (SC.out _).mono ?_; rintro e x7 ⟨rfl, rfl⟩)
    | (go_at_call 59; refine OR.out.mono ?_; rintro e x8 ⟨rfl, rfl⟩))
  all_goals
    go_wp2_with fail
    go_ret
    exact ⟨rfl, BB.out.trans ((((Below.refl _ Y).alloc (Nat.le_refl _) _).drew).mono BB.out.size)⟩
end Ac
end Go.Proofs.YthdofbjijpghfaaGreatDoor
end S6

section S7
namespace Go.Proofs.YthdofbjijpghfaaGreatDoor.L
open Go.RowKit
/-- Nothing that was there has turned, and no draw was taken back. -/
def Gd (w w' : World) : Prop := Below w.heap.size w w' ∧ w.drawn ≤ w'.drawn
theorem Gd.refl (w : World) : Gd w w := ⟨Below.refl _ _, Nat.le_refl _⟩
theorem Gd.alloc {w W : World} (h : Gd w W) (o : Obj) : Gd w (W.alloc o) := ⟨h.1.alloc h.1.size o, h.2⟩
theorem Gd.drew {w W : World} (h : Gd w W) : Gd w W.drew := ⟨h.1.drew, Nat.le_succ_of_le h.2⟩
theorem Gd.trans {a b c : World} (h : Gd a b) (k : Gd b c) : Gd a c := ⟨h.1.trans (k.1.mono h.1.size), Nat.le_trans h.2 k.2⟩
set_option maxHeartbeats 4000000 in
set_option maxRecDepth 1000000 in
theorem name_gd (s : ByteArray) (w : World) : Calls Tryz.prog 108 #[.string s] w fun e w' => e = .returned (.bool (nameB s)) ∧ Gd w w' := by
  go_enter Tryz.func108, Tryz.ntmps108
  by_cases h0 : s.size = 0
  · have e0 : s = ⟨#[]⟩ := by
      obtain ⟨⟨l⟩⟩ := s
      have : l = [] := List.length_eq_zero_iff.1 h0
      subst this
      rfl
    subst e0
    go_wp2
    go_ret
    exact ⟨rfl, Gd.refl _⟩
  have hne : s.toList.isEmpty = false := by
    rw [list_of_bytes]
    obtain ⟨⟨l⟩⟩ := s
    cases l with
    | nil => exact absurd rfl h0
    | cons x r => rfl
  by_cases h1 : 32 < s.size
  · have g : decide ((s.size : Int) > 32) = true := decide_eq_true (by omega)
    have e : nameB s = false := by
      unfold nameB
      rw [decide_eq_false (show ¬ s.size ≤ 32 by omega), Bool.and_false, Bool.false_and]
    rw [e]
    go_wp2
    go_ret
    exact ⟨rfl, Gd.refl _⟩
  have g : decide ((s.size : Int) > 32) = false := decide_eq_false (by omega)
  go_wp2
  go_loopw [3] (fun _ w' => ∃ pos, w' = w.iter s pos ∧ ∀ i, i < pos → i < s.size → okAt s i = true) (fun _ w' => s.size - w'.iterPos w.heap.size)
  case atStart => exact ⟨0, rfl, fun i h => by omega⟩
  case round =>
    obtain ⟨pos, rfl, hok⟩ := hrel
    by_cases hp : pos < s.size
    · have hnx : ∀ ty, (Instr.next (.pointer (some ⟨w.heap.size, 0, none⟩)) true ty).run Tryz.prog (w.iter s pos) = _ := fun ty => run_next_any w s pos ty hp
      have B : ∀ q, Gd w (w.iter s q) := fun q => (Gd.refl w).alloc _
      have BH := Lib.hid B
      have OK := Lib.hid hok
      clear B hok
      have w1 : wrap64 ((s.size : Int) - 1) = (s.size : Int) - 1 := by unfold wrap64; omega
      rcases letter_at s pos hp with ⟨hd, hlt⟩ | ⟨hd, hlt⟩
      · rw [hd] at hnx
        obtain ⟨c, hc⟩ : ∃ c, c = (s.get! pos).toNat := ⟨_, rfl⟩
        rw [← hc] at hnx hlt
        clear hd
        cases hpl : plainN c with
        | true =>
          have HC : Hid (∀ W, Calls Tryz.prog 122 #[.int .i32 (c : Int)] W fun e w' => e = .returned (.bool true) ∧ w' = W) := fun W => plain_any _ true (by rw [← hpl, plainN_int]) W
          have hA : Hid (okAt s pos = true) := Lib.hid (by unfold okAt; rw [← hc, hpl, Bool.true_or])
          clear hc
          rcases (by omega : (0 < pos ∧ pos + 1 < s.size) ∨ (0 < pos ∧ ¬ pos + 1 < s.size) ∨ ¬ 0 < pos) with hin | hin | hin
          · have g1 : decide ((pos : Int) > 0) = true := decide_eq_true (by omega)
            have g2 : decide ((pos : Int) < (s.size : Int) - 1) = true := decide_eq_true (by omega)
            go_wp2_with (go_at_call 122; refine (HC.out _).mono ?_; rintro e w' ⟨rfl, rfl⟩)
            go_roundw
            case rel => exact ⟨pos + 1, rfl, grow_ok OK.out hA.out⟩
            case measure => simp; omega
          · have g1 : decide ((pos : Int) > 0) = true := decide_eq_true (by omega)
            have g2 : decide ((pos : Int) < (s.size : Int) - 1) = false := decide_eq_false (by omega)
            go_wp2_with (go_at_call 122; refine (HC.out _).mono ?_; rintro e w' ⟨rfl, rfl⟩)
            go_roundw
            case rel => exact ⟨pos + 1, rfl, grow_ok OK.out hA.out⟩
            case measure => simp; omega
          · have g1 : decide ((pos : Int) > 0) = false := decide_eq_false (by omega)
            go_wp2_with (go_at_call 122; refine (HC.out _).mono ?_; rintro e w' ⟨rfl, rfl⟩)
            go_roundw
            case rel => exact ⟨pos + 1, rfl, grow_ok OK.out hA.out⟩
            case measure => simp; omega
        | false =>
          have HC : Hid (∀ W, Calls Tryz.prog 122 #[.int .i32 (c : Int)] W fun e w' => e = .returned (.bool false) ∧ w' = W) := fun W => plain_any _ false (by rw [← hpl, plainN_int]) W
          rcases (by omega : (0 < pos ∧ pos + 1 < s.size) ∨ (0 < pos ∧ ¬ pos + 1 < s.size) ∨ ¬ 0 < pos) with hin | hin | hin
          · have g1 : decide ((pos : Int) > 0) = true := decide_eq_true (by omega)
            have g2 : decide ((pos : Int) < (s.size : Int) - 1) = true := decide_eq_true (by omega)
            by_cases hm : c = 45
            · have g3 : ((c : Int) == 45) = true := by rw [beq_iff_eq]; omega
              have hA : Hid (okAt s pos = true) := Lib.hid (by unfold okAt; rw [← hc, hpl, decide_eq_true hin.1, decide_eq_true hin.2, decide_eq_true hm]; rfl)
              clear hc hm
              go_wp2_with (go_at_call 122; refine (HC.out _).mono ?_; rintro e w' ⟨rfl, rfl⟩)
              go_roundw
              case rel => exact ⟨pos + 1, rfl, grow_ok OK.out hA.out⟩
              case measure => simp; omega
            · have g3 : ((c : Int) == 45) = false := by rw [beq_eq_false_iff_ne]; omega
              have hA : Hid (nameB s = false) := Lib.hid (nameB_false hp (by unfold okAt; rw [← hc, hpl, decide_eq_false hm, Bool.and_false]; rfl))
              clear hc hm
              go_wp2_with (go_at_call 122; refine (HC.out _).mono ?_; rintro e w' ⟨rfl, rfl⟩)
              go_ret
              exact ⟨by rw [hA.out]; rfl, BH.out _⟩
          · have g1 : decide ((pos : Int) > 0) = true := decide_eq_true (by omega)
            have g2 : decide ((pos : Int) < (s.size : Int) - 1) = false := decide_eq_false (by omega)
            have hA : Hid (nameB s = false) := Lib.hid (nameB_false hp (by unfold okAt; rw [← hc, hpl]; rw [decide_eq_false hin.2, Bool.and_false]; rfl))
            clear hc
            go_wp2_with (go_at_call 122; refine (HC.out _).mono ?_; rintro e w' ⟨rfl, rfl⟩)
            go_ret
            exact ⟨by rw [hA.out]; rfl, BH.out _⟩
          · have g1 : decide ((pos : Int) > 0) = false := decide_eq_false (by omega)
            have hA : Hid (nameB s = false) := Lib.hid (nameB_false hp (by unfold okAt; rw [← hc, hpl]; rw [decide_eq_false hin]; rfl))
            clear hc
            go_wp2_with (go_at_call 122; refine (HC.out _).mono ?_; rintro e w' ⟨rfl, rfl⟩)
            go_ret
            exact ⟨by rw [hA.out]; rfl, BH.out _⟩
      · obtain ⟨⟨l, q⟩, hlq⟩ : ∃ x, x = Utf8.decode s pos := ⟨_, rfl⟩
        rw [← hlq] at hnx hd
        have hl : 128 ≤ l := hd
        have HC : Hid (∀ W, Calls Tryz.prog 122 #[.int .i32 (l : Int)] W fun e w' => e = .returned (.bool false) ∧ w' = W) := fun W => plain_any _ false (by
          rw [decide_eq_false (show ¬ ((l : Int) ≤ 122) by omega), decide_eq_false (show ¬ ((l : Int) ≤ 57) by omega), Bool.and_false, Bool.and_false]; rfl) W
        have g3 : ((l : Int) == 45) = false := by rw [beq_eq_false_iff_ne]; omega
        have hA : Hid (nameB s = false) := Lib.hid (nameB_false hp (by
          unfold okAt plainN
          rw [decide_eq_false (show ¬ (s.get! pos).toNat ≤ 122 by omega), decide_eq_false (show ¬ (s.get! pos).toNat ≤ 57 by omega), decide_eq_false (show ¬ (s.get! pos).toNat = 45 by omega), Bool.and_false, Bool.and_false, Bool.and_false]; rfl))
        clear hlq hd hl hlt
        rcases (by omega : (0 < pos ∧ pos + 1 < s.size) ∨ (0 < pos ∧ ¬ pos + 1 < s.size) ∨ ¬ 0 < pos) with hin | hin | hin
        · have g1 : decide ((pos : Int) > 0) = true := decide_eq_true (by omega)
          have g2 : decide ((pos : Int) < (s.size : Int) - 1) = true := decide_eq_true (by omega)
          go_wp2_with (go_at_call 122; refine (HC.out _).mono ?_; rintro e w' ⟨rfl, rfl⟩)
          go_ret
          exact ⟨by rw [hA.out]; rfl, BH.out _⟩
        · have g1 : decide ((pos : Int) > 0) = true := decide_eq_true (by omega)
          have g2 : decide ((pos : Int) < (s.size : Int) - 1) = false := decide_eq_false (by omega)
          go_wp2_with (go_at_call 122; refine (HC.out _).mono ?_; rintro e w' ⟨rfl, rfl⟩)
          go_ret
          exact ⟨by rw [hA.out]; rfl, BH.out _⟩
        · have g1 : decide ((pos : Int) > 0) = false := decide_eq_false (by omega)
          go_wp2_with (go_at_call 122; refine (HC.out _).mono ?_; rintro e w' ⟨rfl, rfl⟩)
          go_ret
          exact ⟨by rw [hA.out]; rfl, BH.out _⟩
    · have hnx : ∀ ty, (Instr.next (.pointer (some ⟨w.heap.size, 0, none⟩)) true ty).run Tryz.prog (w.iter s pos) = _ := fun ty => run_next_end w s pos ty hp
      have e : nameB s = true := nameB_true (by omega) (by omega) fun i hi => hok i (by omega) hi
      have E := Lib.hid e
      clear e
      go_wp2
      go_ret
      exact ⟨by rw [E.out]; rfl, (Gd.refl w).alloc _⟩
set_option maxHeartbeats 2000000 in
set_option maxRecDepth 100000 in
theorem allNames_gd (v : Value) (ts : List ByteArray) (w : World) (hv : Strs w v ts) :
    Calls Tryz.prog 86 #[v] w fun e w' => e = .returned (.bool (ts.all nameB)) ∧ Gd w w' := by
  have V : Aside (Strs w v ts) := hv
  obtain ⟨a, cap, rfl, hlc, hcm⟩ := hv.len
  unfold maxLen at hcm
  clear hv
  go_enter Tryz.func86, Tryz.ntmps86
  go_wp2_with fail
  go_loopg [7] ts.length (fun g si wr => ∃ (k : Nat), k ≤ ts.length ∧ g = ts.length - k ∧ si = .int .i64 k ∧ (ts.take k).all nameB = true ∧ Gd w wr)
  case atStart => exact ⟨0, Nat.zero_le _, rfl, rfl, rfl, Gd.refl _⟩
  case round =>
    obtain ⟨k, hk, hg, rfl, ha, hb⟩ := hrel
    have R : Aside (gk = ts.length - k ∧ (ts.take k).all nameB = true ∧ Gd w wr) := ⟨hg, ha, hb⟩
    clear hg hb ha
    by_cases hlt : k < ts.length
    · obtain ⟨b, off, rfl, p0⟩ := (V.out.below R.out.2.2.1).at k hlt
      obtain ⟨t, ht⟩ : ∃ t, t = ts.getD k ⟨#[]⟩ := ⟨_, rfl⟩
      rw [← ht] at p0
      have C : Aside (t = ts.getD k ⟨#[]⟩) := ht
      clear ht
      have hlt' : (k : Int) < (ts.length : Int) := by omega
      have N := Lib.hid (name_gd t)
      cases hn : nameB t with
      | true =>
        rw [hn] at N
        go_wp2_with fail
        refine (N.out _).mono ?_
        rintro e w1 ⟨rfl, hb⟩
        have B1 := Lib.hid (R.out.2.2.trans hb)
        clear hb
        go_wp2_with fail
        go_roundg (ts.length - (k + 1))
        case measure => have := R.out.1; omega
        case rel => exact ⟨k + 1, by omega, rfl, by go_num, by rw [take_one ts k ⟨#[]⟩ hlt, ← C.out, List.all_append, R.out.2.1]; simp [hn], B1.out⟩
      | false =>
        rw [hn] at N
        go_wp2_with fail
        refine (N.out _).mono ?_
        rintro e w1 ⟨rfl, hb⟩
        have B1 := Lib.hid (R.out.2.2.trans hb)
        clear hb
        go_wp2_with fail
        go_ret
        refine ⟨?_, B1.out⟩
        have : ts.all nameB = false := by
          rw [List.all_eq_false]
          refine ⟨t, ?_, by rw [hn]; exact Bool.false_ne_true⟩
          rw [C.out, List.getD_eq_getElem?_getD, List.getElem?_eq_getElem hlt]
          exact List.getElem_mem hlt
        rw [this]
        rfl
    · go_wp2_with fail
      go_ret
      refine ⟨?_, R.out.2.2⟩
      have := R.out.2.1
      rw [List.take_of_length_le (by omega)] at this
      rw [this]
      rfl
set_option maxHeartbeats 4000000 in
set_option maxRecDepth 100000 in
theorem split_gd (p : ByteArray) (w : World) (hm : HasM w) :
    Calls Tryz.prog 54 #[.string p] w fun e w' => ∃ v, e = .returned (.tuple #[v, .int .i64 (splitE p)]) ∧ OwnS w.heap.size w' v (splitT p) ∧ Gd w w' := by
  have H := Lib.hid hm
  clear hm
  go_enter Tryz.func54, Tryz.ntmps54
  by_cases hr : p.data.toList = [47]
  · have hA : Hid (splitE p = 0 ∧ splitT p = []) := Lib.hid (by unfold splitE splitT splitO; rw [if_pos hr]; exact ⟨rfl, rfl⟩)
    have hp : (p.toList == [47]) = true := by rw [list_of_bytes, hr]; rfl
    go_wp2_with fail
    go_ret2
    exact ⟨.slice none 0 0, by rw [hA.out.1]; rfl, by rw [hA.out.2]; exact World.ownsRow_nil _ _ _ _, Gd.refl _⟩
  have hp : (p.toList == [47]) = false := by rw [list_of_bytes, beq_eq_false_iff_ne]; exact hr
  have hnone : ∀ Q : Prop, ¬ (Lib.hasPrefix p.data.toList [47] = true ∧ p.size ≤ 64 ∧ ((pieces 47 p.data.toList.tail).map bytesOf).length ≤ 8 ∧ ((pieces 47 p.data.toList.tail).map bytesOf).all nameB = true) → splitE p = 41 ∧ splitT p = [] := by
    intro _ h
    unfold splitE splitT splitO
    rw [if_neg hr, if_neg h]
    exact ⟨rfl, rfl⟩
  have HN := Lib.hid (hnone True)
  clear hnone
  have CP : Hid (∀ W, Calls Tryz.prog 84 #[.string p, .string ⟨#[47]⟩] W fun e w' => e = .returned (.tuple #[.string ⟨(Lib.trimPrefix p.data.toList [47]).toArray⟩, .bool (Lib.hasPrefix p.data.toList [47])]) ∧ w' = W) := Lib.hid fun W => Tryz.strings_CutPrefix p ⟨#[47]⟩ W
  cases hpre : Lib.hasPrefix p.data.toList [47] with
  | false =>
    rw [hpre] at CP
    have hA := Lib.hid (HN.out (by rw [hpre]; simp))
    go_wp2_with fail
    refine (CP.out w).mono ?_
    rintro e w1 ⟨rfl, rfl⟩
    go_wp2_with fail
    go_ret2
    exact ⟨.slice none 0 0, by rw [hA.out.1]; rfl, by rw [hA.out.2]; exact World.ownsRow_nil _ _ _ _, Gd.refl _⟩
  | true =>
    rw [hpre, tail_of_prefix hpre] at CP
    by_cases h64 : p.size ≤ 64
    · have g64 : decide ((p.size : Int) > 64) = false := decide_eq_false (by omega)
      obtain ⟨r, hrr⟩ : ∃ r : ByteArray, r = ⟨p.data.toList.tail.toArray⟩ := ⟨_, rfl⟩
      rw [← hrr] at CP
      have rl : r.data.toList = p.data.toList.tail := by rw [hrr]
      have rs : r.size ≤ 64 := by
        have h1 : r.data.toList.length ≤ p.data.toList.length := by rw [rl]; simp
        have h2 : r.data.toList.length = r.size := by simp
        have h3 : p.data.toList.length = p.size := by simp
        omega
      obtain ⟨ts, hts⟩ : ∃ ts, ts = (pieces 47 p.data.toList.tail).map bytesOf := ⟨_, rfl⟩
      have cn : Lib.countB r ⟨#[47]⟩ + 1 = ts.length := by rw [splitB_len, rl, hts]
      have sp : Lib.splitB ⟨#[47]⟩ 0 (Lib.countB r ⟨#[47]⟩) r = ts := by rw [splitB_pieces, rl, hts]
      have hsome : Hid (ts.length ≤ 8 → ts.all nameB = true → splitE p = 0 ∧ splitT p = ts) := Lib.hid (by
        intro h8 hall
        have e : splitO p = some ts := by
          unfold splitO
          rw [if_neg hr, if_pos ⟨hpre, h64, by rw [← hts]; exact h8, by rw [← hts]; exact hall⟩, ← hts]
        unfold splitE splitT
        rw [e]
        exact ⟨rfl, rfl⟩)
      have hno : Hid (¬ (ts.length ≤ 8 ∧ ts.all nameB = true) → splitE p = 41 ∧ splitT p = []) := Lib.hid (by
        intro h
        refine HN.out fun h2 => h ?_
        rw [hts]
        exact h2.2.2)
      have tl : ts.length ≤ 65 := by
        have := Lib.countB_le ⟨#[47]⟩ (by decide) _ r (Nat.le_refl _)
        omega
      have SP : Hid (∀ W m, W.cell? ⟨0, 0, none⟩ = some (.int .i64 m) → Calls Tryz.prog 85 #[.string r, .string ⟨#[47]⟩] W fun e w' => e = .returned (.slice (some ⟨W.heap.size, 0, none⟩) ts.length ts.length) ∧ OwnS W.heap.size w' (.slice (some ⟨W.heap.size, 0, none⟩) ts.length ts.length) ts ∧ Gd W w') := Lib.hid fun W m hm => by
        have h := Tryz.strings_Split r ⟨#[47]⟩ m W (by omega) hm (by decide)
        rw [cn, sp] at h
        refine h.mono ?_
        rintro e w' ⟨rfl, rfl⟩
        refine ⟨rfl, ⟨by simp [cellsS], .inr ⟨W.heap.size, ts.length, (ts.map Value.string).toArray, rfl, Nat.le_refl _, Array.getElem?_push_size, Nat.le_refl _, by unfold maxLen; omega, by simp, by show List.take (ts.length * 1) (ts.map Value.string) = _; rw [Nat.mul_one, List.take_of_length_le (by simp)]; rfl⟩⟩, (Gd.refl W).alloc _⟩
      clear HN hrr rl rs hts cn sp
      go_wp2_with fail
      refine (CP.out w).mono ?_
      rintro e w1 ⟨rfl, rfl⟩
      go_wp2_with fail
      obtain ⟨m, hm⟩ := H.out
      refine (SP.out w1 m hm).mono ?_
      rintro e w2 ⟨rfl, own, hb⟩
      have O2 := Lib.hid own
      have B2 := Lib.hid hb
      clear own hb hm SP CP
      by_cases h8 : ts.length ≤ 8
      · have g8 : decide ((ts.length : Int) > 8) = false := decide_eq_false (by omega)
        have AN := Lib.hid (allNames_gd _ ts w2 O2.out.strs)
        cases hall : ts.all nameB with
        | true =>
          rw [hall] at AN
          have hA := Lib.hid (hsome.out h8 hall)
          go_wp2_with fail
          refine AN.out.mono ?_
          rintro e w3 ⟨rfl, hb⟩
          have O3 := Lib.hid (O2.out.below hb.1)
          have B3 := Lib.hid (B2.out.trans hb)
          clear hb
          go_wp2_with fail
          go_ret2
          exact ⟨_, by rw [hA.out.1]; rfl, by rw [hA.out.2]; exact O3.out, B3.out⟩
        | false =>
          rw [hall] at AN
          have hA := Lib.hid (hno.out (by rw [hall]; simp))
          go_wp2_with fail
          refine AN.out.mono ?_
          rintro e w3 ⟨rfl, hb⟩
          have B3 := Lib.hid (B2.out.trans hb)
          clear hb
          go_wp2_with fail
          go_ret2
          exact ⟨.slice none 0 0, by rw [hA.out.1]; rfl, by rw [hA.out.2]; exact World.ownsRow_nil _ _ _ _, B3.out⟩
      · have g8 : decide ((ts.length : Int) > 8) = true := decide_eq_true (by omega)
        have hA := Lib.hid (hno.out (fun h => h8 h.1))
        go_wp2_with fail
        go_ret2
        exact ⟨.slice none 0 0, by rw [hA.out.1]; rfl, by rw [hA.out.2]; exact World.ownsRow_nil _ _ _ _, B2.out⟩
    · have g64 : decide ((p.size : Int) > 64) = true := decide_eq_true (by omega)
      have hA := Lib.hid (HN.out (fun h => h64 h.2.1))
      go_wp2_with fail
      refine (CP.out w).mono ?_
      rintro e w1 ⟨rfl, rfl⟩
      go_wp2_with fail
      go_ret2
      exact ⟨.slice none 0 0, by rw [hA.out.1]; rfl, by rw [hA.out.2]; exact World.ownsRow_nil _ _ _ _, Gd.refl _⟩
end Go.Proofs.YthdofbjijpghfaaGreatDoor.L
end S7

section S8
namespace Go.Proofs.YthdofbjijpghfaaGreatDoor
open Go.RowKit Go.Sort
namespace Ac
open L (Gd)
def cmL : List ByteArray → List ByteArray → Int
  | [], [] => 0
  | [], _ :: _ => -1
  | _ :: _, [] => 1
  | x :: xs, y :: ys => if cmS x y = 0 then cmL xs ys else cmS x y
theorem cmL_drop {xs ys : List ByteArray} {i : Nat} (h1 : i < xs.length) (h2 : i < ys.length) : cmL (xs.drop i) (ys.drop i) = if cmS (xs.getD i ⟨#[]⟩) (ys.getD i ⟨#[]⟩) = 0 then cmL (xs.drop (i + 1)) (ys.drop (i + 1)) else cmS (xs.getD i ⟨#[]⟩) (ys.getD i ⟨#[]⟩) := by
  have e1 : xs.drop i = xs.getD i ⟨#[]⟩ :: xs.drop (i + 1) := by rw [List.getD_eq_getElem?_getD, List.getElem?_eq_getElem h1]; simp
  have e2 : ys.drop i = ys.getD i ⟨#[]⟩ :: ys.drop (i + 1) := by rw [List.getD_eq_getElem?_getD, List.getElem?_eq_getElem h2]; simp
  rw [e1, e2, cmL]
set_option maxHeartbeats 4000000 in
set_option maxRecDepth 100000 in
theorem cmpL_any (v0 v1 : Value) (xs ys : List ByteArray) (w : World) (hx : L.Strs w v0 xs) (hy : L.Strs w v1 ys) :
    Calls Tryz.prog 62 #[v0, v1] w fun e w' => e = .returned (.int .i64 (cmL xs ys)) ∧ w' = w := by
  have HX := Lib.hid hx
  have HY := Lib.hid hy
  obtain ⟨a0, c0, rfl, _, hm0⟩ := hx.len
  obtain ⟨a1, c1, rfl, _, hm1⟩ := hy.len
  obtain ⟨n0, hn0⟩ : ∃ n, n = xs.length := ⟨_, rfl⟩
  obtain ⟨n1, hn1⟩ : ∃ n, n = ys.length := ⟨_, rfl⟩
  rw [← hn0] at HX ⊢
  rw [← hn1] at HY ⊢
  have HN := Lib.hid (And.intro hn0 hn1)
  have b0 : n0 ≤ 9223372036854775807 := by unfold maxLen at hm0; omega
  have b1 : n1 ≤ 9223372036854775807 := by unfold maxLen at hm1; omega
  clear hx hy hm0 hm1 hn0 hn1
  obtain ⟨R, hR⟩ : ∃ R, R = cmL xs ys := ⟨_, rfl⟩
  rw [← hR]
  have T0 : Hid (R = cmL (xs.drop 0) (ys.drop 0)) := Lib.hid (by simpa using hR)
  clear hR
  go_enter Tryz.func62, Tryz.ntmps62
  go_wp2_with fail
  go_loopg [11] n0 (fun gg si wr => ∃ i : Nat, i ≤ n0 ∧ i ≤ n1 ∧ gg = n0 - i ∧ si = .int .i64 i ∧ wr = w ∧ Hid (R = cmL (xs.drop i) (ys.drop i)))
  case atStart => exact ⟨0, by omega, by omega, rfl, rfl, rfl, T0⟩
  case round =>
    clear T0
    obtain ⟨i, hi0, hi1, hg, rfl, hw, S⟩ := hrel
    subst hw
    have G := Lib.hid hg
    clear hg
    by_cases h0 : i < n0
    · have h0' : (i : Int) < (n0 : Int) := by omega
      obtain ⟨bb, off, ea, pc⟩ := HX.out.at i (by rw [← HN.out.1]; exact h0)
      subst ea
      obtain ⟨x, hx⟩ : ∃ x, x = xs.getD i ⟨#[]⟩ := ⟨_, rfl⟩
      rw [← hx] at pc
      by_cases h1 : i < n1
      · have h1' : ¬ (n1 : Int) ≤ (i : Int) := by omega
        have g1 : decide ((i : Int) ≥ (n1 : Int)) = false := decide_eq_false (by omega)
        obtain ⟨bb1, off1, ea1, pc1⟩ := HY.out.at i (by rw [← HN.out.2]; exact h1)
        subst ea1
        obtain ⟨y, hy⟩ : ∃ y, y = ys.getD i ⟨#[]⟩ := ⟨_, rfl⟩
        rw [← hy] at pc1
        obtain ⟨C, hC⟩ : ∃ C, C = cmS x y := ⟨_, rfl⟩
        have CP : Hid (∀ W : World, Calls Tryz.prog 48 #[.string x, .string y] W fun e w' => e = .returned (.int .i64 C) ∧ w' = W) := Lib.hid fun W => by rw [hC]; exact cmpS_any x y W
        have ST : Hid (R = if C = 0 then cmL (xs.drop (i + 1)) (ys.drop (i + 1)) else C) := Lib.hid (by rw [S.out, cmL_drop (by rw [← HN.out.1]; exact h0) (by rw [← HN.out.2]; exact h1), ← hx, ← hy, ← hC])
        clear hx hy hC
        have h1'' : (i : Int) < (n1 : Int) := by omega
        go_wp2_with fail
        refine (CP.out _).mono ?_
        rintro e w1 ⟨rfl, hw1⟩
        subst hw1
        by_cases hc : C = 0
        · subst hc
          go_wp2_with fail
          go_roundg (n0 - (i + 1))
          case measure => have := G.out; omega
          case rel => exact ⟨i + 1, by omega, by omega, rfl, by go_num, rfl, Lib.hid (by have h := ST.out; simpa using h)⟩
        · have gc : (C != 0) = true := by rw [bne_iff_ne]; exact hc
          go_wp2_with fail
          go_ret
          exact ⟨by rw [ST.out, if_neg hc]; rfl, rfl⟩
      · have h1' : (n1 : Int) ≤ (i : Int) := by omega
        have g1 : decide ((i : Int) ≥ (n1 : Int)) = true := decide_eq_true (by omega)
        have E : Hid (R = 1) := Lib.hid (by
          rw [S.out, List.drop_of_length_le (l := ys) (by rw [← HN.out.2]; omega)]
          have e1 : xs.drop i = xs.getD i ⟨#[]⟩ :: xs.drop (i + 1) := by rw [List.getD_eq_getElem?_getD, List.getElem?_eq_getElem (by rw [← HN.out.1]; exact h0)]; simp
          rw [e1]; rfl)
        clear hx
        go_wp2_with fail
        go_ret
        exact ⟨by rw [E.out]; rfl, rfl⟩
    · have h0' : ¬ (i : Int) < (n0 : Int) := by omega
      by_cases hl : n0 < n1
      · have hl' : (n0 : Int) < (n1 : Int) := by omega
        have E : Hid (R = -1) := Lib.hid (by
          rw [S.out, List.drop_of_length_le (l := xs) (by rw [← HN.out.1]; omega)]
          have e1 : ys.drop i = ys.getD i ⟨#[]⟩ :: ys.drop (i + 1) := by rw [List.getD_eq_getElem?_getD, List.getElem?_eq_getElem (by rw [← HN.out.2]; omega)]; simp
          rw [e1]; rfl)
        go_wp2_with fail
        go_ret
        exact ⟨by rw [E.out]; rfl, rfl⟩
      · have hl' : ¬ (n0 : Int) < (n1 : Int) := by omega
        have E : Hid (R = 0) := Lib.hid (by rw [S.out, List.drop_of_length_le (l := xs) (by rw [← HN.out.1]; omega), List.drop_of_length_le (l := ys) (by rw [← HN.out.2]; omega)]; rfl)
        go_wp2_with fail
        go_ret
        exact ⟨by rw [E.out]; rfl, rfl⟩
def cmP (a b : ByteArray) : Int := cmL (L.splitT a) (L.splitT b)
set_option maxHeartbeats 2000000 in
theorem comparePaths_any (a b : ByteArray) (w : World) (hm : L.HasM w) : Calls Tryz.prog 43 #[.string a, .string b] w fun e w' => e = .returned (.int .i64 (cmP a b)) ∧ Gd w w' := by
  have S1 := Lib.hid (L.split_gd a w hm)
  have HM := Lib.hid hm
  clear hm
  go_enter Tryz.func43, Tryz.ntmps43
  go_wp2_with fail
  refine S1.out.mono ?_
  rintro e w1 ⟨v1, rfl, o1, g1⟩
  have O1 := Lib.hid (And.intro o1 g1)
  clear o1 g1 S1
  go_wp2_with fail
  refine (L.split_gd b w1 (HM.out.below O1.out.2.1)).mono ?_
  rintro e w2 ⟨v2, rfl, o2, g2⟩
  have O2 : Hid (L.Strs w2 v1 (L.splitT a) ∧ L.Strs w2 v2 (L.splitT b) ∧ Gd w w2) := Lib.hid ⟨O1.out.1.strs.below g2.1, o2.strs, O1.out.2.trans g2⟩
  clear o2 g2 O1
  go_wp2_with fail
  refine (cmpL_any v1 v2 _ _ w2 O2.out.1 O2.out.2.1).mono ?_
  rintro e w3 ⟨rfl, hw3⟩
  subst hw3
  go_wp2_with fail
  go_ret
  exact ⟨rfl, O2.out.2.2⟩
/-- The order of List. -/
def cB (x y : Bd) : Int := if x.p = y.p then cmS x.n y.n else cmP x.p y.p
set_option maxHeartbeats 4000000 in
set_option maxRecDepth 100000 in
theorem compare_any (x y : Bd) (w : World) (hm : L.HasM w) : Calls Tryz.prog 25 #[x.val, y.val] w fun e w' => e = .returned (.int .i64 (cB x y)) ∧ Gd w w' := by
  obtain ⟨ap, an, az, av⟩ := x
  obtain ⟨bp, bn, bz, bv⟩ := y
  unfold Bd.val
  simp only
  obtain ⟨X, hX⟩ : ∃ X, X = w.alloc (.cells #[.string ap, .string an, .string az, .int .i64 av] 28) := ⟨_, rfl⟩
  obtain ⟨Y, hY⟩ : ∃ Y, Y = X.alloc (.cells #[.string bp, .string bn, .string bz, .int .i64 bv] 28) := ⟨_, rfl⟩
  have gY : Gd w Y := by rw [hY, hX]; exact ((Gd.refl w).alloc _).alloc _
  have x0 : X.cell? ⟨w.heap.size, 0, none⟩ = some (.string ap) := by rw [hX, World.cell?_alloc_new]; rfl
  have x1 : X.cell? ⟨w.heap.size, 1, none⟩ = some (.string an) := by rw [hX, World.cell?_alloc_new]; rfl
  have y0 : Y.cell? ⟨X.heap.size, 0, none⟩ = some (.string bp) := by rw [hY, World.cell?_alloc_new]; rfl
  have y1 : Y.cell? ⟨X.heap.size, 1, none⟩ = some (.string bn) := by rw [hY, World.cell?_alloc_new]; rfl
  have p0 : Y.cell? ⟨w.heap.size, 0, none⟩ = some (.string ap) := by rw [hY]; exact cellA x0 _
  have p1 : Y.cell? ⟨w.heap.size, 1, none⟩ = some (.string an) := by rw [hY]; exact cellA x1 _
  have GY := Lib.hid gY
  have HM := Lib.hid (hm.below gY.1)
  have hX' := hX.symm
  have hY' := hY.symm
  clear hX hY gY x0 x1 hm
  by_cases he : ap = bp
  · subst he
    have E : Hid (cB ⟨ap, an, az, av⟩ ⟨ap, bn, bz, bv⟩ = cmS an bn) := Lib.hid (by unfold cB; rw [if_pos rfl])
    have q1 : (ap.toList == ap.toList) = true := beq_self_eq_true _
    have q2 : (ap.toList != ap.toList) = false := bne_self_eq_false _
    go_enter Tryz.func25, Tryz.ntmps25
    go_wp2_with fail
    refine (cmpS_any an bn _).mono ?_
    rintro e w1 ⟨rfl, hw1⟩
    subst hw1
    go_wp2_with fail
    go_ret
    exact ⟨by rw [E.out]; rfl, GY.out⟩
  · have E : Hid (cB ⟨ap, an, az, av⟩ ⟨bp, bn, bz, bv⟩ = cmP ap bp) := Lib.hid (by unfold cB; rw [if_neg he])
    have q1 := teq_no he
    have q2 : (ap.toList != bp.toList) = true := by rw [bne, q1]; rfl
    clear he
    go_enter Tryz.func25, Tryz.ntmps25
    go_wp2_with fail
    refine (comparePaths_any ap bp Y HM.out).mono ?_
    rintro e w1 ⟨rfl, g1⟩
    have G1 := Lib.hid (GY.out.trans g1)
    clear g1
    go_wp2_with fail
    go_ret
    exact ⟨by rw [E.out]; rfl, G1.out⟩
end Ac
end Go.Proofs.YthdofbjijpghfaaGreatDoor
end S8
