/-
  THE DOCUMENT'S DEVICE in memory: its state, what of its memory stays.
-/
import Derived.Test.YtbdlebengmbooaaPkG
import Derived.Test.YtbdlebengmbooaaScG
namespace Go.Proofs.Ytbdlebengmbooaa
open Go.RowKit Go.Maps
namespace Rf
/-- A laying: its block, its place, its bytes and where they lie. -/
structure Ly where
  b : Nat
  a : Nat
  ad : Option Addr
  cap : Nat
  l : List UInt8
def Ly.v (y : Ly) : Value := .slice y.ad y.l.length y.cap
def kLy : Kd Ly := ⟨fun y => [.int .i64 (y.b : Int), .int .i64 (y.a : Int), y.v], 3, 77, 63, 40, ⟨0, 0, none, 0, []⟩⟩
theorem okLy : kLy.Ok := ⟨fun _ => rfl, by decide, fun x u hu => by simp only [kLy, List.mem_cons, List.not_mem_nil, or_false] at hu; rcases hu with rfl | rfl | rfl <;> rfl, Try.underlying63, ⟨.agg (kLy.c kLy.z).toArray, by kernel_rfl, rfl⟩, by decide⟩
structure RD where
  n : Nat
  base : List UInt8
  laid : List Ly
  cache : List Ly
  armed : Bool
  left : Int
  off : Bool
  cr : Int
  cw : Int
  cf : Int
def rdCells (bv lv kv : Value) (s : RD) : Array Value :=
  #[.int .i64 (s.n : Int), bv, lv, kv, .bool s.armed, .int .i64 s.left, .bool s.off, .int .i64 s.cr, .int .i64 s.cw, .int .i64 s.cf]
structure LyOk (B : Nat) (w : World) (n : Nat) (y : Ly) : Prop where
  own : Own B w y.v y.l
  b : y.b < n
  a : y.a + y.l.length ≤ 512
/-- The document's device x is in the state s. -/
structure Rd (B : Nat) (w : World) (x : Nat) (bv lv kv : Value) (s : RD) : Prop where
  self : w.heap[x]? = some (.cells (rdCells bv lv kv s) 65 (0, 0))
  base : Own B w bv s.base
  laid : OwnR kLy B w lv s.laid
  cache : OwnR kLy B w kv s.cache
  ll : ∀ y ∈ s.laid, LyOk B w s.n y
  lc : ∀ y ∈ s.cache, LyOk B w s.n y
  n : 64 ≤ s.n ∧ s.n ≤ 4096
  bl : s.base = [] ∨ s.base.length = 512 * s.n
  bx : B ≤ x
  ne : ∀ k, lv.ownBlock = some k → kv.ownBlock ≠ some k
def RFoot (x : Nat) (lv kv : Value) (k : Nat) : Prop := k = x ∨ lv.ownBlock = some k ∨ kv.ownBlock = some k
variable {B B' : Nat} {w w' w1 : World} {x : Nat} {bv lv kv : Value} {s s' : RD}
theorem Rd.foot_lt (h : Rd B w x bv lv kv s) (k : Nat) (hk : RFoot x lv kv k) : B ≤ k ∧ k < w.heap.size := by
  rcases hk with rfl | hk | hk
  · exact ⟨h.bx, lt_of_heap h.self⟩
  · exact h.laid.lt k hk
  · exact h.cache.lt k hk
/-- A row of other things lies in no block of it. -/
theorem Rd.row_ne {e k0 n0 : Nat} {v : Value} {xs : List Value} (h : Rd B w x bv lv kv s) (H : w.ownsRow B' e k0 v n0 xs) (h1 : e ≠ 65) (h2 : e ≠ 77) : ∀ k, v.ownBlock = some k → ¬ RFoot x lv kv k := by
  intro k hk hf
  obtain ⟨cur, hc⟩ := row_block H hk
  rcases hf with rfl | hf | hf
  · rw [h.self] at hc
    simp only [Option.some.injEq, Obj.cells.injEq] at hc
    exact h1 hc.2.1.symm
  · obtain ⟨cs, m, hq⟩ := h.laid.ty k hf
    rw [hq] at hc
    simp only [Option.some.injEq, Obj.cells.injEq] at hc
    exact h2 hc.2.1.symm
  · obtain ⟨cs, m, hq⟩ := h.cache.ty k hf
    rw [hq] at hc
    simp only [Option.some.injEq, Obj.cells.injEq] at hc
    exact h2 hc.2.1.symm
theorem Rd.bytes_ne {v : Value} {l : List UInt8} (h : Rd B w x bv lv kv s) (ho : Own B' w v l) : ∀ k, v.ownBlock = some k → ¬ RFoot x lv kv k := h.row_ne ho (by decide) (by decide)
theorem LyOk.kept {F : Nat → Prop} {n : Nat} {y : Ly} (h : LyOk B w n y) (hk : Kept F w w') (hb : ∀ v l, Own B w v l → ∀ k, v.ownBlock = some k → ¬ F k) : LyOk B w' n y := ⟨h.own.kept hk (hb _ _ h.own), h.b, h.a⟩
theorem Rd.kept {F : Nat → Prop} (h : Rd B w x bv lv kv s) (hk : Kept F w w') (hF : ∀ k, RFoot x lv kv k → ¬ F k) (hb : ∀ v l, Own B w v l → ∀ k, v.ownBlock = some k → ¬ F k) : Rd B w' x bv lv kv s :=
  ⟨by rw [hk.block x (lt_of_heap h.self) (hF x (.inl rfl))]; exact h.self, h.base.kept hk (hb _ _ h.base), h.laid.kept hk (fun k e => hF k (.inr (.inl e))), h.cache.kept hk (fun k e => hF k (.inr (.inr e))), fun y hy => (h.ll y hy).kept hk hb, fun y hy => (h.lc y hy).kept hk hb, h.n, h.bl, h.bx, h.ne⟩
theorem Rd.below (h : Rd B w x bv lv kv s) (hb : Below w.heap.size w w') : Rd B w' x bv lv kv s :=
  h.kept (Below.kept hb (fun _ => False)) (fun _ _ h => h) (fun _ _ _ _ _ h => h)
theorem Rd.x_ne (h : Rd B w x bv lv kv s) : (∀ k, lv.ownBlock = some k → k ≠ x) ∧ (∀ k, kv.ownBlock = some k → k ≠ x) := by
  refine ⟨fun k e f => ?_, fun k e f => ?_⟩
  · obtain ⟨cs, m, hq⟩ := h.laid.ty k e
    rw [f, h.self] at hq
    simp only [Option.some.injEq, Obj.cells.injEq] at hq
    exact absurd hq.2.1 (by decide)
  · obtain ⟨cs, m, hq⟩ := h.cache.ty k e
    rw [f, h.self] at hq
    simp only [Option.some.injEq, Obj.cells.injEq] at hq
    exact absurd hq.2.1 (by decide)
/-- A store into one field. -/
theorem Rd.set (h : Rd B w x bv lv kv s) (i : Nat) (v : Value) (s' : RD) (e : (rdCells bv lv kv s).setIfInBounds i v = rdCells bv lv kv s') (hn : s'.n = s.n) (hb : s'.base = s.base) (hl : s'.laid = s.laid) (hc : s'.cache = s.cache) :
    Rd B (w.setCell ⟨x, i, none⟩ v) x bv lv kv s' := by
  have K : Kept (fun k => k = x) w (w.setCell ⟨x, i, none⟩ v) := kept_set w _ v rfl
  have X := h.x_ne
  have bt : ∀ v l, Own B w v l → ∀ k, v.ownBlock = some k → ¬ k = x := fun v l ho k hk e => h.bytes_ne ho k hk (.inl e)
  refine ⟨?_, by rw [hb]; exact h.base.kept K (bt _ _ h.base), by rw [hl]; exact h.laid.kept K X.1, by rw [hc]; exact h.cache.kept K X.2, fun y hy => ?_, fun y hy => ?_, by rw [hn]; exact h.n, by rw [hb, hn]; exact h.bl, h.bx, h.ne⟩
  · rw [heap_setCell_same w x i _ _ v h.self, e]
  · rw [hl] at hy; rw [hn]; exact (h.ll y hy).kept K bt
  · rw [hc] at hy; rw [hn]; exact (h.lc y hy).kept K bt
/-- Another row of layings is stored. -/
theorem Rd.laidTo {v' : Value} {l' : List Ly} (h : Rd B w x bv lv kv s) (K : Kept (fun k => some k = lv.ownBlock) w w1) (ho : OwnR kLy B w1 v' l') (ha : At lv v' w) (hy : ∀ y ∈ l', LyOk B w1 s.n y) :
    Rd B (w1.setCell ⟨x, 2, none⟩ v') x bv v' kv { s with laid := l' } := by
  have X := h.x_ne
  have hx1 : w1.heap[x]? = some (.cells (rdCells bv lv kv s) 65 (0, 0)) := by rw [K.block x (lt_of_heap h.self) (fun e => X.1 x e.symm rfl)]; exact h.self
  have bt : ∀ v l, Own B w v l → ∀ k, v.ownBlock = some k → ¬ some k = lv.ownBlock := fun v l ho k hk e => h.bytes_ne ho k hk (.inr (.inl e.symm))
  have hc1 : OwnR kLy B w1 kv s.cache := h.cache.kept K (fun k e f => h.ne k f.symm e)
  have K2 : Kept (fun k => k = x) w1 (w1.setCell ⟨x, 2, none⟩ v') := kept_set w1 _ v' rfl
  have b2 : ∀ v l, Own B w1 v l → ∀ k, v.ownBlock = some k → ¬ k = x := fun v l ho k hk e => by
    obtain ⟨cur, hq⟩ := row_block ho hk
    rw [e, hx1] at hq
    simp only [Option.some.injEq, Obj.cells.injEq] at hq
    exact absurd hq.2.1 (by decide)
  have lt : ∀ {v : Value} {l : List Ly}, OwnR kLy B w1 v l → ∀ k, v.ownBlock = some k → ¬ k = x := fun {v l} ho k hk e => by
    obtain ⟨cs, m, hq⟩ := ho.ty k hk
    rw [e, hx1] at hq
    simp only [Option.some.injEq, Obj.cells.injEq] at hq
    exact absurd hq.2.1 (by decide)
  refine ⟨?_, (h.base.kept K (bt _ _ h.base)).kept K2 (b2 _ _ (h.base.kept K (bt _ _ h.base))), ho.kept K2 (lt ho), hc1.kept K2 (lt hc1), fun y hy' => (hy y hy').kept K2 b2, fun y hy' => ((h.lc y hy').kept K bt).kept K2 b2, h.n, h.bl, h.bx, fun k e f => ?_⟩
  · rw [heap_setCell_same w1 x 2 _ _ v' hx1]
    rfl
  · rcases ha k e.symm with q | q
    · exact h.ne k q.symm f
    · have := (h.cache.lt k f).2
      omega
theorem Rd.cacheTo {v' : Value} {l' : List Ly} (h : Rd B w x bv lv kv s) (K : Kept (fun k => some k = kv.ownBlock) w w1) (ho : OwnR kLy B w1 v' l') (ha : At kv v' w) (hy : ∀ y ∈ l', LyOk B w1 s.n y) :
    Rd B (w1.setCell ⟨x, 3, none⟩ v') x bv lv v' { s with cache := l' } := by
  have X := h.x_ne
  have hx1 : w1.heap[x]? = some (.cells (rdCells bv lv kv s) 65 (0, 0)) := by rw [K.block x (lt_of_heap h.self) (fun e => X.2 x e.symm rfl)]; exact h.self
  have bt : ∀ v l, Own B w v l → ∀ k, v.ownBlock = some k → ¬ some k = kv.ownBlock := fun v l ho k hk e => h.bytes_ne ho k hk (.inr (.inr e.symm))
  have hc1 : OwnR kLy B w1 lv s.laid := h.laid.kept K (fun k e f => h.ne k e f.symm)
  have K2 : Kept (fun k => k = x) w1 (w1.setCell ⟨x, 3, none⟩ v') := kept_set w1 _ v' rfl
  have b2 : ∀ v l, Own B w1 v l → ∀ k, v.ownBlock = some k → ¬ k = x := fun v l ho k hk e => by
    obtain ⟨cur, hq⟩ := row_block ho hk
    rw [e, hx1] at hq
    simp only [Option.some.injEq, Obj.cells.injEq] at hq
    exact absurd hq.2.1 (by decide)
  have lt : ∀ {v : Value} {l : List Ly}, OwnR kLy B w1 v l → ∀ k, v.ownBlock = some k → ¬ k = x := fun {v l} ho k hk e => by
    obtain ⟨cs, m, hq⟩ := ho.ty k hk
    rw [e, hx1] at hq
    simp only [Option.some.injEq, Obj.cells.injEq] at hq
    exact absurd hq.2.1 (by decide)
  refine ⟨?_, (h.base.kept K (bt _ _ h.base)).kept K2 (b2 _ _ (h.base.kept K (bt _ _ h.base))), hc1.kept K2 (lt hc1), ho.kept K2 (lt ho), fun y hy' => ((h.ll y hy').kept K bt).kept K2 b2, fun y hy' => (hy y hy').kept K2 b2, h.n, h.bl, h.bx, fun k e f => ?_⟩
  · rw [heap_setCell_same w1 x 3 _ _ v' hx1]
    rfl
  · rcases ha k f.symm with q | q
    · exact h.ne k e q.symm
    · have := (h.laid.lt k e).2
      omega
theorem Rd.cell (h : Rd B w x bv lv kv s) (k : Nat) : w.cell? ⟨x, k, none⟩ = (rdCells bv lv kv s)[k]? := cell_of_row w x k _ _ _ h.self
theorem Rd.free (h : Rd B w x bv lv kv s) (k : Nat) : w.frozen? ⟨x, k, none⟩ = false := frozen_of_row w x k _ _ h.self
/-- What a call on it leaves. -/
def RLeft (B : Nat) (w : World) (x : Nat) (bv lv kv : Value) (w' : World) (s' : RD) : Prop := ∃ lv' kv', Rd B w' x bv lv' kv' s' ∧ Kept (RFoot x lv kv) w w' ∧ At lv lv' w ∧ (∀ k, kv'.ownBlock = some k → kv.ownBlock = some k ∨ lv.ownBlock = some k ∨ w.heap.size ≤ k)
def newR (n : Nat) (base : List UInt8) : RD := ⟨n, base, [], [], false, 0, false, 0, 0, 0⟩
theorem rnew_bad (i : Int) (w : World) (h : i < 64 ∨ 4096 < i) : Calls Try.prog 6 #[.int .i64 i] w fun e w' => e = .returned (.tuple #[.pointer none, .int .i64 1]) ∧ w' = w := by
  go_enter Try.func6, Try.ntmps6
  by_cases h1 : i < 64
  · have g1 : decide (i < 64) = true := decide_eq_true h1
    go_wp2
    go_ret2
    exact ⟨rfl, rfl⟩
  · have g1 : decide (i < 64) = false := decide_eq_false h1
    have g2 : decide (i > 4096) = true := decide_eq_true (by omega)
    go_wp2
    go_ret2
    exact ⟨rfl, rfl⟩
theorem rnew_ok (n : Nat) (w : World) (h1 : 64 ≤ n) (h2 : n ≤ 4096) : Calls Try.prog 6 #[.int .i64 n] w fun e w' => e = .returned (.tuple #[.pointer (some ⟨w.heap.size, 0, none⟩), .int .i64 0]) ∧ Below w.heap.size w w' ∧ Rd w.heap.size w' w.heap.size (.slice none 0 0) (.slice none 0 0) (.slice none 0 0) (newR n []) := by
  have g1 : decide ((n : Int) < 64) = false := decide_eq_false (by omega)
  have g2 : decide ((n : Int) > 4096) = false := decide_eq_false (by omega)
  go_enter Try.func6, Try.ntmps6
  go_wp2
  go_ret2
  refine ⟨rfl, (Below.refl _ _).alloc (Nat.le_refl _) _, ?_, World.ownsRow_nil _ _ _ _, OwnR.nil _ _ _, OwnR.nil _ _ _, fun y hy => by simp [newR] at hy, fun y hy => by simp [newR] at hy, ⟨h1, h2⟩, .inl rfl, Nat.le_refl _, fun k e => by simp [Value.ownBlock] at e⟩
  rw [heap_alloc_new]
  rfl
def hasR (s : RD) (i : Int) : Bool := decide (0 ≤ i) && decide (i < s.n)
theorem there_any (h : Rd B w x bv lv kv s) (i : Int) : Calls Try.prog 40 #[.pointer (some ⟨x, 0, none⟩), .int .i64 i] w fun e w' => e = .returned (.bool (hasR s i)) ∧ w' = w := by
  have p0 : w.cell? ⟨x, 0, none⟩ = some (.int .i64 (s.n : Int)) := h.cell 0
  clear h
  unfold hasR
  go_enter Try.func40, Try.ntmps40
  by_cases h1 : 0 ≤ i
  · have g1 : decide (i ≥ 0) = true := decide_eq_true h1
    go_wp2_with fail
    go_ret
    exact ⟨by simp [h1], rfl⟩
  · have g1 : decide (i ≥ 0) = false := decide_eq_false h1
    go_wp2_with fail
    go_ret
    exact ⟨by simp, rfl⟩
theorem rblocks_any (h : Rd B w x bv lv kv s) : Calls Try.prog 33 #[.pointer (some ⟨x, 0, none⟩)] w fun e w' => e = .returned (.int .i64 s.n) ∧ w' = w := by
  have p0 : w.cell? ⟨x, 0, none⟩ = some (.int .i64 (s.n : Int)) := h.cell 0
  clear h
  go_enter Try.func33, Try.ntmps33
  go_wp2_with fail
  go_ret
  exact ⟨rfl, rfl⟩
end Rf
end Go.Proofs.Ytbdlebengmbooaa
