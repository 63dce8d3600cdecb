/-
  The document's chain.
-/
import Derived.Test.YtcdejeejhdpkaaaPgRb
namespace Go.Proofs.Ytcdejeejhdpkaaa
open Go.RowKit Go.Maps
/-- What the document asks of a chain's page. -/
def rcB (n : Nd) : Bool := decide (n.ents.length = 0) && (decide (n.chs.length = 0) && (decide (n.keys.length = 0) && (decide (n.kids.length = 0) && (decide (1 ≤ n.data.size) && (decide (n.data.size ≤ 500) && (decide (n.next = 0) || blkB n.next))))))
set_option maxHeartbeats 8000000 in
set_option maxRecDepth 100000 in
theorem rchain_any (n : Nd) (v : Nv) (w : World) (hv : Ls w v n) (hz : Sz n) :
    Calls Try.prog 57 #[.agg (n.arr v)] w fun e w' => e = .returned (.bool (rcB n)) ∧ Below w.heap.size w w' := by
  have V := Lib.hid hv
  have Z := Lib.hid hz
  have BK := Lib.hid dblock_any
  obtain ⟨r, hr⟩ : ∃ r, r = rcB n := ⟨_, rfl⟩
  rw [← hr]
  have RR := Lib.hid hr
  obtain ⟨kind, ents, chs, keys, kids, next, data⟩ := n
  obtain ⟨ve, vc, vk, vh⟩ := v
  unfold rcB at RR
  simp only at RR
  obtain ⟨ae, ce, he, hle, hme⟩ := hv.e.len
  obtain ⟨ac, cc, hc, hlc, hmc⟩ := hv.c.len
  obtain ⟨ak, ck, hk, hlk, hmk⟩ := hv.k.len
  obtain ⟨ah, ch, hh, hlh, hmh⟩ := hv.h.len
  simp only at he hc hk hh hle hlc hlk hlh
  subst he hc hk hh
  unfold maxLen at hme hmc hmk hmh
  unfold Nd.arr
  simp only
  obtain ⟨ne, hne⟩ : ∃ k, k = ents.length := ⟨_, rfl⟩
  obtain ⟨nc, hnc⟩ : ∃ k, k = chs.length := ⟨_, rfl⟩
  obtain ⟨nk, hnk⟩ : ∃ k, k = keys.length := ⟨_, rfl⟩
  obtain ⟨nh, hnh⟩ : ∃ k, k = kids.length := ⟨_, rfl⟩
  rw [← hne, ← hnc, ← hnk, ← hnh] at RR
  rw [← hne, ← hnc, ← hnk, ← hnh]
  rw [← hne] at hle; rw [← hnc] at hlc; rw [← hnk] at hlk; rw [← hnh] at hlh
  have HE := Lib.hid hne; have HC := Lib.hid hnc; have HK := Lib.hid hnk; have HH := Lib.hid hnh
  obtain ⟨gx, hgx⟩ : ∃ gx, gx = w.heap.size := ⟨_, rfl⟩
  obtain ⟨X, hX⟩ : ∃ X, X = w.alloc (.cells #[.int .i64 kind, .slice ae ne ce, .slice ac nc cc, .slice ak nk ck, .slice ah nh ch, .int .i64 next, .string data] 27) := ⟨_, rfl⟩
  have XB : Hid (Below w.heap.size w X) := Lib.hid (by rw [hX]; exact (Below.refl _ _).alloc (Nat.le_refl _) _)
  have XG : Hid (X.heap[gx]? = some (.cells #[.int .i64 kind, .slice ae ne ce, .slice ac nc cc, .slice ak nk ck, .slice ah nh ch, .int .i64 next, .string data] 27 (0, 0))) := Lib.hid (by rw [hX, hgx]; exact heap_alloc_new _ _)
  have CX : Hid (∀ W, Below X.heap.size X W → W.heap[gx]? = some (.cells #[.int .i64 kind, .slice ae ne ce, .slice ac nc cc, .slice ak nk ck, .slice ah nh ch, .int .i64 next, .string data] 27 (0, 0))) := Lib.hid (fun W h => (h.block gx (lt_of_heap XG.out)).trans XG.out)
  have EN : Hid (∀ W, Below X.heap.size X W → Below w.heap.size w W) := Lib.hid (fun W h => XB.out.trans (h.mono XB.out.size))
  obtain ⟨x0, x1, x2, x3, x4, x5, x6⟩ := node_cells XG.out
  have hX' := hX.symm
  have hgx' := hgx.symm
  clear hr hv hz hne hnc hnk hnh hX hgx
  by_cases q0 : ne = 0
  case neg =>
    have q := q0
    have f0_0 : decide ((ne : Int) > 0) = true := by exact decide_eq_true (by omega)
    have f0_1 : decide (0 < ne) = true := by exact decide_eq_true (by omega)
    obtain rfl : r = false := by rw [RR.out, show decide (ne = 0) = false from decide_eq_false q0]; simp
    clear RR q q0
    go_enter Try.func57, Try.ntmps57
    go_wp2_with fail
    go_ret
    exact ⟨rfl, XB.out⟩
  have q := q0
  have f0_0 : decide ((ne : Int) > 0) = false := by exact decide_eq_false (by omega)
  have f0_1 : decide (0 < ne) = false := by exact decide_eq_false (by omega)
  clear q
  by_cases q1 : nc = 0
  case neg =>
    have q := q1
    have f1_0 : decide ((nc : Int) > 0) = true := by exact decide_eq_true (by omega)
    have f1_1 : decide (0 < nc) = true := by exact decide_eq_true (by omega)
    obtain rfl : r = false := by rw [RR.out, show decide (ne = 0) = true from decide_eq_true q0, show decide (nc = 0) = false from decide_eq_false q1]; simp
    clear RR q q0 q1
    go_enter Try.func57, Try.ntmps57
    go_wp2_with fail
    go_ret
    exact ⟨rfl, XB.out⟩
  have q := q1
  have f1_0 : decide ((nc : Int) > 0) = false := by exact decide_eq_false (by omega)
  have f1_1 : decide (0 < nc) = false := by exact decide_eq_false (by omega)
  clear q
  by_cases q2 : nk = 0
  case neg =>
    have q := q2
    have f2_0 : decide ((nk : Int) > 0) = true := by exact decide_eq_true (by omega)
    have f2_1 : decide (0 < nk) = true := by exact decide_eq_true (by omega)
    obtain rfl : r = false := by rw [RR.out, show decide (ne = 0) = true from decide_eq_true q0, show decide (nc = 0) = true from decide_eq_true q1, show decide (nk = 0) = false from decide_eq_false q2]; simp
    clear RR q q0 q1 q2
    go_enter Try.func57, Try.ntmps57
    go_wp2_with fail
    go_ret
    exact ⟨rfl, XB.out⟩
  have q := q2
  have f2_0 : decide ((nk : Int) > 0) = false := by exact decide_eq_false (by omega)
  have f2_1 : decide (0 < nk) = false := by exact decide_eq_false (by omega)
  clear q
  by_cases q3 : nh = 0
  case neg =>
    have q := q3
    have f3_0 : decide ((nh : Int) > 0) = true := by exact decide_eq_true (by omega)
    have f3_1 : decide (0 < nh) = true := by exact decide_eq_true (by omega)
    obtain rfl : r = false := by rw [RR.out, show decide (ne = 0) = true from decide_eq_true q0, show decide (nc = 0) = true from decide_eq_true q1, show decide (nk = 0) = true from decide_eq_true q2, show decide (nh = 0) = false from decide_eq_false q3]; simp
    clear RR q q0 q1 q2 q3
    go_enter Try.func57, Try.ntmps57
    go_wp2_with fail
    go_ret
    exact ⟨rfl, XB.out⟩
  have q := q3
  have f3_0 : decide ((nh : Int) > 0) = false := by exact decide_eq_false (by omega)
  have f3_1 : decide (0 < nh) = false := by exact decide_eq_false (by omega)
  clear q
  have RL : Hid (r = (decide (1 ≤ data.size) && (decide (data.size ≤ 500) && (decide (next = 0) || blkB next)))) := Lib.hid (by rw [RR.out, show decide (ne = 0) = true from decide_eq_true q0, show decide (nc = 0) = true from decide_eq_true q1, show decide (nk = 0) = true from decide_eq_true q2, show decide (nh = 0) = true from decide_eq_true q3]; simp)
  clear RR q0 q1 q2 q3
  by_cases h1 : 1 ≤ data.size
  case neg =>
    have g1 : decide ((data.size : Int) ≥ 1) = false := decide_eq_false (by omega)
    have g1' : decide (1 ≤ data.size) = false := decide_eq_false h1
    have FA : Hid (r = false) := Lib.hid (by rw [RL.out, g1']; simp)
    go_enter Try.func57, Try.ntmps57
    go_wp2_with fail
    go_ret
    exact ⟨by rw [FA.out]; rfl, XB.out⟩
  have g1 : decide ((data.size : Int) ≥ 1) = true := decide_eq_true (by omega)
  have g1' : decide (1 ≤ data.size) = true := decide_eq_true h1
  by_cases h2 : data.size ≤ 500
  case neg =>
    have g2 : decide ((data.size : Int) ≤ 500) = false := decide_eq_false (by omega)
    have g2' : decide (data.size ≤ 500) = false := decide_eq_false h2
    have FA : Hid (r = false) := Lib.hid (by rw [RL.out, g2']; simp)
    go_enter Try.func57, Try.ntmps57
    go_wp2_with fail
    go_ret
    exact ⟨by rw [FA.out]; rfl, XB.out⟩
  have g2 : decide ((data.size : Int) ≤ 500) = true := decide_eq_true (by omega)
  have g2' : decide (data.size ≤ 500) = true := decide_eq_true h2
  by_cases h3 : next = 0
  · have g3 : (next == 0) = true := by simp [h3]
    have FA : Hid (r = true) := Lib.hid (by rw [RL.out, g1', g2', show decide (next = 0) = true from decide_eq_true h3]; rfl)
    clear h3
    go_enter Try.func57, Try.ntmps57
    go_wp2_with fail
    go_ret
    exact ⟨by rw [FA.out]; rfl, XB.out⟩
  · have g3 : (next == 0) = false := by simp [h3]
    have FA : Hid (r = blkB next) := Lib.hid (by rw [RL.out, g1', g2', show decide (next = 0) = false from decide_eq_false h3]; rfl)
    clear h3
    go_enter Try.func57, Try.ntmps57
    go_wp2_with (go_at_call 59; refine (BK.out _ _).mono ?_; rintro e w5 ⟨rfl, rfl⟩)
    go_ret
    exact ⟨by rw [FA.out]; rfl, XB.out⟩
end Go.Proofs.Ytcdejeejhdpkaaa
