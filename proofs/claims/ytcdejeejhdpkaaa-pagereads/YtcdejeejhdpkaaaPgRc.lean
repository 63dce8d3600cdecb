/-
  The document's inner.
-/
import Derived.Test.YtcdejeejhdpkaaaPgRb
namespace Go.Proofs.Ytcdejeejhdpkaaa
open Go.RowKit Go.Maps
/-- What the document asks of an inner page. -/
def riB (n : Nd) : Bool := decide (n.keys.length ≠ 0) && (decide (n.kids.length = n.keys.length + 1) && (decide (n.ents.length = 0) && (decide (n.chs.length = 0) && (decide (n.next = 0) && (decide (n.data.size = 0) && (innG ⟨#[]⟩ n.keys && unlB n.kids))))))
set_option maxHeartbeats 8000000 in
set_option maxRecDepth 100000 in
theorem rinner_any (n : Nd) (v : Nv) (w : World) (hv : Ls w v n) (hz : Sz n) :
    Calls Try.prog 56 #[.agg (n.arr v)] w fun e w' => e = .returned (.bool (riB n)) ∧ Below w.heap.size w w' := by
  have V := Lib.hid hv
  have Z := Lib.hid hz
  have BK := Lib.hid dblock_any
  obtain ⟨r, hr⟩ : ∃ r, r = riB n := ⟨_, rfl⟩
  rw [← hr]
  have RR := Lib.hid hr
  obtain ⟨kind, ents, chs, keys, kids, next, data⟩ := n
  obtain ⟨ve, vc, vk, vh⟩ := v
  unfold riB at RR
  simp only at RR
  obtain ⟨ae, ce, he, hle, hme⟩ := hv.e.len
  obtain ⟨ac, cc, hc, hlc, hmc⟩ := hv.c.len
  obtain ⟨ak, ck, hk, hlk, hmk⟩ := hv.k.len
  obtain ⟨ah, ch, hh, hlh, hmh⟩ := hv.h.len
  simp only at he hc hk hh hle hlc hlk hlh
  subst he hc hk hh
  unfold maxLen at hme hmc hmk hmh
  unfold Nd.arr
  simp only
  obtain ⟨ne, hne⟩ : ∃ k, k = ents.length := ⟨_, rfl⟩
  obtain ⟨nc, hnc⟩ : ∃ k, k = chs.length := ⟨_, rfl⟩
  obtain ⟨nk, hnk⟩ : ∃ k, k = keys.length := ⟨_, rfl⟩
  obtain ⟨nh, hnh⟩ : ∃ k, k = kids.length := ⟨_, rfl⟩
  rw [← hne, ← hnc, ← hnk, ← hnh] at RR
  rw [← hne, ← hnc, ← hnk, ← hnh]
  rw [← hne] at hle; rw [← hnc] at hlc; rw [← hnk] at hlk; rw [← hnh] at hlh
  have HE := Lib.hid hne; have HC := Lib.hid hnc; have HK := Lib.hid hnk; have HH := Lib.hid hnh
  obtain ⟨gx, hgx⟩ : ∃ gx, gx = w.heap.size := ⟨_, rfl⟩
  obtain ⟨X, hX⟩ : ∃ X, X = w.alloc (.cells #[.int .i64 kind, .slice ae ne ce, .slice ac nc cc, .slice ak nk ck, .slice ah nh ch, .int .i64 next, .string data] 27) := ⟨_, rfl⟩
  have XB : Hid (Below w.heap.size w X) := Lib.hid (by rw [hX]; exact (Below.refl _ _).alloc (Nat.le_refl _) _)
  have XG : Hid (X.heap[gx]? = some (.cells #[.int .i64 kind, .slice ae ne ce, .slice ac nc cc, .slice ak nk ck, .slice ah nh ch, .int .i64 next, .string data] 27 (0, 0))) := Lib.hid (by rw [hX, hgx]; exact heap_alloc_new _ _)
  have CX : Hid (∀ W, Below X.heap.size X W → W.heap[gx]? = some (.cells #[.int .i64 kind, .slice ae ne ce, .slice ac nc cc, .slice ak nk ck, .slice ah nh ch, .int .i64 next, .string data] 27 (0, 0))) := Lib.hid (fun W h => (h.block gx (lt_of_heap XG.out)).trans XG.out)
  have EN : Hid (∀ W, Below X.heap.size X W → Below w.heap.size w W) := Lib.hid (fun W h => XB.out.trans (h.mono XB.out.size))
  obtain ⟨x0, x1, x2, x3, x4, x5, x6⟩ := node_cells XG.out
  have hX' := hX.symm
  have hgx' := hgx.symm
  clear hr hv hz hne hnc hnk hnh hX hgx
  have hk9 : nk ≤ 8796093022208 := by rw [HK.out]; exact Z.out.k
  by_cases q0 : nk ≠ 0
  case neg =>
    have q := q0
    have f0_0 : ((nk : Int) == 0) = true := by rw [beq_iff_eq]; omega
    obtain rfl : r = false := by rw [RR.out, show decide (nk ≠ 0) = false from decide_eq_false q0]; simp
    clear RR q q0
    go_enter Try.func56, Try.ntmps56
    go_wp2_with fail
    go_ret
    exact ⟨rfl, XB.out⟩
  have q := q0
  have f0_0 : ((nk : Int) == 0) = false := by rw [beq_eq_false_iff_ne]; omega
  clear q
  by_cases q1 : nh = nk + 1
  case neg =>
    have q := q1
    have f1_0 : ((nh : Int) != (nk : Int) + 1) = true := by rw [bne_iff_ne]; omega
    obtain rfl : r = false := by rw [RR.out, show decide (nk ≠ 0) = true from decide_eq_true q0, show decide (nh = nk + 1) = false from decide_eq_false q1]; simp
    clear RR q q0 q1
    go_enter Try.func56, Try.ntmps56
    go_wp2_with fail
    go_ret
    exact ⟨rfl, XB.out⟩
  have q := q1
  have f1_0 : ((nh : Int) != (nk : Int) + 1) = false := by rw [bne_eq_false_iff_eq]; omega
  clear q
  by_cases q2 : ne = 0
  case neg =>
    have q := q2
    have f2_0 : decide ((ne : Int) > 0) = true := by exact decide_eq_true (by omega)
    have f2_1 : decide (0 < ne) = true := by exact decide_eq_true (by omega)
    obtain rfl : r = false := by rw [RR.out, show decide (nk ≠ 0) = true from decide_eq_true q0, show decide (nh = nk + 1) = true from decide_eq_true q1, show decide (ne = 0) = false from decide_eq_false q2]; simp
    clear RR q q0 q1 q2
    go_enter Try.func56, Try.ntmps56
    go_wp2_with fail
    go_ret
    exact ⟨rfl, XB.out⟩
  have q := q2
  have f2_0 : decide ((ne : Int) > 0) = false := by exact decide_eq_false (by omega)
  have f2_1 : decide (0 < ne) = false := by exact decide_eq_false (by omega)
  clear q
  by_cases q3 : nc = 0
  case neg =>
    have q := q3
    have f3_0 : decide ((nc : Int) > 0) = true := by exact decide_eq_true (by omega)
    have f3_1 : decide (0 < nc) = true := by exact decide_eq_true (by omega)
    obtain rfl : r = false := by rw [RR.out, show decide (nk ≠ 0) = true from decide_eq_true q0, show decide (nh = nk + 1) = true from decide_eq_true q1, show decide (ne = 0) = true from decide_eq_true q2, show decide (nc = 0) = false from decide_eq_false q3]; simp
    clear RR q q0 q1 q2 q3
    go_enter Try.func56, Try.ntmps56
    go_wp2_with fail
    go_ret
    exact ⟨rfl, XB.out⟩
  have q := q3
  have f3_0 : decide ((nc : Int) > 0) = false := by exact decide_eq_false (by omega)
  have f3_1 : decide (0 < nc) = false := by exact decide_eq_false (by omega)
  clear q
  by_cases q4 : next = 0
  case neg =>
    have q := q4
    have f4_0 : (next != 0) = true := by simp [q]
    obtain rfl : r = false := by rw [RR.out, show decide (nk ≠ 0) = true from decide_eq_true q0, show decide (nh = nk + 1) = true from decide_eq_true q1, show decide (ne = 0) = true from decide_eq_true q2, show decide (nc = 0) = true from decide_eq_true q3, show decide (next = 0) = false from decide_eq_false q4]; simp
    clear RR q q0 q1 q2 q3 q4
    go_enter Try.func56, Try.ntmps56
    go_wp2_with fail
    go_ret
    exact ⟨rfl, XB.out⟩
  have q := q4
  have f4_0 : (next != 0) = false := by simp [q]
  clear q
  by_cases q5 : data.size = 0
  case neg =>
    have q := q5
    have f5_0 : data.toList.isEmpty = false := by rw [isEmpty_of]; exact decide_eq_false q
    obtain rfl : r = false := by rw [RR.out, show decide (nk ≠ 0) = true from decide_eq_true q0, show decide (nh = nk + 1) = true from decide_eq_true q1, show decide (ne = 0) = true from decide_eq_true q2, show decide (nc = 0) = true from decide_eq_true q3, show decide (next = 0) = true from decide_eq_true q4, show decide (data.size = 0) = false from decide_eq_false q5]; simp
    clear RR q q0 q1 q2 q3 q4 q5
    go_enter Try.func56, Try.ntmps56
    go_wp2_with fail
    go_ret
    exact ⟨rfl, XB.out⟩
  have q := q5
  have f5_0 : data.toList.isEmpty = true := by rw [isEmpty_of]; exact decide_eq_true q
  clear q
  have RL : Hid (r = (innG ⟨#[]⟩ keys && unlB kids)) := Lib.hid (by rw [RR.out, show decide (nk ≠ 0) = true from decide_eq_true q0, show decide (nh = nk + 1) = true from decide_eq_true q1, show decide (ne = 0) = true from decide_eq_true q2, show decide (nc = 0) = true from decide_eq_true q3, show decide (next = 0) = true from decide_eq_true q4, show decide (data.size = 0) = true from decide_eq_true q5]; simp)
  clear RR q0 q1 q2 q3 q4 q5
  have KV : Hid (∀ W, Below X.heap.size X W → Strs W (.slice ak nk ck) keys) := Lib.hid (fun W h => by
    have q := V.out.k.below (EN.out W h)
    simp only at q
    rw [← HK.out] at q
    exact q)
  have HV : Hid (∀ W, Below X.heap.size X W → Ints W (.slice ah nh ch) kids) := Lib.hid (fun W h => by
    have q := V.out.h.below (EN.out W h)
    simp only at q
    rw [← HH.out] at q
    exact q)
  go_enter Try.func56, Try.ntmps56
  go_wp2_with fail
  clear x0 x1 x2 x3 x4 x5 x6 hX' hgx'
  go_loopg [3] nh (fun gg si wr => ∃ (k : Nat), k ≤ nh ∧ gg = nh - k ∧ si = .int .i64 k ∧ ((kids.take k).all blkB = true ∧ (kids.take k).Nodup) ∧ Below X.heap.size X wr)
  case atStart => exact ⟨0, Nat.zero_le _, rfl, rfl, ⟨rfl, by simp⟩, Below.refl _ _⟩
  case round =>
    obtain ⟨k, hk, hg, rfl, ha, hb⟩ := hrel
    have R0 : Aside (gk = nh - k ∧ ((kids.take k).all blkB = true ∧ (kids.take k).Nodup) ∧ Below X.heap.size X wr) := ⟨hg, ha, hb⟩
    clear hg ha hb
    obtain ⟨x0, x1, x2, x3, x4, x5, x6⟩ := node_cells (CX.out wr R0.out.2.2)
    by_cases hlt : k < nh
    · obtain ⟨b, off, ha, p0⟩ := (HV.out wr R0.out.2.2).at k (by rw [← HH.out]; exact hlt)
      subst ha
      obtain ⟨x, hx⟩ : ∃ x, x = kids.getD k 0 := ⟨_, rfl⟩
      rw [← hx] at p0
      have HX := Lib.hid hx
      have hlt' : (k : Int) < (nh : Int) := by omega
      have SP := Lib.hid (splitI kids k (by rw [← HH.out]; exact hlt))
      rw [← hx] at SP
      clear hx
      cases hbk : blkB x with
      | false =>
        have UF : Hid (r = false) := Lib.hid (by
          have : unlB kids = false := by
            unfold unlB
            have h : kids.all blkB = false := by
              rw [List.all_eq_false]
              exact ⟨x, by rw [SP.out]; simp, by rw [hbk]; exact Bool.false_ne_true⟩
            rw [h, Bool.false_and]
          rw [RL.out, this, Bool.and_false])
        go_wp2_with (go_at_call 59; refine (BK.out _ _).mono ?_; rw [hbk]; rintro e wr ⟨rfl, rfl⟩)
        go_ret
        exact ⟨by rw [UF.out]; rfl, EN.out _ R0.out.2.2⟩
      | true =>
        go_wp2_with (go_at_call 59; refine (BK.out _ _).mono ?_; rw [hbk]; rintro e wr ⟨rfl, rfl⟩)
        clear x0 x1 x2 x3 x4 x5 x6
        go_loopg [4] k (fun gg si wq => ∃ (j : Nat), j ≤ k ∧ gg = k - j ∧ si = .int .i64 j ∧ x ∉ kids.take j ∧ Below X.heap.size X wq)
        case atStart => exact ⟨0, Nat.zero_le _, rfl, rfl, by simp, R0.out.2.2⟩
        case round =>
          obtain ⟨j, hj, hg, rfl, hnot, hb⟩ := hrel
          have Q : Aside (gk = k - j ∧ x ∉ kids.take j ∧ Below X.heap.size X wr) := ⟨hg, hnot, hb⟩
          clear hg hnot hb
          obtain ⟨x0, x1, x2, x3, x4, x5, x6⟩ := node_cells (CX.out wr Q.out.2.2)
          by_cases hjl : j < k
          · obtain ⟨b2, o2, hb2, p1⟩ := (HV.out wr Q.out.2.2).at j (by rw [← HH.out]; omega)
            obtain ⟨b3, o3, hb3, p2⟩ := (HV.out wr Q.out.2.2).at k (by rw [← HH.out]; exact hlt)
            simp only [Option.some.injEq, Addr.mk.injEq, and_true] at hb2 hb3
            obtain ⟨rfl, rfl⟩ := hb2
            rw [← hb3.1, ← hb3.2, ← HX.out] at p2
            clear hb3
            obtain ⟨y, hy⟩ : ∃ y, y = kids.getD j 0 := ⟨_, rfl⟩
            rw [← hy] at p1
            have HY := Lib.hid hy
            clear hy
            have hjl' : (j : Int) < (k : Int) := by omega
            have hjn : (j : Int) < (nh : Int) := by omega
            have TJ := Lib.hid (take_oneI kids j 0 (by rw [← HH.out]; omega))
            rw [← HY.out] at TJ
            by_cases hyx : y = x
            · subst hyx
              have UF : Hid (r = false) := Lib.hid (by
                have : unlB kids = false := by
                  unfold unlB
                  have h : ¬ kids.Nodup := by
                    intro h3
                    rw [SP.out] at h3
                    refine not_nodupI ?_ h3
                    have h4 : y ∈ kids.take (j + 1) := by rw [TJ.out]; simp
                    exact List.mem_of_mem_take (i := j + 1) (by rw [List.take_take, Nat.min_eq_left (by omega)]; exact h4)
                  rw [decide_eq_false h, Bool.and_false]
                rw [RL.out, this, Bool.and_false])
              have gyx : (y == y) = true := by simp
              go_wp2_with fail
              go_quiet (fail)
              go_wp2_with fail
              go_ret
              exact ⟨by rw [UF.out]; rfl, EN.out _ (drawn_of Q.out.2.2 _)⟩
            · have gyx : (y == x) = false := by simp [hyx]
              have HQ := Lib.hid hyx
              clear hyx
              go_wp2_with fail
              go_quiet (fail)
              go_wp2_with fail
              go_roundg (k - (j + 1))
              case measure => have := Q.out.1; omega
              case rel => exact ⟨j + 1, by omega, rfl, by go_num, by rw [TJ.out, List.mem_append, List.mem_singleton]; rintro (h | h); exact Q.out.2.1 h; exact HQ.out h.symm, drawn_of Q.out.2.2 _⟩
          · have ej : j = k := by omega
            subst ej
            go_wp2_with fail
            go_roundg (nh - (j + 1))
            case measure => have := R0.out.1; omega
            case rel => exact ⟨j + 1, by omega, rfl, by go_num, by
              rw [take_oneI kids j 0 (by rw [← HH.out]; exact hlt), ← HX.out, List.all_append, R0.out.2.1.1]
              exact ⟨by simp [hbk], nodup_snocI R0.out.2.1.2 Q.out.2.1⟩, Q.out.2.2⟩
    · have FA : Hid (r = innG ⟨#[]⟩ keys) := Lib.hid (by
        have h2 := R0.out.2.1
        rw [List.take_of_length_le (by rw [← HH.out]; omega)] at h2
        rw [RL.out]
        unfold unlB
        rw [h2.1, decide_eq_true h2.2]
        simp)
      go_wp2_with (go_at_call 60; refine (rising_any _ _ wr (KV.out wr R0.out.2.2)).mono ?_; rintro e w6 ⟨rfl, hb⟩; have B6 := Lib.hid (R0.out.2.2.trans (hb.mono R0.out.2.2.size)); clear hb)
      go_ret
      exact ⟨by rw [FA.out]; rfl, EN.out _ B6.out⟩
end Go.Proofs.Ytcdejeejhdpkaaa
