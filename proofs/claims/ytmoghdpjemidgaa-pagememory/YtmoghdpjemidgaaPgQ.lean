/-
  sameNode of two nodes that hold the same.
-/
import Derived.Test.YtmoghdpjemidgaaPgT
namespace Go.Proofs.Ytmoghdpjemidgaa
open Go.RowKit Go.Maps
theorem drawn_below {X : World} (wr : World) (h : Below X.heap.size X wr) (n : Nat) : Below X.heap.size X (wr.drewN n) := h.trans ((below_drawn wr n).mono h.size)
set_option maxHeartbeats 16000000 in
set_option maxRecDepth 100000 in
theorem sameNode_yes (n : Nd) (v v' : Nv) (w : World) (hv : Ls w v n) (hv' : Ls w v' n) :
    Calls Try.prog 12 #[.agg (n.arr v), .agg (n.arr v')] w fun e w' => e = .returned (.bool true) ∧ Below w.heap.size w w' := by
  have V := Lib.hid hv
  have V' := Lib.hid hv'
  obtain ⟨kind, ents, chs, keys, kids, next, data⟩ := n
  obtain ⟨ve, vc, vk, vh⟩ := v
  obtain ⟨ue, uc, uk, uh⟩ := v'
  obtain ⟨ae, ce, he, hle, hme⟩ := hv.e.len
  obtain ⟨ac, cc, hc, hlc, hmc⟩ := hv.c.len
  obtain ⟨ak, ck, hk, hlk, hmk⟩ := hv.k.len
  obtain ⟨ah, ch, hh, hlh, hmh⟩ := hv.h.len
  obtain ⟨be, de, he', hle', hme'⟩ := hv'.e.len
  obtain ⟨bc, dc, hc', hlc', hmc'⟩ := hv'.c.len
  obtain ⟨bk, dk, hk', hlk', hmk'⟩ := hv'.k.len
  obtain ⟨bh, dh, hh', hlh', hmh'⟩ := hv'.h.len
  simp only at he hc hk hh hle hlc hlk hlh he' hc' hk' hh' hle' hlc' hlk' hlh'
  subst he hc hk hh he' hc' hk' hh'
  unfold maxLen at hme hmc hmk hmh hme' hmc' hmk' hmh'
  unfold Nd.arr
  simp only
  obtain ⟨ne, hne⟩ : ∃ k, k = ents.length := ⟨_, rfl⟩
  obtain ⟨nc, hnc⟩ : ∃ k, k = chs.length := ⟨_, rfl⟩
  obtain ⟨nk, hnk⟩ : ∃ k, k = keys.length := ⟨_, rfl⟩
  obtain ⟨nh, hnh⟩ : ∃ k, k = kids.length := ⟨_, rfl⟩
  rw [← hne, ← hnc, ← hnk, ← hnh]
  rw [← hne] at hle hle'; rw [← hnc] at hlc hlc'; rw [← hnk] at hlk hlk'; rw [← hnh] at hlh hlh'
  have HE := Lib.hid hne; have HC := Lib.hid hnc; have HK := Lib.hid hnk; have HH := Lib.hid hnh
  obtain ⟨gx, hgx⟩ : ∃ gx, gx = w.heap.size := ⟨_, rfl⟩
  obtain ⟨X0, hX0⟩ : ∃ X0, X0 = w.alloc (.cells #[.int .i64 kind, .slice ae ne ce, .slice ac nc cc, .slice ak nk ck, .slice ah nh ch, .int .i64 next, .string data] 27) := ⟨_, rfl⟩
  obtain ⟨gy, hgy⟩ : ∃ gy, gy = X0.heap.size := ⟨_, rfl⟩
  obtain ⟨X, hX⟩ : ∃ X, X = X0.alloc (.cells #[.int .i64 kind, .slice be ne de, .slice bc nc dc, .slice bk nk dk, .slice bh nh dh, .int .i64 next, .string data] 27) := ⟨_, rfl⟩
  have XG : Hid (X.heap[gx]? = some (.cells #[.int .i64 kind, .slice ae ne ce, .slice ac nc cc, .slice ak nk ck, .slice ah nh ch, .int .i64 next, .string data] 27 (0, 0)) ∧ X.heap[gy]? = some (.cells #[.int .i64 kind, .slice be ne de, .slice bc nc dc, .slice bk nk dk, .slice bh nh dh, .int .i64 next, .string data] 27 (0, 0))) := Lib.hid ⟨by rw [hX, Below.heap_alloc _ _ _ (by rw [hX0, hgx]; simp), hX0, hgx]; exact heap_alloc_new _ _, by rw [hX, hgy]; exact heap_alloc_new _ _⟩
  have XB : Hid (Below w.heap.size w X) := Lib.hid (by rw [hX, hX0]; exact ((Below.refl _ _).alloc (Nat.le_refl _) _).alloc (by simp) _)
  have CX : Hid (∀ W, Below X.heap.size X W → W.heap[gx]? = some (.cells #[.int .i64 kind, .slice ae ne ce, .slice ac nc cc, .slice ak nk ck, .slice ah nh ch, .int .i64 next, .string data] 27 (0, 0)) ∧ W.heap[gy]? = some (.cells #[.int .i64 kind, .slice be ne de, .slice bc nc dc, .slice bk nk dk, .slice bh nh dh, .int .i64 next, .string data] 27 (0, 0))) := Lib.hid (fun W h => ⟨by rw [h.block _ (lt_of_heap XG.out.1)]; exact XG.out.1, by rw [h.block _ (lt_of_heap XG.out.2)]; exact XG.out.2⟩)
  obtain ⟨x0, x1, x2, x3, x4, x5, x6⟩ := node_cells XG.out.1
  obtain ⟨y0, y1, y2, y3, y4, y5, y6⟩ := node_cells XG.out.2
  have hgx' := hgx.symm; have hX0' := hX0.symm; have hgy' := hgy.symm; have hX' := hX.symm
  have gk : (kind != kind) = false := by simp
  have gn : (next != next) = false := by simp
  have gd : (data.toList == data.toList) = true := by simp
  clear hv hv' hne hnc hnk hnh hgx hX0 hgy hX
  go_enter Try.func12, Try.ntmps12
  go_wp2_with fail
  clear x0 x1 x2 x3 x4 x5 x6 y0 y1 y2 y3 y4 y5 y6 hgx' hX0' hgy' hX' gk gn gd
  go_loopg [5] ne (fun gg si wr => ∃ (k : Nat), k ≤ ne ∧ gg = ne - k ∧ si = .int .i64 k ∧ Below X.heap.size X wr)
  case atStart => exact ⟨0, Nat.zero_le _, rfl, rfl, Below.refl _ _⟩
  case round =>
    obtain ⟨k, hk, hg, rfl, hb⟩ := hrel
    have R0 : Aside (gk = ne - k ∧ Below X.heap.size X wr) := ⟨hg, hb⟩
    clear hg hb
    obtain ⟨x0, x1, x2, x3, x4, x5, x6⟩ := node_cells (CX.out wr R0.out.2).1
    obtain ⟨y0, y1, y2, y3, y4, y5, y6⟩ := node_cells (CX.out wr R0.out.2).2
    by_cases hlt : k < ne
    · have BW := Lib.hid (XB.out.trans (R0.out.2.mono XB.out.size))
      obtain ⟨b, off, ha, c0, c1⟩ := (V.out.e.below BW.out).at k (by rw [← HE.out]; exact hlt)
      obtain ⟨b', off', ha', d0, d1⟩ := (V'.out.e.below BW.out).at k (by rw [← HE.out]; exact hlt)
      simp only at ha ha' c0 c1 d0 d1
      obtain ⟨x, hx⟩ : ∃ x, x = ents.getD k (⟨#[]⟩, ⟨#[]⟩) := ⟨_, rfl⟩
      rw [← hx] at c0 c1 d0 d1
      obtain ⟨xk, xv⟩ := x
      simp only at c0 c1 d0 d1
      clear hx
      subst ha ha'
      have hlt' : (k : Int) < (ne : Int) := by omega
      go_wp2_with fail
      go_quiet (fail)
      go_wp2_with fail
      go_roundg (ne - (k + 1))
      case measure => have := R0.out.1; omega
      case rel => exact ⟨k + 1, by omega, rfl, by go_num, drawn_below _ R0.out.2 _⟩
    · go_wp2_with fail
      clear x0 x1 x2 x3 x4 x5 x6 y0 y1 y2 y3 y4 y5 y6 hlt hk
      go_loopg [6] nc (fun gg si wr => ∃ (k : Nat), k ≤ nc ∧ gg = nc - k ∧ si = .int .i64 k ∧ Below X.heap.size X wr)
      case atStart => exact ⟨0, Nat.zero_le _, rfl, rfl, R0.out.2⟩
      case round =>
        obtain ⟨k, hk, hg, rfl, hb⟩ := hrel
        have R1 : Aside (gk = nc - k ∧ Below X.heap.size X wr) := ⟨hg, hb⟩
        clear hg hb
        obtain ⟨x0, x1, x2, x3, x4, x5, x6⟩ := node_cells (CX.out wr R1.out.2).1
        obtain ⟨y0, y1, y2, y3, y4, y5, y6⟩ := node_cells (CX.out wr R1.out.2).2
        by_cases hlt : k < nc
        · have BW := Lib.hid (XB.out.trans (R1.out.2.mono XB.out.size))
          obtain ⟨b, off, ha, c0⟩ := (V.out.c.below BW.out).at k (by rw [← HC.out]; exact hlt)
          obtain ⟨b', off', ha', d0⟩ := (V'.out.c.below BW.out).at k (by rw [← HC.out]; exact hlt)
          simp only at ha ha' c0 d0
          obtain ⟨x, hx⟩ : ∃ x, x = chs.getD k 0 := ⟨_, rfl⟩
          rw [← hx] at c0 d0
          clear hx
          subst ha ha'
          have hlt' : (k : Int) < (nc : Int) := by omega
          go_wp2_with fail
          go_quiet (fail)
          go_wp2_with fail
          go_roundg (nc - (k + 1))
          case measure => have := R1.out.1; omega
          case rel => exact ⟨k + 1, by omega, rfl, by go_num, drawn_below _ R1.out.2 _⟩
        · go_wp2_with fail
          clear x0 x1 x2 x3 x4 x5 x6 y0 y1 y2 y3 y4 y5 y6 hlt hk
          go_loopg [7] nk (fun gg si wr => ∃ (k : Nat), k ≤ nk ∧ gg = nk - k ∧ si = .int .i64 k ∧ Below X.heap.size X wr)
          case atStart => exact ⟨0, Nat.zero_le _, rfl, rfl, R1.out.2⟩
          case round =>
            obtain ⟨k, hk, hg, rfl, hb⟩ := hrel
            have R2 : Aside (gk = nk - k ∧ Below X.heap.size X wr) := ⟨hg, hb⟩
            clear hg hb
            obtain ⟨x0, x1, x2, x3, x4, x5, x6⟩ := node_cells (CX.out wr R2.out.2).1
            obtain ⟨y0, y1, y2, y3, y4, y5, y6⟩ := node_cells (CX.out wr R2.out.2).2
            by_cases hlt : k < nk
            · have BW := Lib.hid (XB.out.trans (R2.out.2.mono XB.out.size))
              obtain ⟨b, off, ha, c0⟩ := (V.out.k.below BW.out).at k (by rw [← HK.out]; exact hlt)
              obtain ⟨b', off', ha', d0⟩ := (V'.out.k.below BW.out).at k (by rw [← HK.out]; exact hlt)
              simp only at ha ha' c0 d0
              obtain ⟨x, hx⟩ : ∃ x, x = keys.getD k ⟨#[]⟩ := ⟨_, rfl⟩
              rw [← hx] at c0 d0
              clear hx
              subst ha ha'
              have hlt' : (k : Int) < (nk : Int) := by omega
              go_wp2_with fail
              go_quiet (fail)
              go_wp2_with fail
              go_roundg (nk - (k + 1))
              case measure => have := R2.out.1; omega
              case rel => exact ⟨k + 1, by omega, rfl, by go_num, drawn_below _ R2.out.2 _⟩
            · go_wp2_with fail
              clear x0 x1 x2 x3 x4 x5 x6 y0 y1 y2 y3 y4 y5 y6 hlt hk
              go_loopg [8] nh (fun gg si wr => ∃ (k : Nat), k ≤ nh ∧ gg = nh - k ∧ si = .int .i64 k ∧ Below X.heap.size X wr)
              case atStart => exact ⟨0, Nat.zero_le _, rfl, rfl, R2.out.2⟩
              case round =>
                obtain ⟨k, hk, hg, rfl, hb⟩ := hrel
                have R3 : Aside (gk = nh - k ∧ Below X.heap.size X wr) := ⟨hg, hb⟩
                clear hg hb
                obtain ⟨x0, x1, x2, x3, x4, x5, x6⟩ := node_cells (CX.out wr R3.out.2).1
                obtain ⟨y0, y1, y2, y3, y4, y5, y6⟩ := node_cells (CX.out wr R3.out.2).2
                by_cases hlt : k < nh
                · have BW := Lib.hid (XB.out.trans (R3.out.2.mono XB.out.size))
                  obtain ⟨b, off, ha, c0⟩ := (V.out.h.below BW.out).at k (by rw [← HH.out]; exact hlt)
                  obtain ⟨b', off', ha', d0⟩ := (V'.out.h.below BW.out).at k (by rw [← HH.out]; exact hlt)
                  simp only at ha ha' c0 d0
                  obtain ⟨x, hx⟩ : ∃ x, x = kids.getD k 0 := ⟨_, rfl⟩
                  rw [← hx] at c0 d0
                  clear hx
                  subst ha ha'
                  have hlt' : (k : Int) < (nh : Int) := by omega
                  go_wp2_with fail
                  go_quiet (fail)
                  go_wp2_with fail
                  go_roundg (nh - (k + 1))
                  case measure => have := R3.out.1; omega
                  case rel => exact ⟨k + 1, by omega, rfl, by go_num, drawn_below _ R3.out.2 _⟩
                · go_wp2_with fail
                  clear x0 x1 x2 x3 x4 x5 x6 y0 y1 y2 y3 y4 y5 y6 hlt hk
                  go_ret
                  exact ⟨rfl, XB.out.trans (R3.out.2.mono XB.out.size)⟩
end Go.Proofs.Ytmoghdpjemidgaa
