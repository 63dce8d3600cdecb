/-
  The law's write, walked.
-/
import Derived.Test.YtmoghdpjemidgaaPmB
namespace Go.Proofs.Ytmoghdpjemidgaa
open Go.RowKit Go.Maps
open Pm
set_option maxHeartbeats 8000000 in
set_option maxRecDepth 100000 in
theorem write_any (k : Nat) (hk : k ≤ 3) (n : Nd) (v : Nv) (B : Nat) (w : World) (he : OwnE B w v.e n.ents) (hc : OwnI B w v.c n.chs) (hy : OwnS B w v.k n.keys) (hh : OwnI B w v.h n.kids) (hap : ∀ g, v.c.ownBlock = some g → v.h.ownBlock ≠ some g) (hz : Sz n) :
    Calls Try.prog 14 #[.agg (n.arr v), .int .i64 (k : Int)] w fun e w' => e = .returned (.tuple #[]) ∧ OwnE B w' v.e (n.ents.map (mE k)) ∧ OwnI B w' v.c (n.chs.map fun _ => 1000 + (k : Int)) ∧ OwnS B w' v.k (n.keys.map fun _ => kT k) ∧ OwnI B w' v.h (n.kids.map fun _ => 2000 + (k : Int)) ∧ Kept (Fb v) w w' := by
  have HK := Lib.hid hk
  obtain ⟨kd, ents, chs, keys, kids, nx, dt⟩ := n
  obtain ⟨ve, vc, vk, vh⟩ := v
  simp only at he hc hy hh hap
  obtain ⟨ae, ce, qe, hle, hme⟩ := he.ents.len
  obtain ⟨ac, cc, qc, hlc, hmc⟩ := hc.ints.len
  obtain ⟨ak, ck, qk, hlk, hmk⟩ := hy.strs.len
  obtain ⟨ah, ch, qh, hlh, hmh⟩ := hh.ints.len
  subst qe qc qk qh
  obtain ⟨z1, z2, z3, z4, -, -⟩ := hz
  simp only at z1 z2 z3 z4
  unfold Nd.arr
  simp only
  unfold maxLen at hme hmc hmk hmh
  obtain ⟨ne, hne⟩ : ∃ ne, ne = ents.length := ⟨_, rfl⟩
  obtain ⟨nc, hnc⟩ : ∃ nc, nc = chs.length := ⟨_, rfl⟩
  obtain ⟨nk, hnk⟩ : ∃ nk, nk = keys.length := ⟨_, rfl⟩
  obtain ⟨nh, hnh⟩ : ∃ nh, nh = kids.length := ⟨_, rfl⟩
  rw [← hne] at he hle z1 ⊢
  rw [← hnc] at hc hap hlc z2 ⊢
  rw [← hnk] at hy hlk z3 ⊢
  rw [← hnh] at hh hap hlh z4 ⊢
  have HN := Lib.hid (And.intro hne (And.intro hnc (And.intro hnk hnh)))
  obtain ⟨gx, hgx⟩ : ∃ gx, gx = w.heap.size := ⟨_, rfl⟩
  obtain ⟨X, hX⟩ : ∃ X, X = w.alloc (.cells #[.int .i64 kd, .slice ae ne ce, .slice ac nc cc, .slice ak nk ck, .slice ah nh ch, .int .i64 nx, .string dt] 27) := ⟨_, rfl⟩
  have T0 : Hid (Wt B w gx #[.int .i64 kd, .slice ae ne ce, .slice ac nc cc, .slice ak nk ck, .slice ah nh ch, .int .i64 nx, .string dt] ⟨.slice ae ne ce, .slice ac nc cc, .slice ak nk ck, .slice ah nh ch⟩ ents chs keys kids X) := Lib.hid (by
    have b : Below w.heap.size w X := by rw [hX]; exact (Below.refl _ _).alloc (Nat.le_refl _) _
    exact ⟨by rw [hX, hgx, heap_alloc_new], he.below b, hc.below b, hy.below b, hh.below b, hap, Below.kept b _⟩)
  have hX' := hX.symm
  have hgx' := hgx.symm
  clear hX hgx he hc hy hh hap hne hnc hnk hnh
  have CV := Lib.hid (fun W => conv_one W k HK.out)
  have wk : IntKind.u8.wrap (k : Int) = (k : Int) := by have := HK.out; simp [IntKind.wrap, IntKind.bits, IntKind.signed]; omega
  have k3 : (k : Int) ≤ 3 := by have := HK.out; omega
  have pE := apE k
  have pK := apK k
  go_enter Try.func14, Try.ntmps14
  go_wp2_with fail
  clear hX' hgx'
  go_loopg [4] ne (fun gg s wr => ∃ i : Nat, i ≤ ne ∧ gg = ne - i ∧ s = .int .i64 i ∧ Hid (Wt B w gx #[.int .i64 kd, .slice ae ne ce, .slice ac nc cc, .slice ak nk ck, .slice ah nh ch, .int .i64 nx, .string dt] ⟨.slice ae ne ce, .slice ac nc cc, .slice ak nk ck, .slice ah nh ch⟩ (tm (mE k) ents i) chs keys kids wr))
  case atStart => exact ⟨0, Nat.zero_le _, rfl, rfl, T0⟩
  case round =>
    clear T0
    obtain ⟨i, hi, hg, rfl, S⟩ := hrel
    have G := Lib.hid hg
    clear hg
    have k5 : wr.cell? ⟨gx, 1, none⟩ = some (.slice ae ne ce) := (node_cells S.out.x).2.1
    by_cases hlt : i < ne
    · have hlt' : (i : Int) < (ne : Int) := by omega
      obtain ⟨b, off, ea, q0, _⟩ := S.out.e.ents.at i (by rw [tm_len, ← HN.out.1]; exact hlt)
      subst ea
      have OB : Hid (off = 0 ∧ (∀ j, wr.frozen? ⟨b, j, none⟩ = false)) := Lib.hid (by
        obtain ⟨_, ⟨hv, _⟩ | ⟨g', cap, cur, hv, _, hg, _⟩⟩ := S.out.e
        · simp at hv
        · simp only [Value.slice.injEq, Option.some.injEq, Addr.mk.injEq] at hv
          obtain ⟨⟨rfl, rfl, _⟩, _, _⟩ := hv
          exact ⟨rfl, fun j => frozen_of_row _ _ _ _ _ hg⟩)
      obtain ⟨A1, hA1⟩ : ∃ Z, wr.alloc (.cells #[.int .u8 (k : Int)] 5) = Z := ⟨_, rfl⟩
      have bA : Below wr.heap.size wr A1 := by rw [← hA1]; exact (Below.refl _ _).alloc (Nat.le_refl _) _
      have SA := Lib.hid (S.out.below bA)
      have cv : (convert 33 9 (.slice (some ⟨wr.heap.size, 0, none⟩) 1 1)).run Try.prog A1 = .ok (.string ⟨#[UInt8.ofNat k]⟩) A1 := by rw [← hA1]; exact CV.out wr
      have c1 := (bA.cell (block_lt_of_cell q0)).trans q0
      have f1 : A1.frozen? ⟨b, off + i * 2, none⟩ = false := by
        rw [World.frozen?_of_block (bA.block b (block_lt_of_cell q0))]; exact OB.out.2 _
      obtain ⟨Y, hY⟩ : ∃ Y, A1.setCell ⟨b, off + i * 2, none⟩ (.string (eT k)) = Y := ⟨_, rfl⟩
      have SY : Hid (Wt B w gx #[.int .i64 kd, .slice (some ⟨b, off, none⟩) ne ce, .slice ac nc cc, .slice ak nk ck, .slice ah nh ch, .int .i64 nx, .string dt] ⟨.slice (some ⟨b, off, none⟩) ne ce, .slice ac nc cc, .slice ak nk ck, .slice ah nh ch⟩ (tm (mE k) ents (i + 1)) chs keys kids Y) := Lib.hid (by
        have o0 := SA.out.e
        have hz0 := OB.out.1
        have ho : OwnE B Y (.slice (some ⟨b, off, none⟩) ne ce) (tm (mE k) ents (i + 1)) := by
          have e1 := tm_step (mE k) ents i (⟨#[]⟩, ⟨#[]⟩) (by rw [← HN.out.1]; exact hlt)
          have e2 : mE k (ents.getD i (⟨#[]⟩, ⟨#[]⟩)) = (eT k, ((tm (mE k) ents i).getD i (⟨#[]⟩, ⟨#[]⟩)).2) := by rw [tm_get _ _ _ _ (by rw [← HN.out.1]; exact hlt)]; rfl
          rw [e2] at e1
          rw [← e1, ← hY]
          show World.ownsRow _ _ _ _ _ _ _
          rw [List.length_set, cellsE_set _ i (eT k) (by rw [tm_len, ← HN.out.1]; exact hlt), hz0]
          rw [hz0] at o0
          rw [Nat.zero_add]
          exact Ps.raw_set o0 _ _
        exact SA.out.setE ho (by rw [← hY]; exact Ps.grown_one _ _ _ _))
      go_wp2_with fail
      go_roundg (ne - (i + 1))
      case measure => have := G.out; omega
      case rel => exact ⟨i + 1, by omega, rfl, by go_num, SY⟩
    · have hge : ¬ (i : Int) < (ne : Int) := by omega
      have T1 : Hid (Wt B w gx #[.int .i64 kd, .slice ae ne ce, .slice ac nc cc, .slice ak nk ck, .slice ah nh ch, .int .i64 nx, .string dt] ⟨.slice ae ne ce, .slice ac nc cc, .slice ak nk ck, .slice ah nh ch⟩ (ents.map (mE k)) chs keys kids wr) := Lib.hid (by have q := S.out; rw [tm_all _ _ _ (by rw [← HN.out.1]; omega)] at q; exact q)
      go_wp2_with fail
      clear k5 hge hlt S G
      go_loopg [5] nc (fun gg s wr => ∃ i : Nat, i ≤ nc ∧ gg = nc - i ∧ s = .int .i64 i ∧ Hid (Wt B w gx #[.int .i64 kd, .slice ae ne ce, .slice ac nc cc, .slice ak nk ck, .slice ah nh ch, .int .i64 nx, .string dt] ⟨.slice ae ne ce, .slice ac nc cc, .slice ak nk ck, .slice ah nh ch⟩ (ents.map (mE k)) (tm (fun _ => 1000 + (k : Int)) chs i) keys kids wr))
      case atStart => exact ⟨0, Nat.zero_le _, rfl, rfl, T1⟩
      case round =>
        clear T1
        obtain ⟨i, hi, hg, rfl, S⟩ := hrel
        have G := Lib.hid hg
        clear hg
        have k5 : wr.cell? ⟨gx, 2, none⟩ = some (.slice ac nc cc) := (node_cells S.out.x).2.2.1
        by_cases hlt : i < nc
        · have hlt' : (i : Int) < (nc : Int) := by omega
          obtain ⟨b, off, ea, q0⟩ := S.out.c.ints.at i (by rw [tm_len, ← HN.out.2.1]; exact hlt)
          subst ea
          have OB : Hid (off = 0 ∧ (∀ j, wr.frozen? ⟨b, j, none⟩ = false)) := Lib.hid (by
            obtain ⟨_, ⟨hv, _⟩ | ⟨g', cap, cur, hv, _, hg, _⟩⟩ := S.out.c
            · simp at hv
            · simp only [Value.slice.injEq, Option.some.injEq, Addr.mk.injEq] at hv
              obtain ⟨⟨rfl, rfl, _⟩, _, _⟩ := hv
              exact ⟨rfl, fun j => frozen_of_row _ _ _ _ _ hg⟩)
          have SA := S
          have f1 : wr.frozen? ⟨b, off + i, none⟩ = false := OB.out.2 _
          obtain ⟨Y, hY⟩ : ∃ Y, wr.setCell ⟨b, off + i, none⟩ (.int .i64 (1000 + (k : Int))) = Y := ⟨_, rfl⟩
          have SY : Hid (Wt B w gx #[.int .i64 kd, .slice ae ne ce, .slice (some ⟨b, off, none⟩) nc cc, .slice ak nk ck, .slice ah nh ch, .int .i64 nx, .string dt] ⟨.slice ae ne ce, .slice (some ⟨b, off, none⟩) nc cc, .slice ak nk ck, .slice ah nh ch⟩ (ents.map (mE k)) (tm (fun _ => 1000 + (k : Int)) chs (i + 1)) keys kids Y) := Lib.hid (by
            have o0 := SA.out.c
            have hz0 := OB.out.1
            have ho : OwnI B Y (.slice (some ⟨b, off, none⟩) nc cc) (tm (fun _ => 1000 + (k : Int)) chs (i + 1)) := by
              have e1 := tm_step (fun _ => 1000 + (k : Int)) chs i 0 (by rw [← HN.out.2.1]; exact hlt)
              rw [← e1, ← hY]
              show World.ownsRow _ _ _ _ _ _ _
              rw [List.length_set, cellsI_set _ i _, hz0]
              rw [hz0] at o0
              rw [Nat.zero_add]
              exact Ps.raw_set o0 _ _
            exact SA.out.setC ho (by rw [← hY]; exact Ps.grown_one _ _ _ _))
          go_wp2_with fail
          go_roundg (nc - (i + 1))
          case measure => have := G.out; omega
          case rel => exact ⟨i + 1, by omega, rfl, by go_num, SY⟩
        · have hge : ¬ (i : Int) < (nc : Int) := by omega
          have T2 : Hid (Wt B w gx #[.int .i64 kd, .slice ae ne ce, .slice ac nc cc, .slice ak nk ck, .slice ah nh ch, .int .i64 nx, .string dt] ⟨.slice ae ne ce, .slice ac nc cc, .slice ak nk ck, .slice ah nh ch⟩ (ents.map (mE k)) (chs.map fun _ => 1000 + (k : Int)) keys kids wr) := Lib.hid (by have q := S.out; rw [tm_all _ _ _ (by rw [← HN.out.2.1]; omega)] at q; exact q)
          go_wp2_with fail
          clear k5 hge hlt S G
          go_loopg [6] nk (fun gg s wr => ∃ i : Nat, i ≤ nk ∧ gg = nk - i ∧ s = .int .i64 i ∧ Hid (Wt B w gx #[.int .i64 kd, .slice ae ne ce, .slice ac nc cc, .slice ak nk ck, .slice ah nh ch, .int .i64 nx, .string dt] ⟨.slice ae ne ce, .slice ac nc cc, .slice ak nk ck, .slice ah nh ch⟩ (ents.map (mE k)) (chs.map fun _ => 1000 + (k : Int)) (tm (fun _ => kT k) keys i) kids wr))
          case atStart => exact ⟨0, Nat.zero_le _, rfl, rfl, T2⟩
          case round =>
            clear T2
            obtain ⟨i, hi, hg, rfl, S⟩ := hrel
            have G := Lib.hid hg
            clear hg
            have k5 : wr.cell? ⟨gx, 3, none⟩ = some (.slice ak nk ck) := (node_cells S.out.x).2.2.2.1
            by_cases hlt : i < nk
            · have hlt' : (i : Int) < (nk : Int) := by omega
              obtain ⟨b, off, ea, q0⟩ := S.out.k.strs.at i (by rw [tm_len, ← HN.out.2.2.1]; exact hlt)
              subst ea
              have OB : Hid (off = 0 ∧ (∀ j, wr.frozen? ⟨b, j, none⟩ = false)) := Lib.hid (by
                obtain ⟨_, ⟨hv, _⟩ | ⟨g', cap, cur, hv, _, hg, _⟩⟩ := S.out.k
                · simp at hv
                · simp only [Value.slice.injEq, Option.some.injEq, Addr.mk.injEq] at hv
                  obtain ⟨⟨rfl, rfl, _⟩, _, _⟩ := hv
                  exact ⟨rfl, fun j => frozen_of_row _ _ _ _ _ hg⟩)
              obtain ⟨A1, hA1⟩ : ∃ Z, wr.alloc (.cells #[.int .u8 (k : Int)] 5) = Z := ⟨_, rfl⟩
              have bA : Below wr.heap.size wr A1 := by rw [← hA1]; exact (Below.refl _ _).alloc (Nat.le_refl _) _
              have SA := Lib.hid (S.out.below bA)
              have cv : (convert 33 9 (.slice (some ⟨wr.heap.size, 0, none⟩) 1 1)).run Try.prog A1 = .ok (.string ⟨#[UInt8.ofNat k]⟩) A1 := by rw [← hA1]; exact CV.out wr
              have c1 := (bA.cell (block_lt_of_cell q0)).trans q0
              have f1 : A1.frozen? ⟨b, off + i, none⟩ = false := by
                rw [World.frozen?_of_block (bA.block b (block_lt_of_cell q0))]; exact OB.out.2 _
              obtain ⟨Y, hY⟩ : ∃ Y, A1.setCell ⟨b, off + i, none⟩ (.string (kT k)) = Y := ⟨_, rfl⟩
              have SY : Hid (Wt B w gx #[.int .i64 kd, .slice ae ne ce, .slice ac nc cc, .slice (some ⟨b, off, none⟩) nk ck, .slice ah nh ch, .int .i64 nx, .string dt] ⟨.slice ae ne ce, .slice ac nc cc, .slice (some ⟨b, off, none⟩) nk ck, .slice ah nh ch⟩ (ents.map (mE k)) (chs.map fun _ => 1000 + (k : Int)) (tm (fun _ => kT k) keys (i + 1)) kids Y) := Lib.hid (by
                have o0 := SA.out.k
                have hz0 := OB.out.1
                have ho : OwnS B Y (.slice (some ⟨b, off, none⟩) nk ck) (tm (fun _ => kT k) keys (i + 1)) := by
                  have e1 := tm_step (fun _ => kT k) keys i ⟨#[]⟩ (by rw [← HN.out.2.2.1]; exact hlt)
                  rw [← e1, ← hY]
                  show World.ownsRow _ _ _ _ _ _ _
                  rw [List.length_set, cellsS_set _ i _, hz0]
                  rw [hz0] at o0
                  rw [Nat.zero_add]
                  exact Ps.raw_set o0 _ _
                exact SA.out.setK ho (by rw [← hY]; exact Ps.grown_one _ _ _ _))
              go_wp2_with fail
              go_roundg (nk - (i + 1))
              case measure => have := G.out; omega
              case rel => exact ⟨i + 1, by omega, rfl, by go_num, SY⟩
            · have hge : ¬ (i : Int) < (nk : Int) := by omega
              have T3 : Hid (Wt B w gx #[.int .i64 kd, .slice ae ne ce, .slice ac nc cc, .slice ak nk ck, .slice ah nh ch, .int .i64 nx, .string dt] ⟨.slice ae ne ce, .slice ac nc cc, .slice ak nk ck, .slice ah nh ch⟩ (ents.map (mE k)) (chs.map fun _ => 1000 + (k : Int)) (keys.map fun _ => kT k) kids wr) := Lib.hid (by have q := S.out; rw [tm_all _ _ _ (by rw [← HN.out.2.2.1]; omega)] at q; exact q)
              go_wp2_with fail
              clear k5 hge hlt S G
              go_loopg [7] nh (fun gg s wr => ∃ i : Nat, i ≤ nh ∧ gg = nh - i ∧ s = .int .i64 i ∧ Hid (Wt B w gx #[.int .i64 kd, .slice ae ne ce, .slice ac nc cc, .slice ak nk ck, .slice ah nh ch, .int .i64 nx, .string dt] ⟨.slice ae ne ce, .slice ac nc cc, .slice ak nk ck, .slice ah nh ch⟩ (ents.map (mE k)) (chs.map fun _ => 1000 + (k : Int)) (keys.map fun _ => kT k) (tm (fun _ => 2000 + (k : Int)) kids i) wr))
              case atStart => exact ⟨0, Nat.zero_le _, rfl, rfl, T3⟩
              case round =>
                clear T3
                obtain ⟨i, hi, hg, rfl, S⟩ := hrel
                have G := Lib.hid hg
                clear hg
                have k5 : wr.cell? ⟨gx, 4, none⟩ = some (.slice ah nh ch) := (node_cells S.out.x).2.2.2.2.1
                by_cases hlt : i < nh
                · have hlt' : (i : Int) < (nh : Int) := by omega
                  obtain ⟨b, off, ea, q0⟩ := S.out.h.ints.at i (by rw [tm_len, ← HN.out.2.2.2]; exact hlt)
                  subst ea
                  have OB : Hid (off = 0 ∧ (∀ j, wr.frozen? ⟨b, j, none⟩ = false)) := Lib.hid (by
                    obtain ⟨_, ⟨hv, _⟩ | ⟨g', cap, cur, hv, _, hg, _⟩⟩ := S.out.h
                    · simp at hv
                    · simp only [Value.slice.injEq, Option.some.injEq, Addr.mk.injEq] at hv
                      obtain ⟨⟨rfl, rfl, _⟩, _, _⟩ := hv
                      exact ⟨rfl, fun j => frozen_of_row _ _ _ _ _ hg⟩)
                  have SA := S
                  have f1 : wr.frozen? ⟨b, off + i, none⟩ = false := OB.out.2 _
                  obtain ⟨Y, hY⟩ : ∃ Y, wr.setCell ⟨b, off + i, none⟩ (.int .i64 (2000 + (k : Int))) = Y := ⟨_, rfl⟩
                  have SY : Hid (Wt B w gx #[.int .i64 kd, .slice ae ne ce, .slice ac nc cc, .slice ak nk ck, .slice (some ⟨b, off, none⟩) nh ch, .int .i64 nx, .string dt] ⟨.slice ae ne ce, .slice ac nc cc, .slice ak nk ck, .slice (some ⟨b, off, none⟩) nh ch⟩ (ents.map (mE k)) (chs.map fun _ => 1000 + (k : Int)) (keys.map fun _ => kT k) (tm (fun _ => 2000 + (k : Int)) kids (i + 1)) Y) := Lib.hid (by
                    have o0 := SA.out.h
                    have hz0 := OB.out.1
                    have ho : OwnI B Y (.slice (some ⟨b, off, none⟩) nh ch) (tm (fun _ => 2000 + (k : Int)) kids (i + 1)) := by
                      have e1 := tm_step (fun _ => 2000 + (k : Int)) kids i 0 (by rw [← HN.out.2.2.2]; exact hlt)
                      rw [← e1, ← hY]
                      show World.ownsRow _ _ _ _ _ _ _
                      rw [List.length_set, cellsI_set _ i _, hz0]
                      rw [hz0] at o0
                      rw [Nat.zero_add]
                      exact Ps.raw_set o0 _ _
                    exact SA.out.setH ho (by rw [← hY]; exact Ps.grown_one _ _ _ _))
                  go_wp2_with fail
                  go_roundg (nh - (i + 1))
                  case measure => have := G.out; omega
                  case rel => exact ⟨i + 1, by omega, rfl, by go_num, SY⟩
                · have hge : ¬ (i : Int) < (nh : Int) := by omega
                  have T4 : Hid (Wt B w gx #[.int .i64 kd, .slice ae ne ce, .slice ac nc cc, .slice ak nk ck, .slice ah nh ch, .int .i64 nx, .string dt] ⟨.slice ae ne ce, .slice ac nc cc, .slice ak nk ck, .slice ah nh ch⟩ (ents.map (mE k)) (chs.map fun _ => 1000 + (k : Int)) (keys.map fun _ => kT k) (kids.map fun _ => 2000 + (k : Int)) wr) := Lib.hid (by have q := S.out; rw [tm_all _ _ _ (by rw [← HN.out.2.2.2]; omega)] at q; exact q)
                  go_wp2_with fail
                  first | go_end0 | refine bodyPost_ret (results_none rfl _ _ _) rfl ?_
                  exact ⟨rfl, T4.out.e, T4.out.c, T4.out.k, T4.out.h, T4.out.kp⟩
end Go.Proofs.Ytmoghdpjemidgaa
