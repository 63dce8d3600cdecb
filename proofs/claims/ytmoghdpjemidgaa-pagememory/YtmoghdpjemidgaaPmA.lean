/-
  The law's bears, walked.
-/
import Derived.Test.YtmoghdpjemidgaaPsB
import Derived.Deep.CutRange
namespace Go.Proofs.Ytmoghdpjemidgaa
open Go.RowKit Go.Maps
namespace Pm
/-- The marks' texts. -/
def eT (k : Nat) : ByteArray := ⟨#[101, UInt8.ofNat k]⟩
def kT (k : Nat) : ByteArray := ⟨#[107, UInt8.ofNat k]⟩
theorem conv_one (W : World) (k : Nat) (hk : k ≤ 3) : (convert 33 9 (.slice (some ⟨W.heap.size, 0, none⟩) 1 1)).run Try.prog (W.alloc (.cells #[.int .u8 (k : Int)] 5)) = .ok (.string ⟨#[UInt8.ofNat k]⟩) (W.alloc (.cells #[.int .u8 (k : Int)] 5)) := by
  have h : (⟨#[UInt8.ofNat k]⟩ : ByteArray) = txt [UInt8.ofNat k] := rfl
  rw [h]
  refine convT ⟨_, _, rfl, Nat.le_refl _, by decide, fun h => by simp at h, fun j hj => ⟨W.heap.size, 0, rfl, ?_⟩⟩
  have hj0 : j = 0 := by simp at hj; omega
  subst hj0
  rw [Nat.zero_add, World.cell?_alloc_new]
  have : c8 (UInt8.ofNat k) = (k : Int) := by rw [c8_of _ (by omega)]
  show some (Value.int .u8 (k : Int)) = some (.int .u8 (c8 (UInt8.ofNat k)))
  rw [this]
theorem eqE (k : Nat) : ((eT k).toList == ((⟨#[101]⟩ : ByteArray) ++ (⟨#[UInt8.ofNat k]⟩ : ByteArray)).toList) = true := by
  rw [ByteArray.toList_eq, ByteArray.toList_eq]
  simp [eT, ByteArray.data_append]
theorem eqK (k : Nat) : ((kT k).toList == ((⟨#[107]⟩ : ByteArray) ++ (⟨#[UInt8.ofNat k]⟩ : ByteArray)).toList) = true := by
  rw [ByteArray.toList_eq, ByteArray.toList_eq]
  simp [kT, ByteArray.data_append]
/-- Every element bears the mark. -/
structure Brs (k : Nat) (n : Nd) : Prop where
  e : ∀ x ∈ n.ents, x.1 = eT k
  c : ∀ x ∈ n.chs, x = 1000 + (k : Int)
  y : ∀ x ∈ n.keys, x = kT k
  h : ∀ x ∈ n.kids, x = 2000 + (k : Int)
structure Bb (w : World) (gx : Nat) (r : Array Value) (W : World) : Prop where
  x : W.heap[gx]? = some (.cells r 27 (0, 0))
  be : Below w.heap.size w W
theorem Bb.below {w W W' : World} {gx : Nat} {r : Array Value} (h : Bb w gx r W) (hb : Below W.heap.size W W') : Bb w gx r W' := ⟨by rw [hb.block _ (lt_of_heap h.x)]; exact h.x, h.be.trans (hb.mono h.be.size)⟩
end Pm
open Pm
set_option maxHeartbeats 8000000 in
set_option maxRecDepth 100000 in
theorem bears_any (k : Nat) (hk : k ≤ 3) (n : Nd) (v : Nv) (w : World) (hv : Ls w v n) (hz : Sz n) (hb : Brs k n) (l1 : 64 ≤ n.ents.length) (l2 : 64 ≤ n.keys.length) :
    Calls Try.prog 16 #[.agg (n.arr v), .int .i64 (k : Int)] w fun e w' => e = .returned (.bool true) ∧ Below w.heap.size w w' := by
  have V := Lib.hid hv
  have HB := Lib.hid hb
  have HK := Lib.hid hk
  obtain ⟨kd, ents, chs, keys, kids, nx, dt⟩ := n
  obtain ⟨ve, vc, vk, vh⟩ := v
  obtain ⟨ae, ce, he, hle, hme⟩ := hv.e.len
  obtain ⟨ac, cc, hc, hlc, hmc⟩ := hv.c.len
  obtain ⟨ak, ck, hk', hlk, hmk⟩ := hv.k.len
  obtain ⟨ah, ch, hh, hlh, hmh⟩ := hv.h.len
  simp only at he hc hk' hh hle hlc hlk hlh l1 l2
  subst he hc hk' hh
  have zz := hz
  obtain ⟨z1, z2, z3, z4, -, -⟩ := zz
  simp only at z1 z2 z3 z4
  unfold Nd.arr
  simp only
  unfold maxLen at hme hmc hmk hmh
  obtain ⟨ne, hne⟩ : ∃ ne, ne = ents.length := ⟨_, rfl⟩
  obtain ⟨nc, hnc⟩ : ∃ nc, nc = chs.length := ⟨_, rfl⟩
  obtain ⟨nk, hnk⟩ : ∃ nk, nk = keys.length := ⟨_, rfl⟩
  obtain ⟨nh, hnh⟩ : ∃ nh, nh = kids.length := ⟨_, rfl⟩
  rw [← hne] at V l1 hle z1 ⊢
  rw [← hnc] at V hlc z2 ⊢
  rw [← hnk] at V l2 hlk z3 ⊢
  rw [← hnh] at V hlh z4 ⊢
  have HN := Lib.hid (And.intro hne (And.intro hnc (And.intro hnk hnh)))
  clear hv hz hb hk hne hnc hnk hnh
  obtain ⟨gx, hgx⟩ : ∃ gx, gx = w.heap.size := ⟨_, rfl⟩
  obtain ⟨X, hX⟩ : ∃ X, X = w.alloc (.cells #[.int .i64 kd, .slice ae ne ce, .slice ac nc cc, .slice ak nk ck, .slice ah nh ch, .int .i64 nx, .string dt] 27) := ⟨_, rfl⟩
  have T0 : Hid (Bb w gx #[.int .i64 kd, .slice ae ne ce, .slice ac nc cc, .slice ak nk ck, .slice ah nh ch, .int .i64 nx, .string dt] X) := Lib.hid ⟨by rw [hX, hgx, heap_alloc_new], by rw [hX]; exact (Below.refl _ _).alloc (Nat.le_refl _) _⟩
  have hX' := hX.symm
  have hgx' := hgx.symm
  clear hX hgx
  have CV := Lib.hid (fun W => conv_one W k HK.out)
  have wk : IntKind.u8.wrap (k : Int) = (k : Int) := by have := HK.out; simp [IntKind.wrap, IntKind.bits, IntKind.signed]; omega
  have k3 : (k : Int) ≤ 3 := by have := HK.out; omega
  go_enter Try.func16, Try.ntmps16
  go_wp2_with fail
  clear hX' hgx'
  go_loopg [5] ne (fun gg s wr => ∃ i : Nat, i ≤ ne ∧ gg = ne - i ∧ s = .int .i64 i ∧ Hid (Bb w gx #[.int .i64 kd, .slice ae ne ce, .slice ac nc cc, .slice ak nk ck, .slice ah nh ch, .int .i64 nx, .string dt] wr))
  case atStart => exact ⟨0, Nat.zero_le _, rfl, rfl, T0⟩
  case round =>
    clear T0
    obtain ⟨i, hi, hg, rfl, S1⟩ := hrel
    have G1 := Lib.hid hg
    clear hg
    have k5 : wr.cell? ⟨gx, 1, none⟩ = some (.slice ae ne ce) := (node_cells S1.out.x).2.1
    by_cases hlt : i < ne
    · have hlt' : (i : Int) < (ne : Int) := by omega
      obtain ⟨b, off, ea, q0, _⟩ := (V.out.e.below S1.out.be).at i (by rw [← HN.out.1]; exact hlt)
      subst ea
      rw [HB.out.e _ (getD_mem (by rw [← HN.out.1]; exact hlt))] at q0
      obtain ⟨A1, hA1⟩ : ∃ A, wr.drew.alloc (.cells #[.int .u8 (k : Int)] 5) = A := ⟨_, rfl⟩
      have A2 : Hid (Bb w gx #[.int .i64 kd, .slice (some ⟨b, off, none⟩) ne ce, .slice ac nc cc, .slice ak nk ck, .slice ah nh ch, .int .i64 nx, .string dt] A1) := Lib.hid (by rw [← hA1]; exact (S1.out.below (W' := wr.drew) ⟨rfl, rfl, rfl, Nat.le_refl _, fun _ _ => rfl⟩).below ((Below.refl _ _).alloc (Nat.le_refl _) _))
      have cv : (convert 33 9 (.slice (some ⟨wr.heap.size, 0, none⟩) 1 1)).run Try.prog A1 = .ok (.string ⟨#[UInt8.ofNat k]⟩) A1 := by rw [← hA1]; exact CV.out wr.drew
      have d1 : wr.drew.cell? ⟨gx, 1, none⟩ = some (.slice (some ⟨b, off, none⟩) ne ce) := k5
      have d2 : wr.drew.cell? ⟨b, off + i * 2, none⟩ = some (.string (eT k)) := q0
      have d3 : A1.cell? ⟨gx, 1, none⟩ = some (.slice (some ⟨b, off, none⟩) ne ce) := (node_cells A2.out.x).2.1
      have d4 : A1.cell? ⟨b, off + i * 2, none⟩ = some (.string (eT k)) := by
        rw [← hA1, ((Below.refl wr.drew.heap.size wr.drew).alloc (Nat.le_refl _) _).cell (block_lt_of_cell d2)]; exact d2
      have eq1 := eqE k
      go_upto_region 4 with fail
      go_region
      all_goals
        clear d1 d2 d3 d4 cv hA1 k5 q0
        go_wp2_with fail
        go_roundg (ne - (i + 1))
        case measure => have := G1.out; omega
        case rel => exact ⟨i + 1, by omega, rfl, by go_num, A2⟩
    · have hge : ¬ (i : Int) < (ne : Int) := by omega
      go_wp2_with fail
      clear k5 hge hlt
      go_loopg [6] nc (fun gg s wr => ∃ i : Nat, i ≤ nc ∧ gg = nc - i ∧ s = .int .i64 i ∧ Hid (Bb w gx #[.int .i64 kd, .slice ae ne ce, .slice ac nc cc, .slice ak nk ck, .slice ah nh ch, .int .i64 nx, .string dt] wr))
      case atStart => exact ⟨0, Nat.zero_le _, rfl, rfl, S1⟩
      case round =>
        clear S1
        obtain ⟨i, hi, hg, rfl, S2⟩ := hrel
        have G2 := Lib.hid hg
        clear hg
        have k5 : wr.cell? ⟨gx, 2, none⟩ = some (.slice ac nc cc) := (node_cells S2.out.x).2.2.1
        by_cases hlt : i < nc
        · have hlt' : (i : Int) < (nc : Int) := by omega
          obtain ⟨b, off, ea, q0⟩ := (V.out.c.below S2.out.be).at i (by rw [← HN.out.2.1]; exact hlt)
          subst ea
          rw [HB.out.c _ (getD_mem (by rw [← HN.out.2.1]; exact hlt))] at q0
          go_wp2_with fail
          go_roundg (nc - (i + 1))
          case measure => have := G2.out; omega
          case rel => exact ⟨i + 1, by omega, rfl, by go_num, S2⟩
        · have hge : ¬ (i : Int) < (nc : Int) := by omega
          go_wp2_with fail
          clear k5 hge hlt
          go_loopg [7] nk (fun gg s wr => ∃ i : Nat, i ≤ nk ∧ gg = nk - i ∧ s = .int .i64 i ∧ Hid (Bb w gx #[.int .i64 kd, .slice ae ne ce, .slice ac nc cc, .slice ak nk ck, .slice ah nh ch, .int .i64 nx, .string dt] wr))
          case atStart => exact ⟨0, Nat.zero_le _, rfl, rfl, S2⟩
          case round =>
            clear S2
            obtain ⟨i, hi, hg, rfl, S3⟩ := hrel
            have G3 := Lib.hid hg
            clear hg
            have k5 : wr.cell? ⟨gx, 3, none⟩ = some (.slice ak nk ck) := (node_cells S3.out.x).2.2.2.1
            by_cases hlt : i < nk
            · have hlt' : (i : Int) < (nk : Int) := by omega
              obtain ⟨b, off, ea, q0⟩ := (V.out.k.below S3.out.be).at i (by rw [← HN.out.2.2.1]; exact hlt)
              subst ea
              rw [HB.out.y _ (getD_mem (by rw [← HN.out.2.2.1]; exact hlt))] at q0
              obtain ⟨A1, hA1⟩ : ∃ A, wr.drew.alloc (.cells #[.int .u8 (k : Int)] 5) = A := ⟨_, rfl⟩
              have A2 : Hid (Bb w gx #[.int .i64 kd, .slice ae ne ce, .slice ac nc cc, .slice (some ⟨b, off, none⟩) nk ck, .slice ah nh ch, .int .i64 nx, .string dt] A1) := Lib.hid (by rw [← hA1]; exact (S3.out.below (W' := wr.drew) ⟨rfl, rfl, rfl, Nat.le_refl _, fun _ _ => rfl⟩).below ((Below.refl _ _).alloc (Nat.le_refl _) _))
              have cv : (convert 33 9 (.slice (some ⟨wr.heap.size, 0, none⟩) 1 1)).run Try.prog A1 = .ok (.string ⟨#[UInt8.ofNat k]⟩) A1 := by rw [← hA1]; exact CV.out wr.drew
              have d1 : wr.drew.cell? ⟨gx, 3, none⟩ = some (.slice (some ⟨b, off, none⟩) nk ck) := k5
              have d2 : wr.drew.cell? ⟨b, off + i, none⟩ = some (.string (kT k)) := q0
              have d3 : A1.cell? ⟨gx, 3, none⟩ = some (.slice (some ⟨b, off, none⟩) nk ck) := (node_cells A2.out.x).2.2.2.1
              have d4 : A1.cell? ⟨b, off + i, none⟩ = some (.string (kT k)) := by
                rw [← hA1, ((Below.refl wr.drew.heap.size wr.drew).alloc (Nat.le_refl _) _).cell (block_lt_of_cell d2)]; exact d2
              have eq1 := eqK k
              go_upto_region 14 with fail
              go_region
              all_goals
                clear d1 d2 d3 d4 cv hA1 k5 q0
                go_wp2_with fail
                go_roundg (nk - (i + 1))
                case measure => have := G3.out; omega
                case rel => exact ⟨i + 1, by omega, rfl, by go_num, A2⟩
            · have hge : ¬ (i : Int) < (nk : Int) := by omega
              go_wp2_with fail
              clear k5 hge hlt
              go_loopg [8] nh (fun gg s wr => ∃ i : Nat, i ≤ nh ∧ gg = nh - i ∧ s = .int .i64 i ∧ Hid (Bb w gx #[.int .i64 kd, .slice ae ne ce, .slice ac nc cc, .slice ak nk ck, .slice ah nh ch, .int .i64 nx, .string dt] wr))
              case atStart => exact ⟨0, Nat.zero_le _, rfl, rfl, S3⟩
              case round =>
                clear S3
                obtain ⟨i, hi, hg, rfl, S4⟩ := hrel
                have G4 := Lib.hid hg
                clear hg
                have k5 : wr.cell? ⟨gx, 4, none⟩ = some (.slice ah nh ch) := (node_cells S4.out.x).2.2.2.2.1
                by_cases hlt : i < nh
                · have hlt' : (i : Int) < (nh : Int) := by omega
                  obtain ⟨b, off, ea, q0⟩ := (V.out.h.below S4.out.be).at i (by rw [← HN.out.2.2.2]; exact hlt)
                  subst ea
                  rw [HB.out.h _ (getD_mem (by rw [← HN.out.2.2.2]; exact hlt))] at q0
                  go_wp2_with fail
                  go_roundg (nh - (i + 1))
                  case measure => have := G4.out; omega
                  case rel => exact ⟨i + 1, by omega, rfl, by go_num, S4⟩
                · have hge : ¬ (i : Int) < (nh : Int) := by omega
                  have e1 : wr.cell? ⟨gx, 1, none⟩ = some (.slice ae ne ce) := (node_cells S4.out.x).2.1
                  have e3 : wr.cell? ⟨gx, 3, none⟩ = some (.slice ak nk ck) := (node_cells S4.out.x).2.2.2.1
                  have g1 : decide ((ne : Int) ≥ 64) = true := decide_eq_true (by omega)
                  have g2 : decide ((nk : Int) ≥ 64) = true := decide_eq_true (by omega)
                  have g3 : decide ((64 : Int) ≤ (ne : Int)) = true := decide_eq_true (by omega)
                  have g4 : decide ((64 : Int) ≤ (nk : Int)) = true := decide_eq_true (by omega)
                  go_wp2_with fail
                  go_ret
                  exact ⟨rfl, S4.out.be⟩
end Go.Proofs.Ytmoghdpjemidgaa
