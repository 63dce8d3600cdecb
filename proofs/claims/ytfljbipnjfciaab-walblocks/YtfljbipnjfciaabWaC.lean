/-
  The sum of a block; the bytes of a block.
-/
import Derived.Test.YtfljbipnjfciaabWaB
import Derived.Test.YtfljbipnjfciaabPkG
namespace Go.Proofs.Ytfljbipnjfciaab
open Go.RowKit Go.Maps
/-- The sum of bytes. -/
def crc (l : List UInt8) : Nat := (Sm.upd 0#32 (l.map (·.toBitVec))).toNat
theorem crc_lt (l : List UInt8) : crc l < 4294967296 := by unfold crc; exact BitVec.isLt _
theorem sm_bytes {w : World} {v : Value} {l : List UInt8} (h : Bytes w v l) : Sm.Bytes w v (l.map (·.toBitVec)) := by
  obtain ⟨a, cap, e, h1, h2, h3, h4⟩ := h
  refine ⟨a, cap, by rw [List.length_map]; exact e, by rw [List.length_map]; exact h1, h2, h3, fun k hk => ?_⟩
  rw [List.length_map] at hk
  obtain ⟨b, off, ea, hc⟩ := h4 k hk
  refine ⟨b, off, ea, ?_⟩
  rw [hc]
  congr 2
  unfold c8 Sm.c8
  rw [List.getD_eq_getElem?_getD, List.getD_eq_getElem?_getD, List.getElem?_map, List.getElem?_eq_getElem hk]
  rfl
theorem parts2_any (g : Nat) (v1 v2 : Value) (l1 l2 : List UInt8) (w : World) (h1 : Bytes w v1 l1) (h2 : Bytes w v2 l2) (c1 : w.cell? ⟨g, 0, none⟩ = some v1) (c2 : w.cell? ⟨g, 1, none⟩ = some v2) :
    Calls Try.prog 68 #[.slice (some ⟨g, 0, none⟩) 2 2] w fun e w' => e = .returned (.int .u32 (crc (l1 ++ l2) : Int)) ∧ Below w.heap.size w w' := by
  refine (Sm.parts_any _ [l1.map (·.toBitVec), l2.map (·.toBitVec)] w ⟨_, 2, rfl, by simp, by decide, fun k hk => ?_⟩).mono ?_
  · have hk2 : k < 2 := hk
    rcases Nat.lt_or_ge k 1 with q | q
    · obtain rfl : k = 0 := by omega
      exact ⟨g, 0, v1, rfl, c1, sm_bytes h1⟩
    · obtain rfl : k = 1 := by omega
      exact ⟨g, 0, v2, rfl, c2, sm_bytes h2⟩
  · rintro e w' ⟨r, rfl, hr, hb⟩
    refine ⟨?_, hb⟩
    rw [hr.out]
    unfold crc Sm.u
    simp
/-- What stands ahead of the sum of a block. -/
def hdB (g : Grp) : List UInt8 := [183, 1] ++ (leB 2 g.ix.toNat ++ (leB 2 g.tot.toNat ++ ([0, 0] ++ (leB 8 g.ep.toNat ++ (leB 8 g.st.toNat ++ leB 4 g.by_.toNat)))))
/-- What stands behind it. -/
def bdB (g : Grp) (p : List UInt8) : List UInt8 := p ++ (List.replicate (464 - p.length) 0 ++ (leB 8 g.ep.toNat ++ leB 8 g.st.toNat))
def layB (g : Grp) (p : List UInt8) : List UInt8 := hdB g ++ (leB 4 (crc (hdB g ++ bdB g p)) ++ bdB g p)
theorem hdB_length (g : Grp) : (hdB g).length = 28 := by simp [hdB, leB_length]
theorem bdB_length (g : Grp) (p : List UInt8) (h : p.length ≤ 464) : (bdB g p).length = 480 := by simp [bdB, leB_length]; omega
theorem layB_length (g : Grp) (p : List UInt8) (h : p.length ≤ 464) : (layB g p).length = 512 := by simp [layB, leB_length, hdB_length, bdB_length g p h]
theorem sp0 {α : Type} (X C Y : List α) (h : X.length = Y.length) : splice (X ++ C) 0 Y = Y ++ C := by
  unfold splice
  rw [List.take_zero, List.nil_append, Nat.zero_add, List.drop_append_of_le_length (by omega), List.drop_eq_nil_of_le (by omega), List.nil_append]
theorem spA {α : Type} (A R Y : List α) (n k : Nat) (h : n = A.length + k) : splice (A ++ R) n Y = A ++ splice R k Y := by
  unfold splice
  subst h
  rw [List.take_length_add_append, show A.length + k + Y.length = A.length + (k + Y.length) by omega, List.drop_length_add_append]
  simp [List.append_assoc]
theorem set0 (a b c d : UInt8) (C : List UInt8) : (([a, b] ++ C).set 0 c).set 1 d = [c, d] ++ C := rfl
/-- The steps by which a block is laid. -/
def ly0 : List UInt8 := ((List.replicate 512 (0 : UInt8)).set 0 183).set 1 1
def ly1 (g : Grp) : List UInt8 := splice ly0 2 (leB 2 g.ix.toNat)
def ly2 (g : Grp) : List UInt8 := splice (ly1 g) 4 (leB 2 g.tot.toNat)
def ly3 (g : Grp) : List UInt8 := splice (ly2 g) 8 (leB 8 g.ep.toNat)
def ly4 (g : Grp) : List UInt8 := splice (ly3 g) 16 (leB 8 g.st.toNat)
def ly5 (g : Grp) : List UInt8 := splice (ly4 g) 24 (leB 4 g.by_.toNat)
def ly6 (g : Grp) (p : List UInt8) : List UInt8 := splice (ly5 g) 32 p
def ly7 (g : Grp) (p : List UInt8) : List UInt8 := splice (ly6 g p) 496 (((ly6 g p).drop 8).take 16)
def ly8 (g : Grp) (p : List UInt8) : List UInt8 := splice (ly7 g p) 28 (leB 4 (crc ((ly7 g p).take 28 ++ (ly7 g p).drop 32)))
abbrev zs (n : Nat) : List UInt8 := List.replicate n 0
theorem zs_app (m n : Nat) : zs m ++ zs n = zs (m + n) := List.replicate_append_replicate
theorem ly0_eq : ly0 = [183, 1] ++ (zs 2 ++ (zs 2 ++ (zs 2 ++ (zs 8 ++ (zs 8 ++ (zs 4 ++ (zs 4 ++ (zs 464 ++ zs 16)))))))) := by
  rw [zs_app, zs_app, zs_app, zs_app, zs_app, zs_app, zs_app, zs_app]
  have e : List.replicate 512 (0 : UInt8) = [0, 0] ++ zs 510 := by
    show zs 512 = zs 2 ++ zs 510
    rw [zs_app]
  unfold ly0
  rw [e, set0]
theorem ly5_eq (g : Grp) : ly5 g = [183, 1] ++ (leB 2 g.ix.toNat ++ (leB 2 g.tot.toNat ++ (zs 2 ++ (leB 8 g.ep.toNat ++ (leB 8 g.st.toNat ++ (leB 4 g.by_.toNat ++ (zs 4 ++ (zs 464 ++ zs 16)))))))) := by
  have h1 : ly1 g = [183, 1] ++ (leB 2 g.ix.toNat ++ (zs 2 ++ (zs 2 ++ (zs 8 ++ (zs 8 ++ (zs 4 ++ (zs 4 ++ (zs 464 ++ zs 16)))))))) := by
    unfold ly1
    rw [ly0_eq, spA _ _ _ 2 0 rfl, sp0 _ _ _ (by rw [leB_length, List.length_replicate])]
  have h2 : ly2 g = [183, 1] ++ (leB 2 g.ix.toNat ++ (leB 2 g.tot.toNat ++ (zs 2 ++ (zs 8 ++ (zs 8 ++ (zs 4 ++ (zs 4 ++ (zs 464 ++ zs 16)))))))) := by
    unfold ly2
    rw [h1, spA _ _ _ 4 2 rfl, spA _ _ _ 2 0 (by rw [leB_length]), sp0 _ _ _ (by rw [leB_length, List.length_replicate])]
  have h3 : ly3 g = [183, 1] ++ (leB 2 g.ix.toNat ++ (leB 2 g.tot.toNat ++ (zs 2 ++ (leB 8 g.ep.toNat ++ (zs 8 ++ (zs 4 ++ (zs 4 ++ (zs 464 ++ zs 16)))))))) := by
    unfold ly3
    rw [h2, spA _ _ _ 8 6 rfl, spA _ _ _ 6 4 (by rw [leB_length]), spA _ _ _ 4 2 (by rw [leB_length]), spA _ _ _ 2 0 (by rw [List.length_replicate]), sp0 _ _ _ (by rw [leB_length, List.length_replicate])]
  have h4 : ly4 g = [183, 1] ++ (leB 2 g.ix.toNat ++ (leB 2 g.tot.toNat ++ (zs 2 ++ (leB 8 g.ep.toNat ++ (leB 8 g.st.toNat ++ (zs 4 ++ (zs 4 ++ (zs 464 ++ zs 16)))))))) := by
    unfold ly4
    rw [h3, spA _ _ _ 16 14 rfl, spA _ _ _ 14 12 (by rw [leB_length]), spA _ _ _ 12 10 (by rw [leB_length]), spA _ _ _ 10 8 (by rw [List.length_replicate]), spA _ _ _ 8 0 (by rw [leB_length]), sp0 _ _ _ (by rw [leB_length, List.length_replicate])]
  unfold ly5
  rw [h4, spA _ _ _ 24 22 rfl, spA _ _ _ 22 20 (by rw [leB_length]), spA _ _ _ 20 18 (by rw [leB_length]), spA _ _ _ 18 16 (by rw [List.length_replicate]), spA _ _ _ 16 8 (by rw [leB_length]), spA _ _ _ 8 0 (by rw [leB_length]), sp0 _ _ _ (by rw [leB_length, List.length_replicate])]
theorem hd_app (g : Grp) (C : List UInt8) : [183, 1] ++ (leB 2 g.ix.toNat ++ (leB 2 g.tot.toNat ++ (zs 2 ++ (leB 8 g.ep.toNat ++ (leB 8 g.st.toNat ++ (leB 4 g.by_.toNat ++ C)))))) = hdB g ++ C := by
  unfold hdB
  simp only [List.append_assoc]
  rfl
theorem ly6_eq (g : Grp) (p : List UInt8) (h : p.length ≤ 464) : ly6 g p = hdB g ++ (zs 4 ++ (p ++ (zs (464 - p.length) ++ zs 16))) := by
  unfold ly6
  rw [ly5_eq, hd_app, spA _ _ _ 32 4 (by rw [hdB_length]), spA _ _ _ 4 0 (by rw [List.length_replicate])]
  have e : zs 464 = zs p.length ++ zs (464 - p.length) := by rw [zs_app]; congr 1; omega
  rw [e, List.append_assoc, sp0 _ _ _ (by rw [List.length_replicate])]
theorem tail_eq (g : Grp) (C : List UInt8) : ((hdB g ++ C).drop 8).take 16 = leB 8 g.ep.toNat ++ leB 8 g.st.toNat := by
  have e : hdB g ++ C = ([183, 1] ++ (leB 2 g.ix.toNat ++ (leB 2 g.tot.toNat ++ [0, 0]))) ++ ((leB 8 g.ep.toNat ++ leB 8 g.st.toNat) ++ (leB 4 g.by_.toNat ++ C)) := by
    unfold hdB
    simp only [List.append_assoc]
  rw [e, List.drop_left' (by simp [leB_length]), List.take_left' (by simp [leB_length])]
theorem ly7_eq (g : Grp) (p : List UInt8) (h : p.length ≤ 464) : ly7 g p = hdB g ++ (zs 4 ++ bdB g p) := by
  unfold ly7
  rw [ly6_eq g p h, tail_eq, spA _ _ _ 496 468 (by rw [hdB_length]), spA _ _ _ 468 464 (by rw [List.length_replicate]), spA _ _ _ 464 (464 - p.length) (by omega), spA _ _ _ (464 - p.length) 0 (by rw [List.length_replicate]; omega)]
  have e : splice (zs 16) 0 (leB 8 g.ep.toNat ++ leB 8 g.st.toNat) = leB 8 g.ep.toNat ++ leB 8 g.st.toNat := splice_all _ _ (by simp [leB_length])
  rw [e]
  rfl
theorem ly8_eq (g : Grp) (p : List UInt8) (h : p.length ≤ 464) : ly8 g p = layB g p := by
  unfold ly8
  have e1 : (ly7 g p).take 28 = hdB g := by rw [ly7_eq g p h, List.take_left' (hdB_length g)]
  have e2 : (ly7 g p).drop 32 = bdB g p := by rw [ly7_eq g p h, ← List.append_assoc, List.drop_left' (by rw [List.length_append, hdB_length, List.length_replicate])]
  rw [e1, e2, ly7_eq g p h, spA _ _ _ 28 0 (by rw [hdB_length]), sp0 _ _ _ (by rw [leB_length, List.length_replicate])]
  rfl
theorem ly_len (g : Grp) (p : List UInt8) (h : p.length ≤ 464) : ly0.length = 512 ∧ (ly1 g).length = 512 ∧ (ly2 g).length = 512 ∧ (ly3 g).length = 512 ∧ (ly4 g).length = 512 ∧ (ly5 g).length = 512 ∧ (ly6 g p).length = 512 ∧ (ly7 g p).length = 512 := by
  have h0 : ly0.length = 512 := by unfold ly0; rw [List.length_set, List.length_set, List.length_replicate]
  have h1 : (ly1 g).length = 512 := by unfold ly1; rw [length_splice _ _ _ (by rw [leB_length, h0]; omega), h0]
  have h2 : (ly2 g).length = 512 := by unfold ly2; rw [length_splice _ _ _ (by rw [leB_length, h1]; omega), h1]
  have h3 : (ly3 g).length = 512 := by unfold ly3; rw [length_splice _ _ _ (by rw [leB_length, h2]; omega), h2]
  have h4 : (ly4 g).length = 512 := by unfold ly4; rw [length_splice _ _ _ (by rw [leB_length, h3]; omega), h3]
  have h5 : (ly5 g).length = 512 := by unfold ly5; rw [length_splice _ _ _ (by rw [leB_length, h4]; omega), h4]
  have h6 : (ly6 g p).length = 512 := by unfold ly6; rw [length_splice _ _ _ (by rw [h5]; omega), h5]
  have h7 : (ly7 g p).length = 512 := by unfold ly7; rw [length_splice _ _ _ (by rw [List.length_take, List.length_drop, h6]; omega), h6]
  exact ⟨h0, h1, h2, h3, h4, h5, h6, h7⟩
end Go.Proofs.Ytfljbipnjfciaab
