/-
  A superblock; its bytes.
-/
import Derived.Test.YtbdlebengmbooaaAnP
import Derived.Test.YtbdlebengmbooaaHlA
import Derived.Test.YtbdlebengmbooaaMeA
namespace Go.Proofs.Ytbdlebengmbooaa
open Go.RowKit Go.Maps
/-- The sum of bytes. -/
def crc (l : List UInt8) : Nat := (Sm.upd 0#32 (l.map (·.toBitVec))).toNat
theorem crc_lt (l : List UInt8) : crc l < 4294967296 := by unfold crc; exact BitVec.isLt _
theorem sm_bytes {w : World} {v : Value} {l : List UInt8} (h : Bytes w v l) : Sm.Bytes w v (l.map (·.toBitVec)) := by
  obtain ⟨a, cap, e, h1, h2, h3, h4⟩ := h
  refine ⟨a, cap, by rw [List.length_map]; exact e, by rw [List.length_map]; exact h1, h2, h3, fun k hk => ?_⟩
  rw [List.length_map] at hk
  obtain ⟨b, off, ea, hc⟩ := h4 k hk
  refine ⟨b, off, ea, ?_⟩
  rw [hc]
  congr 2
  unfold c8 Sm.c8
  rw [List.getD_eq_getElem?_getD, List.getD_eq_getElem?_getD, List.getElem?_map, List.getElem?_eq_getElem hk]
  rfl
theorem parts2_any (g : Nat) (v1 v2 : Value) (l1 l2 : List UInt8) (w : World) (h1 : Bytes w v1 l1) (h2 : Bytes w v2 l2) (c1 : w.cell? ⟨g, 0, none⟩ = some v1) (c2 : w.cell? ⟨g, 1, none⟩ = some v2) :
    Calls Try.prog 51 #[.slice (some ⟨g, 0, none⟩) 2 2] w fun e w' => e = .returned (.int .u32 (crc (l1 ++ l2) : Int)) ∧ Below w.heap.size w w' := by
  refine (Sm.parts_any _ [l1.map (·.toBitVec), l2.map (·.toBitVec)] w ⟨_, 2, rfl, by simp, by decide, fun k hk => ?_⟩).mono ?_
  · have hk2 : k < 2 := hk
    rcases Nat.lt_or_ge k 1 with q | q
    · obtain rfl : k = 0 := by omega
      exact ⟨g, 0, v1, rfl, c1, sm_bytes h1⟩
    · obtain rfl : k = 1 := by omega
      exact ⟨g, 0, v2, rfl, c2, sm_bytes h2⟩
  · rintro e w' ⟨r, rfl, hr, hb⟩
    refine ⟨?_, hb⟩
    rw [hr.out]
    unfold crc Sm.u
    simp
theorem sp0 {α : Type} (X C Y : List α) (h : X.length = Y.length) : splice (X ++ C) 0 Y = Y ++ C := by
  unfold splice
  rw [List.take_zero, List.nil_append, Nat.zero_add, List.drop_append_of_le_length (by omega), List.drop_eq_nil_of_le (by omega), List.nil_append]
theorem spA {α : Type} (A R Y : List α) (n k : Nat) (h : n = A.length + k) : splice (A ++ R) n Y = A ++ splice R k Y := by
  unfold splice
  subst h
  rw [List.take_length_add_append, show A.length + k + Y.length = A.length + (k + Y.length) by omega, List.drop_length_add_append]
  simp [List.append_assoc]
abbrev zs (n : Nat) : List UInt8 := List.replicate n 0
theorem zs_app (m n : Nat) : zs m ++ zs n = zs (m + n) := List.replicate_append_replicate
/-- A superblock. -/
structure Sup where
  gen : Int
  ep : Int
  blk : Int
  log : Int
  st : Int
  pl : Int
  rt : Int
  cnt : Int
  ver : Int
def Sup.arr (s : Sup) : Array Value := #[.int .i64 s.gen, .int .i64 s.ep, .int .i64 s.blk, .int .i64 s.log, .int .i64 s.st, .int .i64 s.pl, .int .i64 s.rt, .int .i64 s.cnt, .int .i64 s.ver]
/-- Its first 500 bytes. -/
def hdA (s : Sup) : List UInt8 := [66, 83, 65, 82] ++ (leB 4 1 ++ (leB 8 s.gen.toNat ++ (leB 8 s.ep.toNat ++ (leB 4 s.blk.toNat ++ (leB 4 s.log.toNat ++ (leB 8 s.st.toNat ++ (leB 4 s.pl.toNat ++ (leB 4 s.rt.toNat ++ (leB 8 s.cnt.toNat ++ (leB 8 s.ver.toNat ++ (zs 436)))))))))))
/-- Its last eight. -/
def bdA (s : Sup) : List UInt8 := leB 8 s.gen.toNat
def layA (s : Sup) : List UInt8 := hdA s ++ (leB 4 (crc (hdA s ++ bdA s)) ++ bdA s)
theorem hdA_length (s : Sup) : (hdA s).length = 500 := by simp [hdA, leB_length]
theorem bdA_length (s : Sup) : (bdA s).length = 8 := by simp [bdA, leB_length]
theorem layA_length (s : Sup) : (layA s).length = 512 := by simp [layA, leB_length, hdA_length, bdA_length]
/-- The steps by which it is laid. -/
def la0 : List UInt8 := splice (List.replicate 512 (0 : UInt8)) 0 [66, 83, 65, 82]
def la1 (_s : Sup) : List UInt8 := splice la0 4 (leB 4 1)
def la2 (s : Sup) : List UInt8 := splice (la1 s) 8 (leB 8 s.gen.toNat)
def la3 (s : Sup) : List UInt8 := splice (la2 s) 16 (leB 8 s.ep.toNat)
def la4 (s : Sup) : List UInt8 := splice (la3 s) 24 (leB 4 s.blk.toNat)
def la5 (s : Sup) : List UInt8 := splice (la4 s) 28 (leB 4 s.log.toNat)
def la6 (s : Sup) : List UInt8 := splice (la5 s) 32 (leB 8 s.st.toNat)
def la7 (s : Sup) : List UInt8 := splice (la6 s) 40 (leB 4 s.pl.toNat)
def la8 (s : Sup) : List UInt8 := splice (la7 s) 44 (leB 4 s.rt.toNat)
def la9 (s : Sup) : List UInt8 := splice (la8 s) 48 (leB 8 s.cnt.toNat)
def la10 (s : Sup) : List UInt8 := splice (la9 s) 56 (leB 8 s.ver.toNat)
def la11 (s : Sup) : List UInt8 := splice (la10 s) 504 (leB 8 s.gen.toNat)
def la12 (s : Sup) : List UInt8 := splice (la11 s) 500 (leB 4 (crc ((la11 s).take 500 ++ (la11 s).drop 504)))
theorem la0_eq : la0 = [66, 83, 65, 82] ++ (zs 4 ++ (zs 8 ++ (zs 8 ++ (zs 4 ++ (zs 4 ++ (zs 8 ++ (zs 4 ++ (zs 4 ++ (zs 8 ++ (zs 8 ++ (zs 436 ++ (zs 4 ++ (zs 8))))))))))))) := by
  unfold la0
  have e : List.replicate 512 (0 : UInt8) = zs 4 ++ (zs 4 ++ (zs 8 ++ (zs 8 ++ (zs 4 ++ (zs 4 ++ (zs 8 ++ (zs 4 ++ (zs 4 ++ (zs 8 ++ (zs 8 ++ (zs 436 ++ (zs 4 ++ (zs 8))))))))))))) := by
    rw [zs_app, zs_app, zs_app, zs_app, zs_app, zs_app, zs_app, zs_app, zs_app, zs_app, zs_app, zs_app, zs_app]
  rw [e, sp0 _ _ _ (by rw [List.length_replicate]; rfl)]
theorem la10_eq (s : Sup) : la10 s = [66, 83, 65, 82] ++ (leB 4 1 ++ (leB 8 s.gen.toNat ++ (leB 8 s.ep.toNat ++ (leB 4 s.blk.toNat ++ (leB 4 s.log.toNat ++ (leB 8 s.st.toNat ++ (leB 4 s.pl.toNat ++ (leB 4 s.rt.toNat ++ (leB 8 s.cnt.toNat ++ (leB 8 s.ver.toNat ++ (zs 436 ++ (zs 4 ++ (zs 8))))))))))))) := by
  have h1 : la1 s = [66, 83, 65, 82] ++ (leB 4 1 ++ (zs 8 ++ (zs 8 ++ (zs 4 ++ (zs 4 ++ (zs 8 ++ (zs 4 ++ (zs 4 ++ (zs 8 ++ (zs 8 ++ (zs 436 ++ (zs 4 ++ (zs 8))))))))))))) := by
    unfold la1
    rw [la0_eq, spA _ _ _ 4 0 (by first | rfl | rw [leB_length]), sp0 _ _ _ (by rw [leB_length, List.length_replicate])]
  have h2 : la2 s = [66, 83, 65, 82] ++ (leB 4 1 ++ (leB 8 s.gen.toNat ++ (zs 8 ++ (zs 4 ++ (zs 4 ++ (zs 8 ++ (zs 4 ++ (zs 4 ++ (zs 8 ++ (zs 8 ++ (zs 436 ++ (zs 4 ++ (zs 8))))))))))))) := by
    unfold la2
    rw [h1, spA _ _ _ 8 4 (by first | rfl | rw [leB_length]), spA _ _ _ 4 0 (by first | rfl | rw [leB_length]), sp0 _ _ _ (by rw [leB_length, List.length_replicate])]
  have h3 : la3 s = [66, 83, 65, 82] ++ (leB 4 1 ++ (leB 8 s.gen.toNat ++ (leB 8 s.ep.toNat ++ (zs 4 ++ (zs 4 ++ (zs 8 ++ (zs 4 ++ (zs 4 ++ (zs 8 ++ (zs 8 ++ (zs 436 ++ (zs 4 ++ (zs 8))))))))))))) := by
    unfold la3
    rw [h2, spA _ _ _ 16 12 (by first | rfl | rw [leB_length]), spA _ _ _ 12 8 (by first | rfl | rw [leB_length]), spA _ _ _ 8 0 (by first | rfl | rw [leB_length]), sp0 _ _ _ (by rw [leB_length, List.length_replicate])]
  have h4 : la4 s = [66, 83, 65, 82] ++ (leB 4 1 ++ (leB 8 s.gen.toNat ++ (leB 8 s.ep.toNat ++ (leB 4 s.blk.toNat ++ (zs 4 ++ (zs 8 ++ (zs 4 ++ (zs 4 ++ (zs 8 ++ (zs 8 ++ (zs 436 ++ (zs 4 ++ (zs 8))))))))))))) := by
    unfold la4
    rw [h3, spA _ _ _ 24 20 (by first | rfl | rw [leB_length]), spA _ _ _ 20 16 (by first | rfl | rw [leB_length]), spA _ _ _ 16 8 (by first | rfl | rw [leB_length]), spA _ _ _ 8 0 (by first | rfl | rw [leB_length]), sp0 _ _ _ (by rw [leB_length, List.length_replicate])]
  have h5 : la5 s = [66, 83, 65, 82] ++ (leB 4 1 ++ (leB 8 s.gen.toNat ++ (leB 8 s.ep.toNat ++ (leB 4 s.blk.toNat ++ (leB 4 s.log.toNat ++ (zs 8 ++ (zs 4 ++ (zs 4 ++ (zs 8 ++ (zs 8 ++ (zs 436 ++ (zs 4 ++ (zs 8))))))))))))) := by
    unfold la5
    rw [h4, spA _ _ _ 28 24 (by first | rfl | rw [leB_length]), spA _ _ _ 24 20 (by first | rfl | rw [leB_length]), spA _ _ _ 20 12 (by first | rfl | rw [leB_length]), spA _ _ _ 12 4 (by first | rfl | rw [leB_length]), spA _ _ _ 4 0 (by first | rfl | rw [leB_length]), sp0 _ _ _ (by rw [leB_length, List.length_replicate])]
  have h6 : la6 s = [66, 83, 65, 82] ++ (leB 4 1 ++ (leB 8 s.gen.toNat ++ (leB 8 s.ep.toNat ++ (leB 4 s.blk.toNat ++ (leB 4 s.log.toNat ++ (leB 8 s.st.toNat ++ (zs 4 ++ (zs 4 ++ (zs 8 ++ (zs 8 ++ (zs 436 ++ (zs 4 ++ (zs 8))))))))))))) := by
    unfold la6
    rw [h5, spA _ _ _ 32 28 (by first | rfl | rw [leB_length]), spA _ _ _ 28 24 (by first | rfl | rw [leB_length]), spA _ _ _ 24 16 (by first | rfl | rw [leB_length]), spA _ _ _ 16 8 (by first | rfl | rw [leB_length]), spA _ _ _ 8 4 (by first | rfl | rw [leB_length]), spA _ _ _ 4 0 (by first | rfl | rw [leB_length]), sp0 _ _ _ (by rw [leB_length, List.length_replicate])]
  have h7 : la7 s = [66, 83, 65, 82] ++ (leB 4 1 ++ (leB 8 s.gen.toNat ++ (leB 8 s.ep.toNat ++ (leB 4 s.blk.toNat ++ (leB 4 s.log.toNat ++ (leB 8 s.st.toNat ++ (leB 4 s.pl.toNat ++ (zs 4 ++ (zs 8 ++ (zs 8 ++ (zs 436 ++ (zs 4 ++ (zs 8))))))))))))) := by
    unfold la7
    rw [h6, spA _ _ _ 40 36 (by first | rfl | rw [leB_length]), spA _ _ _ 36 32 (by first | rfl | rw [leB_length]), spA _ _ _ 32 24 (by first | rfl | rw [leB_length]), spA _ _ _ 24 16 (by first | rfl | rw [leB_length]), spA _ _ _ 16 12 (by first | rfl | rw [leB_length]), spA _ _ _ 12 8 (by first | rfl | rw [leB_length]), spA _ _ _ 8 0 (by first | rfl | rw [leB_length]), sp0 _ _ _ (by rw [leB_length, List.length_replicate])]
  have h8 : la8 s = [66, 83, 65, 82] ++ (leB 4 1 ++ (leB 8 s.gen.toNat ++ (leB 8 s.ep.toNat ++ (leB 4 s.blk.toNat ++ (leB 4 s.log.toNat ++ (leB 8 s.st.toNat ++ (leB 4 s.pl.toNat ++ (leB 4 s.rt.toNat ++ (zs 8 ++ (zs 8 ++ (zs 436 ++ (zs 4 ++ (zs 8))))))))))))) := by
    unfold la8
    rw [h7, spA _ _ _ 44 40 (by first | rfl | rw [leB_length]), spA _ _ _ 40 36 (by first | rfl | rw [leB_length]), spA _ _ _ 36 28 (by first | rfl | rw [leB_length]), spA _ _ _ 28 20 (by first | rfl | rw [leB_length]), spA _ _ _ 20 16 (by first | rfl | rw [leB_length]), spA _ _ _ 16 12 (by first | rfl | rw [leB_length]), spA _ _ _ 12 4 (by first | rfl | rw [leB_length]), spA _ _ _ 4 0 (by first | rfl | rw [leB_length]), sp0 _ _ _ (by rw [leB_length, List.length_replicate])]
  have h9 : la9 s = [66, 83, 65, 82] ++ (leB 4 1 ++ (leB 8 s.gen.toNat ++ (leB 8 s.ep.toNat ++ (leB 4 s.blk.toNat ++ (leB 4 s.log.toNat ++ (leB 8 s.st.toNat ++ (leB 4 s.pl.toNat ++ (leB 4 s.rt.toNat ++ (leB 8 s.cnt.toNat ++ (zs 8 ++ (zs 436 ++ (zs 4 ++ (zs 8))))))))))))) := by
    unfold la9
    rw [h8, spA _ _ _ 48 44 (by first | rfl | rw [leB_length]), spA _ _ _ 44 40 (by first | rfl | rw [leB_length]), spA _ _ _ 40 32 (by first | rfl | rw [leB_length]), spA _ _ _ 32 24 (by first | rfl | rw [leB_length]), spA _ _ _ 24 20 (by first | rfl | rw [leB_length]), spA _ _ _ 20 16 (by first | rfl | rw [leB_length]), spA _ _ _ 16 8 (by first | rfl | rw [leB_length]), spA _ _ _ 8 4 (by first | rfl | rw [leB_length]), spA _ _ _ 4 0 (by first | rfl | rw [leB_length]), sp0 _ _ _ (by rw [leB_length, List.length_replicate])]
  unfold la10
  rw [h9, spA _ _ _ 56 52 (by first | rfl | rw [leB_length]), spA _ _ _ 52 48 (by first | rfl | rw [leB_length]), spA _ _ _ 48 40 (by first | rfl | rw [leB_length]), spA _ _ _ 40 32 (by first | rfl | rw [leB_length]), spA _ _ _ 32 28 (by first | rfl | rw [leB_length]), spA _ _ _ 28 24 (by first | rfl | rw [leB_length]), spA _ _ _ 24 16 (by first | rfl | rw [leB_length]), spA _ _ _ 16 12 (by first | rfl | rw [leB_length]), spA _ _ _ 12 8 (by first | rfl | rw [leB_length]), spA _ _ _ 8 0 (by first | rfl | rw [leB_length]), sp0 _ _ _ (by rw [leB_length, List.length_replicate])]
theorem la11_eq (s : Sup) : la11 s = hdA s ++ (zs 4 ++ bdA s) := by
  unfold la11
  have e : la10 s = hdA s ++ (zs 4 ++ zs 8) := by rw [la10_eq]; unfold hdA; simp only [List.append_assoc]
  rw [e, spA _ _ _ 504 4 (by rw [hdA_length]), spA _ _ _ 4 0 (by rw [List.length_replicate])]
  have e2 : splice (zs 8) 0 (leB 8 s.gen.toNat) = leB 8 s.gen.toNat := splice_all _ _ (by simp [leB_length])
  rw [e2]
  rfl
theorem la12_eq (s : Sup) : la12 s = layA s := by
  unfold la12
  have e1 : (la11 s).take 500 = hdA s := by rw [la11_eq, List.take_left' (hdA_length s)]
  have e2 : (la11 s).drop 504 = bdA s := by rw [la11_eq, ← List.append_assoc, List.drop_left' (by rw [List.length_append, hdA_length, List.length_replicate])]
  rw [e1, e2, la11_eq, spA _ _ _ 500 0 (by rw [hdA_length]), sp0 _ _ _ (by rw [leB_length, List.length_replicate])]
  rfl
theorem la_len (s : Sup) : la0.length = 512 ∧ (la1 s).length = 512 ∧ (la2 s).length = 512 ∧ (la3 s).length = 512 ∧ (la4 s).length = 512 ∧ (la5 s).length = 512 ∧ (la6 s).length = 512 ∧ (la7 s).length = 512 ∧ (la8 s).length = 512 ∧ (la9 s).length = 512 ∧ (la10 s).length = 512 ∧ (la11 s).length = 512 := by
  have h0 : la0.length = 512 := by unfold la0; rw [length_splice _ _ _ (by rw [List.length_replicate]; decide), List.length_replicate]
  have h1 : (la1 s).length = 512 := by unfold la1; rw [length_splice _ _ _ (by rw [leB_length, h0]; decide), h0]
  have h2 : (la2 s).length = 512 := by unfold la2; rw [length_splice _ _ _ (by rw [leB_length, h1]; decide), h1]
  have h3 : (la3 s).length = 512 := by unfold la3; rw [length_splice _ _ _ (by rw [leB_length, h2]; decide), h2]
  have h4 : (la4 s).length = 512 := by unfold la4; rw [length_splice _ _ _ (by rw [leB_length, h3]; decide), h3]
  have h5 : (la5 s).length = 512 := by unfold la5; rw [length_splice _ _ _ (by rw [leB_length, h4]; decide), h4]
  have h6 : (la6 s).length = 512 := by unfold la6; rw [length_splice _ _ _ (by rw [leB_length, h5]; decide), h5]
  have h7 : (la7 s).length = 512 := by unfold la7; rw [length_splice _ _ _ (by rw [leB_length, h6]; decide), h6]
  have h8 : (la8 s).length = 512 := by unfold la8; rw [length_splice _ _ _ (by rw [leB_length, h7]; decide), h7]
  have h9 : (la9 s).length = 512 := by unfold la9; rw [length_splice _ _ _ (by rw [leB_length, h8]; decide), h8]
  have h10 : (la10 s).length = 512 := by unfold la10; rw [length_splice _ _ _ (by rw [leB_length, h9]; decide), h9]
  have h11 : (la11 s).length = 512 := by unfold la11; rw [length_splice _ _ _ (by rw [leB_length, h10]; decide), h10]
  exact ⟨h0, h1, h2, h3, h4, h5, h6, h7, h8, h9, h10, h11⟩
end Go.Proofs.Ytbdlebengmbooaa
