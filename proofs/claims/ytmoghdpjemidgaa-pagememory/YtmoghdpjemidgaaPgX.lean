/-
  What each law begins with: the numbers of the first example.
-/
import Derived.Test.YtmoghdpjemidgaaPgG
import Derived.Test.YtmoghdpjemidgaaPgQ
namespace Go.Proofs.Ytmoghdpjemidgaa
open Go.RowKit Go.Maps
theorem splice_take4 (L m : List UInt8) (h : 8 ≤ L.length) (_hm : m.length = 4) : (splice L 4 m).take 4 = L.take 4 := by
  unfold splice
  rw [List.take_append_of_le_length (by rw [List.length_take]; omega), List.take_take]
  simp
theorem splice_drop8 (L m : List UInt8) (h : 8 ≤ L.length) (hm : m.length = 4) : (splice L 4 m).drop 8 = L.drop 8 := by
  unfold splice
  rw [List.drop_append, List.length_take, List.drop_eq_nil_of_le (by rw [List.length_take]; omega), List.nil_append, hm, show 8 - min 4 L.length = 4 by omega, List.drop_append, List.drop_eq_nil_of_le (by omega), List.nil_append, hm, List.drop_drop]
theorem enc_take4 (kd cnt : Nat) (bd : List UInt8) (h : 8 + bd.length ≤ 512) : (encL kd cnt bd).take 4 = hdN kd cnt := by
  unfold encL
  rw [splice_take4 _ _ (by rw [en0_length kd cnt bd h]; omega) (leB_length _ _)]
  unfold en0 zf
  rw [List.append_assoc, List.append_assoc, List.append_assoc]
  exact List.take_left' (hd_length kd cnt)
theorem enc_drop8 (kd cnt : Nat) (bd : List UInt8) (h : 8 + bd.length ≤ 512) : (encL kd cnt bd).drop 8 = bd ++ List.replicate (504 - bd.length) 0 := by
  unfold encL
  rw [splice_drop8 _ _ (by rw [en0_length kd cnt bd h]; omega) (leB_length _ _)]
  unfold en0 zf
  rw [List.append_assoc]
  rw [List.drop_left' (by rw [List.length_append, hd_length]; rfl)]
  congr 2
  rw [List.length_append, List.length_append, hd_length]
  simp only [List.length_cons, List.length_nil]
  omega
theorem getD_take (l : List UInt8) (k n : Nat) (h : k < n) : l.getD k 0 = (l.take n).getD k 0 := by
  rw [List.getD_eq_getElem?_getD, List.getD_eq_getElem?_getD, List.getElem?_take_of_lt h]
theorem sub_take (l : List UInt8) : sub l 2 2 = (l.take 4).drop 2 := by
  unfold sub
  rw [List.drop_take]
/-- The leaf of the first example. -/
def n1 : Nd := ⟨1, [(⟨#[107]⟩, ⟨#[118, 119]⟩)], [0], [], [], 0, ⟨#[]⟩⟩
def bd1 : List UInt8 := [1, 2, 107, 118, 119]
theorem bs1 : (bsL n1).flatten = bd1 := by rfl
theorem fit1 : fitB n1 = true := by first | rfl | decide | kernel_rfl
theorem size1 : sizeN n1 = 13 := by first | rfl | decide | kernel_rfl
theorem sz1 : Sz n1 := ⟨by decide, by decide, by decide, by decide, fun n h => by simp [n1] at h; subst h; decide, fun n h => by simp [n1] at h⟩
theorem ok1 : EntOk n1 := ⟨rfl, fun k hk => by
  have : k = 0 := by simp [n1] at hk; exact hk
  subst this
  decide⟩
def b1 : List UInt8 := encL 1 1 bd1
theorem b1_length : b1.length = 512 := encL_length 1 1 bd1 (by decide)
theorem b1_take : b1.take 4 = [181, 1, 1, 0] := by unfold b1; rw [enc_take4 1 1 bd1 (by decide)]; rfl
theorem b1_drop : b1.drop 8 = bd1 ++ List.replicate 499 0 := by unfold b1; rw [enc_drop8 1 1 bd1 (by decide)]; rfl
theorem enR1 (Z : List UInt8) : enR (bd1 ++ Z) = ((⟨#[107]⟩, ⟨#[118, 119]⟩), 0, Z) := by rfl
theorem seL1 : seL b1 = n1 := by
  have e : leN (sub b1 2 2) = 1 := by rw [sub_take, b1_take]; rfl
  obtain ⟨Z, hZ⟩ : ∃ Z : List UInt8, Z = List.replicate 499 0 := ⟨_, rfl⟩
  have hd : b1.drop 8 = bd1 ++ Z := by rw [b1_drop, hZ]
  clear hZ
  have e2 : rdL 2 1 [] [] (bd1 ++ Z) = ([(⟨#[107]⟩, ⟨#[118, 119]⟩)], [0]) := by
    rw [rdL, if_pos ⟨by decide, by rw [List.length_append]; exact Nat.lt_of_lt_of_le (by decide : 0 < bd1.length) (Nat.le_add_right _ _)⟩, enR1]
    rw [rdL, if_neg (fun h => absurd (show 1 < 1 from h.1) (by decide))]
    rfl
  unfold seL
  rw [e, hd, e2]
  rfl
theorem at1 : b1.getD 1 0 = 1 := by rw [getD_take b1 1 4 (by decide), b1_take]; rfl
theorem lays1 (v : Nv) : Lays n1 v bd1 := fun w0 w g m l hf hz hm hl => by
  have h := withBody_leaf n1 v w0 w g m l hf rfl ok1 hz hm (by rw [bs1]; exact hl)
  rw [bs1] at h
  exact h
theorem enc1 (W : World) (v : Nv) (h : Ls W v n1) : Calls Try.prog 9 #[.agg (n1.arr v)] W fun e w' => ∃ gb, e = .returned (.tuple #[.slice (some ⟨gb, 0, none⟩) 512 512, .int .i64 0]) ∧ Own W.heap.size w' (.slice (some ⟨gb, 0, none⟩) 512 512) b1 ∧ Below W.heap.size W w' :=
  encode_ok n1 v W h sz1 fit1 1 rfl (by decide) 1 rfl (by decide) (by decide) bd1 (by decide) (lays1 v)
theorem dec1 (bb : Nat) (w : World) (hv : Bytes w (.slice (some ⟨bb, 0, none⟩) 512 512) b1) :
    Calls Try.prog 11 #[.slice (some ⟨bb, 0, none⟩) 512 512] w fun e w' => ∃ ve vc, e = .returned (.tuple #[.agg (n1.arr ⟨ve, vc, .slice none 0 0, .slice none 0 0⟩), .int .i64 0]) ∧ OwnE w.heap.size w' ve n1.ents ∧ OwnI w.heap.size w' vc n1.chs ∧ Below w.heap.size w w' := by
  have h := decode_leaf_ok bb 0 512 b1 w hv b1_length at1 (by rw [seL1]; exact enc1)
  rw [seL1] at h
  refine h.mono ?_
  rintro e w' ⟨ve, vc, he, h1, h2, _, h4⟩
  exact ⟨ve, vc, he, h1, h2, h4⟩
theorem ls1 {B : Nat} {w : World} {ve vc : Value} (h1 : OwnE B w ve n1.ents) (h2 : OwnI B w vc n1.chs) : Ls w ⟨ve, vc, .slice none 0 0, .slice none 0 0⟩ n1 :=
  ⟨h1.ents, h2.ints, ⟨none, 0, rfl, by simp [n1], by decide, fun _ => rfl, fun k hk => by simp [n1] at hk⟩, ⟨none, 0, rfl, by simp [n1], by decide, fun _ => rfl, fun k hk => by simp [n1] at hk⟩⟩
end Go.Proofs.Ytmoghdpjemidgaa
