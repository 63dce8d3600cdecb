/-
  WHAT IS RECORDED IS READ BACK.
-/
import Derived.Test.YtmdjicakjljmlaaSrE
namespace Go.Proofs.Ytmdjicakjljmlaa
open Go.RowKit
theorem num_back (n : Nat) (rest : List UInt8) (h : n < 18446744073709551616) : num (form n ++ rest) 0 = (n, (form n).length, 0) :=
  num_form n rest 0 (by decide) (by simpa using h) (fun h => by omega)
theorem uint_back (n : Nat) (rest : List UInt8) (h : n < 18446744073709551616) : RS.uint ⟨form n ++ rest, 0⟩ = (n, ⟨rest, 0⟩) := by
  unfold RS.uint
  rw [if_pos rfl]
  show ((num (form n ++ rest) 0).1, (⟨(form n ++ rest).drop (num (form n ++ rest) 0).2.1, (num (form n ++ rest) 0).2.2⟩ : RS)) = _
  rw [num_back n rest h, List.drop_left]
theorem upTo_back (n : Nat) (rest : List UInt8) (most : Int) (h : n < 18446744073709551616) (hm : (n : Int) ≤ most) : RS.upTo ⟨form n ++ rest, 0⟩ most = (n, (form n).length, 0) := by
  unfold RS.upTo
  rw [if_pos rfl]
  show (if (num (form n ++ rest) 0).2.2 = 0 then (if most < 0 ∨ most < (num (form n ++ rest) 0).1 then (0, 0, 23) else num (form n ++ rest) 0) else (0, 0, (num (form n ++ rest) 0).2.2)) = _
  rw [num_back n rest h, if_pos rfl, if_neg (by omega)]
theorem text_back (t rest : List UInt8) (most : Int) (h : t.length < 18446744073709551616) (hm : (t.length : Int) ≤ most) : RS.text ⟨form t.length ++ (t ++ rest), 0⟩ most = (t, ⟨rest, 0⟩) := by
  unfold RS.text
  rw [upTo_back t.length (t ++ rest) most h hm, if_pos rfl]
  show (if t.length ≤ (form t.length ++ (t ++ rest)).length - (form t.length).length then (((form t.length ++ (t ++ rest)).drop (form t.length).length).take t.length, (⟨(form t.length ++ (t ++ rest)).drop ((form t.length).length + t.length), 0⟩ : RS)) else ([], ⟨_, 20⟩)) = _
  rw [if_pos (by rw [List.length_append, List.length_append]; omega), List.drop_left, List.take_left, ← List.drop_drop, List.drop_left, List.drop_left]
theorem count_back (n : Nat) (rest : List UInt8) (most : Int) (h : n ≤ 4096) (hm : (n : Int) ≤ most) : RS.count ⟨form n ++ rest, 0⟩ most = (n, ⟨rest, 0⟩) := by
  unfold RS.count
  rw [upTo_back n rest (min most 4096) (by omega) (by omega)]
  show (n, (⟨(form n ++ rest).drop (form n).length, 0⟩ : RS)) = _
  rw [List.drop_left]
theorem txt_back (t : ByteArray) (rest : List UInt8) (most : Nat) (hm : t.size ≤ most) (h : most ≤ 100000) : RS.text ⟨form t.size ++ (t.data.toList ++ rest), 0⟩ most = (t.data.toList, ⟨rest, 0⟩) := by
  have := text_back t.data.toList rest most (by rw [str_size]; omega) (by rw [str_size]; omega)
  rw [str_size] at this
  exact this
/-- A change that may stand in a record. -/
def Ch.good (x : Ch) : Prop := x.k.size ≤ 120 ∧ x.v.size ≤ 8192 ∧ (x.g = true → x.v.size = 0)
theorem no_size {t : ByteArray} (h : t.size = 0) : t = ⟨#[]⟩ := by
  obtain ⟨⟨l⟩⟩ := t
  have : l = [] := List.length_eq_zero_iff.1 h
  rw [this]
theorem rdC_back (x : Ch) (rest : List UInt8) (hx : x.good) : rdC ⟨x.ps.flatten ++ rest, 0⟩ = (x, ⟨rest, 0⟩) := by
  obtain ⟨k, v, g⟩ := x
  obtain ⟨h1, h2, h3⟩ := hx
  simp only at h1 h2 h3
  cases g with
  | true =>
    have e : (Ch.ps ⟨k, v, true⟩).flatten ++ rest = 1 :: (form k.size ++ (k.data.toList ++ rest)) := by
      unfold Ch.ps Ch.e1 Ch.e2; simp
    have eb : RS.bool ⟨1 :: (form k.size ++ (k.data.toList ++ rest)), 0⟩ = (true, ⟨form k.size ++ (k.data.toList ++ rest), 0⟩) := rfl
    have et := txt_back k rest 120 h1 (by decide)
    rw [e]
    unfold rdC
    rw [eb, if_pos rfl]
    show ((⟨txt (RS.text ⟨form k.size ++ (k.data.toList ++ rest), 0⟩ ((120 : Nat) : Int)).1, ⟨#[]⟩, true⟩ : Ch), (RS.text ⟨form k.size ++ (k.data.toList ++ rest), 0⟩ ((120 : Nat) : Int)).2) = _
    rw [et, list_txt, no_size (h3 rfl)]
  | false =>
    have e : (Ch.ps ⟨k, v, false⟩).flatten ++ rest = 0 :: (form k.size ++ (k.data.toList ++ (form v.size ++ (v.data.toList ++ rest)))) := by
      unfold Ch.ps Ch.e1 Ch.e2 Ch.e3; simp
    have eb : RS.bool ⟨0 :: (form k.size ++ (k.data.toList ++ (form v.size ++ (v.data.toList ++ rest)))), 0⟩ = (false, ⟨form k.size ++ (k.data.toList ++ (form v.size ++ (v.data.toList ++ rest))), 0⟩) := rfl
    have et := txt_back k (form v.size ++ (v.data.toList ++ rest)) 120 h1 (by decide)
    have ev := txt_back v rest 8192 h2 (by decide)
    rw [e]
    unfold rdC
    rw [eb, if_neg Bool.false_ne_true]
    show ((⟨txt (RS.text ⟨form k.size ++ (k.data.toList ++ (form v.size ++ (v.data.toList ++ rest))), 0⟩ ((120 : Nat) : Int)).1, txt (RS.text (RS.text ⟨form k.size ++ (k.data.toList ++ (form v.size ++ (v.data.toList ++ rest))), 0⟩ ((120 : Nat) : Int)).2 ((8192 : Nat) : Int)).1, false⟩ : Ch), (RS.text (RS.text ⟨form k.size ++ (k.data.toList ++ (form v.size ++ (v.data.toList ++ rest))), 0⟩ ((120 : Nat) : Int)).2 ((8192 : Nat) : Int)).2) = _
    rw [et]
    show ((⟨txt k.data.toList, txt (RS.text ⟨form v.size ++ (v.data.toList ++ rest), 0⟩ ((8192 : Nat) : Int)).1, false⟩ : Ch), (RS.text ⟨form v.size ++ (v.data.toList ++ rest), 0⟩ ((8192 : Nat) : Int)).2) = _
    rw [ev, list_txt, list_txt]
theorem rds_back (l : List Ch) (rest : List UInt8) (h : ∀ x ∈ l, x.good) : rds l.length ⟨(l.flatMap Ch.ps).flatten ++ rest, 0⟩ = l := by
  induction l with
  | nil => rfl
  | cons x r ih =>
    rw [List.flatMap_cons, List.flatten_append, List.append_assoc, List.length_cons, rds, rdC_back x _ (h x (by simp)), ih (fun y hy => h y (by simp [hy]))]
theorem see_back (n : Nat) (l : List Ch) (hn : n ≤ 1152921504606846976) (hl : l.length ≤ 4096) (h : ∀ x ∈ l, x.good) : seeV (recB n l) = n ∧ seeL (recB n l) = l := by
  have e1 : seeU (recB n l) = (n, ⟨form l.length ++ (l.flatMap Ch.ps).flatten, 0⟩) := by
    unfold seeU recB
    show RS.uint ⟨form n ++ (form l.length ++ (l.flatMap Ch.ps).flatten), 0⟩ = _
    rw [uint_back n _ (by omega)]
  have e2 : seeC (recB n l) = (l.length, ⟨(l.flatMap Ch.ps).flatten, 0⟩) := by
    unfold seeC
    rw [e1]
    show RS.count ⟨form l.length ++ (l.flatMap Ch.ps).flatten, 0⟩ 4096 = _
    rw [count_back l.length _ 4096 hl (by omega)]
  constructor
  · unfold seeV
    rw [e1]
    show wrap64 (n : Int) = n
    unfold wrap64; omega
  · unfold seeL
    rw [e2]
    have := rds_back l [] h
    rw [List.append_nil] at this
    exact this
/-- When Record answers OK, and what. -/
theorem rec_ok (v : Int) (l : List Ch) (h : (recR v l).2 = 0) : (1 ≤ v ∧ v ≤ 1152921504606846976) ∧ l.length ≤ 4096 ∧ (∀ x ∈ l, x.good) ∧ (recB v.toNat l).length ≤ 32768 ∧ (recR v l).1 = txt (recB v.toNat l) := by
  unfold recR at h ⊢
  by_cases hv : 1 ≤ v ∧ v ≤ 1152921504606846976
  · rw [if_pos hv] at h ⊢
    unfold rcR at h ⊢
    by_cases hs : stB l = true
    · rw [if_pos hs] at h ⊢
      by_cases hh : shB l = true
      · rw [if_pos hh] at h ⊢
        unfold shB at hh
        rw [Bool.and_eq_true, decide_eq_true_iff, List.all_eq_true] at hh
        unfold stB at hs
        rw [Bool.and_eq_true, List.all_eq_true] at hs
        have q := wrC_out v.toNat l hh.2
        have hle : (recB v.toNat l).length ≤ 32768 := by
          refine Classical.byContradiction fun hn => ?_
          have := (q.2 hn).1
          simp only at h
          omega
        refine ⟨hv, hh.2, fun x hx => ?_, hle, by rw [(q.1 hle).2]⟩
        have a1 := hh.1 x hx
        have a2 := hs.1 x hx
        unfold Ch.shB at a1
        unfold Ch.stB at a2
        rw [Bool.and_eq_true, decide_eq_true_iff, decide_eq_true_iff] at a1 a2
        exact ⟨a1.1, a1.2, a2.2⟩
      · rw [if_neg hh] at h; simp at h
    · rw [if_neg hs] at h; simp at h
  · rw [if_neg hv] at h; simp at h
theorem rec_no (v : Int) (l : List Ch) (h : ¬ (recR v l).2 = 0) : (recR v l).1 = ⟨#[]⟩ := by
  unfold recR at h ⊢
  by_cases hv : 1 ≤ v ∧ v ≤ 1152921504606846976
  · rw [if_pos hv] at h ⊢
    unfold rcR at h ⊢
    by_cases hs : stB l = true
    · rw [if_pos hs] at h ⊢
      by_cases hh : shB l = true
      · rw [if_pos hh] at h ⊢
        unfold shB at hh
        rw [Bool.and_eq_true, decide_eq_true_iff] at hh
        have q := wrC_out v.toNat l hh.2
        by_cases hle : (recB v.toNat l).length ≤ 32768
        · exact absurd (q.1 hle).1 h
        · simp only
          rw [(q.2 hle).2]; rfl
      · rw [if_neg hh]
    · rw [if_neg hs]
  · rw [if_neg hv]
theorem rec_back (v : Int) (l : List Ch) (t : ByteArray) (h : (recR v l).2 = 0) (ht : t = (recR v l).1) : t.size ≤ 32768 ∧ seeV t.data.toList = v ∧ seeL t.data.toList = l ∧ unOk t := by
  obtain ⟨h1, h2, h3, h4, h5⟩ := rec_ok v l h
  have e : t.data.toList = recB v.toNat l := by rw [ht, h5, txt_list]
  have s := see_back v.toNat l (by omega) h2 h3
  have ev : seeV t.data.toList = v := by rw [e, s.1]; omega
  have el : seeL t.data.toList = l := by rw [e, s.2]
  refine ⟨by rw [ht, h5, txt_size]; exact h4, ev, el, ?_⟩
  unfold unOk
  rw [ev, el]
  exact ⟨h, ht.symm⟩
/-- The document's first record. -/
def lst2 : List Ch := [⟨⟨#[97]⟩, ⟨#[49]⟩, false⟩, ⟨⟨#[98]⟩, ⟨#[]⟩, true⟩]
theorem rec2 : recR 1 lst2 = (⟨#[195, 1, 2, 0, 1, 97, 1, 49, 1, 1, 98]⟩, 0) := by
  have e : recB 1 lst2 = [195, 1, 2, 0, 1, 97, 1, 49, 1, 1, 98] := by
    have f1 : form 1 = [1] := by rw [form_low (by decide)]; rfl
    have f2 : form 2 = [2] := by rw [form_low (by decide)]; rfl
    have s1 : (⟨#[97]⟩ : ByteArray).size = 1 := rfl
    have s2 : (⟨#[49]⟩ : ByteArray).size = 1 := rfl
    have s3 : (⟨#[98]⟩ : ByteArray).size = 1 := rfl
    simp [recB, lst2, Ch.ps, Ch.e1, Ch.e2, Ch.e3, f1, f2, s1, s2, s3]
  have q := wrC_out 1 lst2 (by decide)
  rw [e] at q
  have q1 := q.1 (by decide)
  unfold recR rcR
  rw [if_pos (by decide), if_pos (by decide +kernel), if_pos (by decide +kernel)]
  show (txt (wrC 1 lst2).out, (wrC 1 lst2).e) = _
  rw [q1.1, q1.2]; rfl
/-- What a list that came in keeps to. -/
def LC (l : List Ch) : Prop := SzC l ∧ l.length * 40 ≤ 140737488355328
end Go.Proofs.Ytmdjicakjljmlaa
