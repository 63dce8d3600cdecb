/-
  The document's reading of a term, over lists of bytes.
-/
import Derived.Test.YthbbdhhkamccbaaDoorPieces
import Derived.Test.YthbbdhhkamccbaaDoorSelT
namespace Go.Proofs.YthbbdhhkamccbaaDoor
open Go.RowKit
/-- A value as it stands among the pieces. -/
def adj (n j : Nat) (v : List UInt8) : List UInt8 := if j = n - 1 then (if j = 1 then v.drop 1 else v).dropLast else (if j = 1 then v.drop 1 else v)
def svals (w : List (List UInt8)) : List (List UInt8) := (List.range (w.length - 1)).map fun i => adj w.length (i + 1) (w.getD (i + 1) [])
def spaced (pre r : List UInt8) : T3 := ⟨pre, if (pieces 32 r).getD 0 [] = [110, 111, 116, 105, 110] then 1 else 0, svals (pieces 32 r)⟩
def rrs (pre : List UInt8) : List UInt8 → T3
  | [] => ⟨pre, 2, []⟩
  | c :: r => if c = 61 then ⟨pre, 0, [r]⟩ else if c = 33 ∧ r.head? = some 61 then ⟨pre, 1, [r.tail]⟩ else if c = 32 then spaced pre r else rrs (pre ++ [c]) r
def rr (s : List UInt8) : T3 := if s.head? = some 33 then ⟨s.tail, 3, []⟩ else rrs [] s
theorem rrs_clean (pre k r : List UInt8) (h1 : 61 ∉ k) (h2 : 33 ∉ k) (h3 : 32 ∉ k) : rrs pre (k ++ r) = rrs (pre ++ k) r := by
  induction k generalizing pre with
  | nil => simp
  | cons c k ih =>
    simp only [List.mem_cons, not_or] at h1 h2 h3
    rw [List.cons_append, rrs, if_neg (fun e => h1.1 e.symm), if_neg (fun e => h2.1 e.1.symm), if_neg (fun e => h3.1 e.symm), ih _ h1.2 h2.2 h3.2, List.append_assoc]
    rfl
theorem pieces_jn (c : UInt8) (us : List (List UInt8)) (h0 : us ≠ []) (h : ∀ u ∈ us, c ∉ u) : pieces c (jn c us) = us := by
  induction us with
  | nil => exact absurd rfl h0
  | cons u r ih =>
    cases r with
    | nil => exact pieces_free c u (h u (by simp))
    | cons v r =>
      rw [jn, pieces_app c u _ (h u (by simp)), ih (by simp) fun x hx => h x (by simp [hx])]
theorem jn_snoc' (c : UInt8) (xs : List (List UInt8)) (x : List UInt8) (h : xs ≠ []) : jn c (xs ++ [x]) = jn c xs ++ c :: x := by
  induction xs with
  | nil => exact absurd rfl h
  | cons y r ih =>
    cases r with
    | nil => rfl
    | cons z r =>
      show jn c (y :: ((z :: r) ++ [x])) = _
      rw [jn_cons c y _ (by simp), ih (by simp), jn_cons c y (z :: r) (by simp), List.append_assoc]
      rfl
/-- The pieces of a list in brackets. -/
theorem bracket (h : List UInt8) (vs : List (List UInt8)) (h2 : 2 ≤ vs.length) (hh : 32 ∉ h) (hv : ∀ v ∈ vs, 32 ∉ v) : ∃ us, pieces 32 (h ++ 32 :: 40 :: (jn 32 vs ++ [41])) = h :: us ∧ svals (h :: us) = vs := by
  obtain ⟨v, r, rfl⟩ : ∃ v r, vs = v :: r := by
    cases vs with
    | nil => simp at h2
    | cons v r => exact ⟨v, r, rfl⟩
  have hr : r ≠ [] := by intro e; rw [e] at h2; simp at h2
  obtain ⟨m, z, rfl⟩ : ∃ m z, r = m ++ [z] := ⟨r.dropLast, r.getLast hr, (List.dropLast_concat_getLast hr).symm⟩
  refine ⟨(40 :: v) :: (m ++ [z ++ [41]]), ?_, ?_⟩
  · rw [pieces_app 32 h _ hh]
    congr 1
    have e : 40 :: (jn 32 (v :: (m ++ [z])) ++ [41]) = jn 32 ((40 :: v) :: (m ++ [z ++ [41]])) := by
      rw [jn_cons 32 v _ (by simp), jn_cons 32 (40 :: v) _ (by simp)]
      by_cases hm : m = []
      · subst hm
        simp [jn]
      · rw [jn_snoc' 32 m z hm, jn_snoc' 32 m _ hm]
        simp
    rw [e]
    refine pieces_jn 32 _ (by simp) ?_
    intro u hu
    simp only [List.mem_cons, List.mem_append, List.not_mem_nil, or_false] at hu
    rcases hu with rfl | hu | rfl
    · rw [List.mem_cons, not_or]; exact ⟨by decide, hv v (by simp)⟩
    · exact hv u (by simp [hu])
    · rw [List.mem_append, not_or]; exact ⟨hv z (by simp), by decide⟩
  · unfold svals
    have hl : (h :: (40 :: v) :: (m ++ [z ++ [41]])).length = m.length + 3 := by simp
    rw [hl]
    apply List.ext_getElem?
    intro i
    rw [List.getElem?_map]
    by_cases hi : i < m.length + 2
    · rw [List.getElem?_range (by omega)]
      simp only [Option.map_some]
      have g : (h :: (40 :: v) :: (m ++ [z ++ [41]])).getD (i + 1) [] = ((40 :: v) :: (m ++ [z ++ [41]])).getD i [] := rfl
      rw [g]
      cases i with
      | zero =>
        unfold adj
        rw [if_neg (by omega), if_pos rfl]
        rfl
      | succ i =>
        have g2 : ((40 :: v) :: (m ++ [z ++ [41]])).getD (i + 1) [] = (m ++ [z ++ [41]]).getD i [] := rfl
        rw [g2, List.getElem?_cons_succ]
        unfold adj
        by_cases hlast : i = m.length
        · subst hlast
          rw [if_pos (by omega), if_neg (by omega)]
          simp [List.getD]
        · rw [if_neg (by omega), if_neg (by omega), List.getD_eq_getElem?_getD, List.getElem?_append_left (by omega), List.getElem?_append_left (by omega), List.getElem?_eq_getElem (show i < m.length by omega)]
          rfl
    · rw [List.getElem?_eq_none (by simp; omega), List.getElem?_eq_none (by simp; omega)]
      rfl
theorem rr_wr3 {x : T3} (h : Ok3 x) : rr (wr3 x) = x := by
  obtain ⟨k, how, vs⟩ := x
  obtain ⟨h0, hk, hv, h⟩ := h
  simp only at h0 hk hv h
  have hd : ∀ r : List UInt8, (k ++ r).head? ≠ some 33 := by
    intro r
    cases k with
    | nil => exact absurd rfl h0
    | cons c k =>
      rw [List.cons_append, List.head?_cons]
      intro e
      injection e with e
      exact hk.2.1 (by simp [e])
  have go : ∀ r : List UInt8, rr (k ++ r) = rrs k r := by
    intro r
    unfold rr
    rw [if_neg (hd r), rrs_clean [] k r hk.2.2.2.2.2 hk.2.1 hk.1, List.nil_append]
  rcases h with ⟨hh, h1, h8⟩ | ⟨hh, rfl⟩
  · by_cases one : vs.length = 1
    · obtain ⟨v, rfl⟩ : ∃ v, vs = [v] := by
        cases vs with
        | nil => simp at one
        | cons v r =>
          cases r with
          | nil => exact ⟨v, rfl⟩
          | cons _ _ => simp at one
      rcases hh with rfl | rfl
      · have e : wr3 ⟨k, 0, [v]⟩ = k ++ ([61] ++ v) := rfl
        rw [e, go, List.singleton_append, rrs, if_pos rfl]
      · have e : wr3 ⟨k, 1, [v]⟩ = k ++ ([33, 61] ++ v) := rfl
        rw [e, go]
        show rrs k (33 :: 61 :: v) = _
        rw [rrs, if_neg (by decide), if_pos ⟨rfl, rfl⟩]
        rfl
    · have h2 : 2 ≤ vs.length := by omega
      rcases hh with rfl | rfl
      · have e : wr3 ⟨k, 0, vs⟩ = k ++ (32 :: ([105, 110] ++ 32 :: 40 :: (jn 32 vs ++ [41]))) := by
          unfold wr3 wv3 WI
          simp [one]
        obtain ⟨us, e1, e2⟩ := bracket [105, 110] vs h2 (by decide) fun v hm => (hv v hm).1
        rw [e, go, rrs, if_neg (by decide), if_neg (by intro h; exact absurd h.1 (by decide)), if_pos rfl]
        unfold spaced
        rw [e1, e2, if_neg (by show ¬ ([105, 110] : List UInt8) = _; decide)]
      · have e : wr3 ⟨k, 1, vs⟩ = k ++ (32 :: ([110, 111, 116, 105, 110] ++ 32 :: 40 :: (jn 32 vs ++ [41]))) := by
          unfold wr3 wv3 WO
          simp [one]
        obtain ⟨us, e1, e2⟩ := bracket [110, 111, 116, 105, 110] vs h2 (by decide) fun v hm => (hv v hm).1
        rw [e, go, rrs, if_neg (by decide), if_neg (by intro h; exact absurd h.1 (by decide)), if_pos rfl]
        unfold spaced
        rw [e1, e2, if_pos (show ([110, 111, 116, 105, 110] :: us).getD 0 [] = [110, 111, 116, 105, 110] from rfl)]
  · rcases hh with rfl | rfl
    · have e : wr3 ⟨k, 2, []⟩ = k ++ [] := by rw [List.append_nil]; rfl
      rw [e, go]
      rfl
    · rfl
end Go.Proofs.YthbbdhhkamccbaaDoor
