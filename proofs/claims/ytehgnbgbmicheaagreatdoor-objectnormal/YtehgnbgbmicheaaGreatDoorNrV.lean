/-
  A valid list is its own Normal; what Normal tells is valid.
-/
import Derived.Test.YtehgnbgbmicheaaGreatDoorNrN
import Derived.Sort.Walk0
namespace Go.Proofs.YtehgnbgbmicheaaGreatDoor
open Go.RowKit Go.Lib
def Str (l : List Am) : Prop := l.Pairwise fun x y => x.n.data.toList < y.n.data.toList
theorem ltS_eq (a b : ByteArray) : L.ltS a b = decide (a.data.toList < b.data.toList) := by
  unfold L.ltS
  rw [Go.Proofs.bytesLess_eq, ByteArray.toList_eq, ByteArray.toList_eq]
theorem ams_parts {l : List Am} (h : amsB l = true) : l.length ≤ 16 ∧ l.all amB = true ∧ Str l := by
  unfold amsB at h
  rw [Bool.and_eq_true, Bool.and_eq_true] at h
  obtain ⟨h1, h2, h3⟩ := h
  refine ⟨of_decide_eq_true h1, h2, ?_⟩
  have step : ∀ i, i + 1 < l.length → (l.getD i kAm.z).n.data.toList < (l.getD (i + 1) kAm.z).n.data.toList := by
    intro i hi
    have q := List.all_eq_true.1 h3 (i + 1) (List.mem_range.2 hi)
    simp only [Nat.add_sub_cancel] at q
    rw [ltS_eq, Bool.or_eq_true] at q
    rcases q with q | q
    · exact absurd (of_decide_eq_true q) (by omega)
    · exact of_decide_eq_true q
  have far : ∀ d i, i + d + 1 < l.length → (l.getD i kAm.z).n.data.toList < (l.getD (i + d + 1) kAm.z).n.data.toList := by
    intro d
    induction d with
    | zero => intro i hi; exact step i hi
    | succ d ih =>
      intro i hi
      have q1 := ih i (by omega)
      have q2 := step (i + d + 1) (by omega)
      exact List.lt_trans q1 q2
  refine List.pairwise_iff_getElem.2 (fun i j hi hj hij => ?_)
  have q := far (j - i - 1) i (by omega)
  rw [show i + (j - i - 1) + 1 = j by omega, getD_ge _ _ _ hi, getD_ge _ _ _ hj] at q
  exact q
theorem Str.ris {l : List Am} (h : Str l) : Ris l := h.imp (fun q => List.le_of_lt q)
theorem sms_rise (l : List Am) (h : Str l) : ∀ k, k ≤ l.length → sms (ent (l.take k)) = l.take k
  | 0, _ => by simp [ent, sms, nmF]
  | k + 1, hk => by
    have ih := sms_rise l h k (by omega)
    rw [take_onez l k kAm.z (by omega), ent_app]
    have e : ent [l.getD k kAm.z] = [((l.getD k kAm.z).n.data.toList, (l.getD k kAm.z).v)] := rfl
    rw [e, sms_new _ _ _ (by
      intro q
      rw [mem_nmF] at q
      unfold ent at q
      rw [List.map_map] at q
      obtain ⟨x, hx, ex⟩ := List.mem_map.1 q
      obtain ⟨i, hi, rfl⟩ := List.getElem_of_mem hx
      rw [List.length_take] at hi
      rw [List.getElem_take] at ex
      have q2 := List.pairwise_iff_getElem.1 h i k (by omega) (by omega) (by omega)
      rw [getD_ge _ _ _ (by omega)] at ex
      simp only [Function.comp] at ex
      rw [ex] at q2
      exact List.lt_irrefl _ q2), ih]
theorem sms_self {l : List Am} (h : Str l) : sms (ent l) = l := by
  have q := sms_rise l h l.length (Nat.le_refl _)
  rw [List.take_length] at q
  exact q
theorem tot_self {l : List Am} (h : Str l) (hf : ∀ x ∈ l, x.v ≤ 9223372036854775807) : ¬ Ov (ent l) := by
  rintro ⟨y, hy⟩
  by_cases hin : y ∈ nmF (ent l)
  · have q : fAm (ent l) y ∈ sms (ent l) := List.mem_map.2 ⟨y, hin, rfl⟩
    rw [sms_self h] at q
    have := hf _ q
    unfold maxA at hy
    have e : (fAm (ent l) y).v = Tot (ent l) y := rfl
    omega
  · rw [Tot_none (fun q => hin ((mem_nmF _ _).2 q))] at hy
    unfold maxA at hy
    omega
/-- A valid list is its own Normal. -/
theorem nr_valid {l : List Am} (h : amsB l = true) (hf : ∀ x ∈ l, x.v ≤ 9223372036854775807) : nrE l = 0 ∧ nrL l = l := by
  obtain ⟨h1, h2, h3⟩ := ams_parts h
  have q := nr_of (l := l) (S := l) (List.Perm.refl _) h3.ris h2 (tot_self h3 hf)
  rw [sms_self h3, if_neg (by omega), if_neg (by omega)] at q
  exact q
theorem nr_zero {l : List Am} (h : nrE l = 0) : l.all amB = true ∧ ¬ Ov (ent l) ∧ (nmsOf (ent l)).length ≤ 16 ∧ nrL l = outL (ent l) := by
  unfold nrE at h
  split at h
  · omega
  · rename_i h1
    split at h
    · omega
    · rename_i h2
      split at h
      · omega
      · rename_i h3
        refine ⟨by simpa using h1, h2, by omega, ?_⟩
        unfold nrL
        rw [if_neg h1, if_neg h2, if_neg h3]
/-- What Normal tells is valid. -/
theorem nr_told {l : List Am} (h : nrE l = 0) : amsB (nrL l) = true ∧ ∀ x ∈ nrL l, x.v ≤ 9223372036854775807 := by
  obtain ⟨h1, h2, h3, h4⟩ := nr_zero h
  have hm : ∀ x ∈ outL (ent l), 0 ≤ x.v ∧ x.v ≤ 9223372036854775807 ∧ resB x.n = true := by
    intro x hx
    unfold outL at hx
    obtain ⟨n, hn, rfl⟩ := List.mem_map.1 hx
    refine ⟨Tot_pos (ent_pos (am_pos h1)) n, Int.not_lt.1 (fun c => h2 ⟨n, c⟩), ?_⟩
    rw [mem_nms] at hn
    unfold ent at hn
    rw [List.map_map] at hn
    obtain ⟨y, hy, rfl⟩ := List.mem_map.1 hn
    have q := List.all_eq_true.1 h1 y hy
    unfold amB at q
    rw [Bool.and_eq_true] at q
    exact q.2
  rw [h4]
  refine ⟨ams_yes (by rw [out_len]; exact h3) (fun k hk => ?_), fun x hx => (hm x hx).2.1⟩
  have hk' : k < (nmsOf (ent l)).length := by rw [← out_len]; exact hk
  refine ⟨?_, fun h0 => ?_⟩
  · have q := hm _ (getD_in (d := kAm.z) hk)
    unfold amB
    rw [decide_eq_true q.1, q.2.2]; rfl
  · rw [ltS_eq, out_at _ _ hk', out_at _ _ (by omega)]
    refine decide_eq_true ?_
    have q := List.pairwise_iff_getElem.1 (nms_rise (ent l)) (k - 1) k (by omega) hk' (by omega)
    rw [getD_ge _ _ _ (by omega), getD_ge _ _ _ hk']
    exact q
end Go.Proofs.YtehgnbgbmicheaaGreatDoor
