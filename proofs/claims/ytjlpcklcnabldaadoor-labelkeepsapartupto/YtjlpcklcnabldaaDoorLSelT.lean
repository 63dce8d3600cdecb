/-
  Terms as they lie, and as lists of bytes.
-/
import Derived.Test.YtjlpcklcnabldaaDoorLInv
import Derived.Test.YtjlpcklcnabldaaDoorLSelM
namespace Go.Proofs.YtjlpcklcnabldaaDoor.L
open Go.RowKit
def bys (l : List UInt8) : ByteArray := ⟨l.toArray⟩
theorem bys_data (s : ByteArray) : bys s.data.toList = s := by simp [bys]
theorem data_bys (l : List UInt8) : (bys l).data.toList = l := by simp [bys]
theorem bys_size (l : List UInt8) : (bys l).size = l.length := by simp [bys, ByteArray.size]
theorem app_bys (a b : ByteArray) : a ++ b = bys (a.data.toList ++ b.data.toList) := by
  apply ByteArray.ext
  simp [bys]
def t3 (x : Trm) : T3 := ⟨x.key.data.toList, x.how, x.ts.map (·.data.toList)⟩
/-- A term of such lists, its values nowhere. -/
def trm (x : T3) : Trm := ⟨bys x.key, x.how, .slice none 0 0, x.vs.map bys⟩
theorem t3_trm (x : T3) : t3 (trm x) = x := by
  obtain ⟨k, h, vs⟩ := x
  unfold t3 trm
  simp only [data_bys, List.map_map]
  congr 1
  conv => rhs; rw [← List.map_id vs]
  congr 1
theorem ts_of (ts : List ByteArray) : (ts.map (·.data.toList)).map bys = ts := by
  rw [List.map_map]
  conv => rhs; rw [← List.map_id ts]
  congr 1
theorem invalid_t3 (x : Trm) : invalidB (trm (t3 x)) = invalidB x := by
  obtain ⟨k, h, v, ts⟩ := x
  unfold invalidB trm t3
  simp only [bys_data, ts_of]
def ok3 (xs : List T3) : Bool := termsB (xs.map trm)
theorem terms_t3 (xs : List Trm) : ok3 (xs.map t3) = termsB xs := by
  unfold ok3 termsB
  rw [List.length_map, List.length_map, List.map_map]
  congr 2
  rw [List.any_map]
  congr 1
  funext x
  exact invalid_t3 x
theorem name_byte {t : ByteArray} (h : nameB t = true) {c : UInt8} (hm : c ∈ t.data.toList) : plainN c.toNat = true ∨ c.toNat = 45 := by
  obtain ⟨i, hi, e⟩ := List.getElem_of_mem hm
  have hi' : i < t.size := by simpa using hi
  unfold nameB at h
  simp only [Bool.and_eq_true, List.all_eq_true, List.mem_range] at h
  have hk := h.2 i hi'
  have hg : (t.get! i) = c := by
    rw [get_lit t i hi', ← e]
    simp [ByteArray.getElem_eq_getElem_data]
  unfold okAt at hk
  rw [hg] at hk
  simp only [Bool.or_eq_true, Bool.and_eq_true, decide_eq_true_eq] at hk
  rcases hk with hk | hk
  · exact .inl hk
  · exact .inr hk.2
theorem name_clean {t : ByteArray} (h : nameB t = true) : Clean t.data.toList := by
  have f : ∀ c : UInt8, ¬ (plainN c.toNat = true ∨ c.toNat = 45) → c ∉ t.data.toList := fun c hc hm => hc (name_byte h hm)
  exact ⟨f 32 (by decide), f 33 (by decide), f 40 (by decide), f 41 (by decide), f 44 (by decide), f 61 (by decide)⟩
theorem nm_size {t : ByteArray} (h : nameB t = true) : 0 < t.size ∧ t.size ≤ 32 := by
  unfold nameB at h
  simp only [Bool.and_eq_true, decide_eq_true_eq] at h
  exact h.1
theorem value_clean {t : ByteArray} (h : valueB t = true) : Clean t.data.toList ∧ t.size ≤ 32 := by
  unfold valueB at h
  rw [Bool.or_eq_true] at h
  rcases h with h | h
  · have h0 : t.size = 0 := of_decide_eq_true h
    have e : t.data.toList = [] := List.length_eq_zero_iff.1 (by simpa using h0)
    rw [e]
    exact ⟨by simp [Clean], by omega⟩
  · exact ⟨name_clean h, (nm_size h).2⟩
theorem values_clean {ts : List ByteArray} (h : valuesB ts = true) : 1 ≤ ts.length ∧ ts.length ≤ 8 ∧ ∀ t ∈ ts, Clean t.data.toList ∧ t.size ≤ 32 := by
  unfold valuesB at h
  split at h
  · rename_i h1
    refine ⟨by omega, by omega, ?_⟩
    intro t ht
    cases ts with
    | nil => simp at ht
    | cons a r =>
      have : r = [] := List.length_eq_zero_iff.1 (by simpa using h1)
      subst this
      simp only [List.mem_singleton] at ht
      subst ht
      exact value_clean (by simpa using h)
  · simp only [Bool.and_eq_true, decide_eq_true_eq, List.all_eq_true] at h
    exact ⟨h.1.1.1, h.1.1.2, fun t ht => ⟨name_clean (h.1.2 t ht), (nm_size (h.1.2 t ht)).2⟩⟩
/-- What a valid term is. -/
theorem valid_parts {x : Trm} (h : invalidB x = false) : nameB x.key = true ∧ (((x.how = 0 ∨ x.how = 1) ∧ valuesB x.ts = true) ∨ ((x.how = 2 ∨ x.how = 3) ∧ x.ts = [])) := by
  unfold invalidB at h
  rw [Bool.not_eq_false', Bool.and_eq_true] at h
  refine ⟨h.1, ?_⟩
  have h2 := h.2
  split at h2
  · rename_i hh
    exact .inl ⟨hh, h2⟩
  split at h2
  · rename_i hh
    exact .inr ⟨hh, List.length_eq_zero_iff.1 (of_decide_eq_true h2)⟩
  · cases h2
theorem valid_ok3 {x : Trm} (h : invalidB x = false) : Ok3 (t3 x) := by
  obtain ⟨hn, hv⟩ := valid_parts h
  refine ⟨?_, name_clean hn, ?_, ?_⟩
  · intro e
    have h0 := (nm_size hn).1
    have : x.key.data.toList.length = 0 := by
      have : x.key.data.toList = [] := e
      rw [this]; rfl
    have h2 : x.key.size = x.key.data.toList.length := by simp
    omega
  · intro v hm
    obtain ⟨t, ht, rfl⟩ := List.mem_map.1 hm
    rcases hv with ⟨_, hv⟩ | ⟨_, hv⟩
    · exact ((values_clean hv).2.2 t ht).1
    · rw [hv] at ht; simp at ht
  · rcases hv with ⟨hh, hv⟩ | ⟨hh, hv⟩
    · left
      have := values_clean hv
      refine ⟨hh, ?_, ?_⟩
      · show 1 ≤ (x.ts.map _).length
        rw [List.length_map]; exact this.1
      · show (x.ts.map _).length ≤ 8
        rw [List.length_map]; exact this.2.1
    · right
      refine ⟨hh, ?_⟩
      show x.ts.map _ = []
      rw [hv]; rfl
theorem ok3_all {xs : List T3} (h : ok3 xs = true) : xs.length ≤ 8 ∧ ∀ x ∈ xs, Ok3 x := by
  unfold ok3 termsB at h
  simp only [Bool.and_eq_true, decide_eq_true_eq, Bool.not_eq_true', List.any_eq_false, List.length_map] at h
  refine ⟨h.1, fun x hx => ?_⟩
  have := h.2 (trm x) (List.mem_map_of_mem hx)
  have h3 := valid_ok3 (x := trm x) (by simpa using this)
  rw [t3_trm] at h3
  exact h3
end Go.Proofs.YtjlpcklcnabldaaDoor.L
