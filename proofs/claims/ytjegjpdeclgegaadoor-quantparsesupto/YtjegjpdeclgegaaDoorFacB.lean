/-
  factorOf of every text; texts cut behind their digits.
-/
import Derived.Test.YtjegjpdeclgegaaDoorFacA
namespace Go.Proofs.YtjegjpdeclgegaaDoor
open Go.RowKit Go.Lib
set_option maxHeartbeats 4000000 in
set_option maxRecDepth 100000 in
theorem factor_none (x : ByteArray) (hx : ∀ i, i < 12 → sufT i ≠ x) (w : World) (h : Suf w) : Calls Tryd.prog 18 #[.string x] w fun e w' => e = .returned (.int .u64 0) ∧ Below w.heap.size w w' := by
  have H : Hid (Suf w) := h
  have HX := Lib.hid hx
  clear h hx
  go_enter Tryd.func18, Tryd.ntmps18
  go_wp2_with (refine load_suf rfl rfl H.out ?_)
  go_loopg [6] 12 (fun g si wr => ∃ (k : Nat), k ≤ 12 ∧ g = 12 - k ∧ si = .int .i64 k ∧ Below w.heap.size w wr)
  case atStart => exact ⟨0, by omega, rfl, rfl, Below.refl _ _⟩
  case round =>
    obtain ⟨k, hk, hg, rfl, hb⟩ := hrel
    have R : Aside (gk = 12 - k ∧ Below w.heap.size w wr) := ⟨hg, hb⟩
    clear hg hb
    by_cases hlt : k < 12
    · have hlt' : (k : Int) < 12 := by omega
      have hix := fun w => suf_idx w k hlt
      obtain ⟨t, ht⟩ : ∃ t, t = sufT k := ⟨_, rfl⟩
      obtain ⟨n, hn⟩ : ∃ n, n = sufN k := ⟨_, rfl⟩
      have ne : (t.toList == x.toList) = false := by
        rw [ByteArray.toList_eq, ByteArray.toList_eq, beq_eq_false_iff_ne]
        intro e
        refine HX.out k hlt ?_
        rw [← ht]
        cases t; cases x
        simp only [ByteArray.mk.injEq]
        exact Array.toList_inj.1 e
      rw [← ht, ← hn] at hix
      have b1 : Aside (Below w.heap.size w (wr.alloc (.cells #[.string t, .int .u64 n] 35))) := R.out.2.trans (((Below.refl _ _).alloc (Nat.le_refl _) _).mono R.out.2.size)
      clear ht hn
      go_wp2_with fail
      go_roundg (12 - (k + 1))
      case measure => have := R.out.1; omega
      case rel => exact ⟨k + 1, by omega, rfl, by go_num, b1.out⟩
    · go_wp2_with fail
      go_ret
      exact ⟨rfl, R.out.2⟩
open Classical in
/-- The factor of a text. -/
noncomputable def facR (x : ByteArray) : Nat := if h : ∃ i, i < 12 ∧ sufT i = x then sufN h.choose else 0
theorem facR_of (i : Nat) (hi : i < 12) : facR (sufT i) = sufN i := by
  have h : ∃ j, j < 12 ∧ sufT j = sufT i := ⟨i, hi, rfl⟩
  unfold facR
  rw [dif_pos h]
  have q := h.choose_spec
  by_cases e : h.choose = i
  · rw [e]
  · have := suf_apart _ q.1 i hi e
    rw [q.2] at this
    simp at this
theorem facR_none {x : ByteArray} (h : ∀ i, i < 12 → sufT i ≠ x) : facR x = 0 := by
  unfold facR
  rw [dif_neg]
  rintro ⟨i, hi, e⟩
  exact h i hi e
theorem facR_lt (x : ByteArray) : facR x < 18446744073709551616 := by
  by_cases h : ∃ i, i < 12 ∧ sufT i = x
  · obtain ⟨i, hi, rfl⟩ := h
    rw [facR_of i hi]; exact (sufN_pos i hi).2
  · rw [facR_none (fun i hi e => h ⟨i, hi, e⟩)]; decide
theorem factor_all (x : ByteArray) (w : World) (h : Suf w) : Calls Tryd.prog 18 #[.string x] w fun e w' => e = .returned (.int .u64 (facR x)) ∧ Below w.heap.size w w' := by
  by_cases q : ∃ i, i < 12 ∧ sufT i = x
  · obtain ⟨i, hi, rfl⟩ := q
    rw [facR_of i hi]; exact factor_any i hi w h
  · rw [facR_none (fun i hi e => q ⟨i, hi, e⟩)]
    exact factor_none x (fun i hi e => q ⟨i, hi, e⟩) w h
def isD (c : UInt8) : Bool := digs.data.toList.contains c
def dgs (l : List UInt8) : List UInt8 := l.takeWhile isD
def rst (l : List UInt8) : List UInt8 := l.dropWhile isD
theorem isD_range {c : UInt8} (h : isD c = true) : 48 ≤ c.toNat ∧ c.toNat ≤ 57 := by
  unfold isD at h
  simp [digs] at h
  rcases h with rfl | rfl | rfl | rfl | rfl | rfl | rfl | rfl | rfl | rfl <;> decide
theorem takeWhile_all (p : UInt8 → Bool) : ∀ (l : List UInt8), ∀ c ∈ l.takeWhile p, p c = true
  | [], c, h => by simp at h
  | x :: r, c, h => by
    rw [List.takeWhile_cons] at h
    split at h
    · rename_i hx
      rcases List.mem_cons.1 h with rfl | h'
      · exact hx
      · exact takeWhile_all p r c h'
    · simp at h
theorem dgs_range (l : List UInt8) : ∀ c ∈ dgs l, 48 ≤ c.toNat ∧ c.toNat ≤ 57 := by
  intro c hc
  exact isD_range (takeWhile_all isD l c hc)
theorem dgs_rst (l : List UInt8) : dgs l ++ rst l = l := List.takeWhile_append_dropWhile
theorem dgs_len (l : List UInt8) : (dgs l).length + (rst l).length = l.length := by
  have := congrArg List.length (dgs_rst l); rwa [List.length_append] at this
theorem take_of_app {a b l : List UInt8} (h : a ++ b = l) : l.take a.length = a := by subst h; exact List.take_left
theorem dgs_cut (t : ByteArray) : t.extract 0 (t.size - (⟨(rst t.data.toList).toArray⟩ : ByteArray).size) = ⟨(dgs t.data.toList).toArray⟩ := by
  have h := dgs_len t.data.toList
  have hs : t.size = t.data.toList.length := by simp
  have hr : (⟨(rst t.data.toList).toArray⟩ : ByteArray).size = (rst t.data.toList).length := by simp [ByteArray.size]
  have e : t.size - (⟨(rst t.data.toList).toArray⟩ : ByteArray).size = (dgs t.data.toList).length := by omega
  rw [e]
  apply ByteArray.ext
  apply Array.toList_inj.1
  rw [extract_from_zero, take_of_app (dgs_rst t.data.toList)]
end Go.Proofs.YtjegjpdeclgegaaDoor
