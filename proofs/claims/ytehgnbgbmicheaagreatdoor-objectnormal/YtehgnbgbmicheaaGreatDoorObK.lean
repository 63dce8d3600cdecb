/-
  Key, Unkey.
-/
import Derived.Test.YtehgnbgbmicheaaGreatDoorKeG
import Derived.Test.YtehgnbgbmicheaaGreatDoorLaG
import Derived.Lib.QuietBelow
import Derived.BigQuiet
namespace Go.Proofs.YtehgnbgbmicheaaGreatDoor
open Go.RowKit
open Go.Sort (grow)
/-- The letter of a kind. -/
def letter (k : Int) : ByteArray := if k = 0 then ⟨#[110]⟩ else if k = 1 then ⟨#[113]⟩ else if k = 2 then ⟨#[108]⟩ else if k = 3 then ⟨#[111]⟩ else ⟨#[98]⟩
def nmB (k : Int) (n : ByteArray) : Bool := if k = 0 then decide (n.size = 0) else L.nameB n
/-- What Key tells. -/
def keyR (k : Int) (p n : ByteArray) : ByteArray × Int :=
  if k < 0 ∨ 4 < k then (⟨#[]⟩, 1) else if L.splitE p = 0 then (if nmB k n = true then K.makeR [letter k, p, n] else (⟨#[]⟩, 40)) else (⟨#[]⟩, 41)
theorem keyM {w : World} (h : L.HasM w) : K.HasM w := h
theorem empty_iff (n : ByteArray) : n.toList.isEmpty = decide (n.size = 0) := by
  rw [L.list_of_bytes]
  by_cases h : n.size = 0
  · rw [decide_eq_true h, List.isEmpty_iff, ← List.length_eq_zero_iff]; simpa using h
  · rw [decide_eq_false h]
    cases q : n.data.toList.isEmpty with
    | false => rfl
    | true =>
      rw [List.isEmpty_iff, ← List.length_eq_zero_iff] at q
      exact absurd (by simpa using q) h
set_option maxHeartbeats 1000000 in
theorem nameOf_any (k : Int) (n : ByteArray) (w : World) : Calls Tryz.prog 28 #[.int .i64 k, .string n] w fun e w' => e = .returned (.bool (nmB k n)) ∧ Below w.heap.size w w' := by
  have NA := Lib.hid (L.name_any n w)
  by_cases h : k = 0
  · subst h
    have E : Aside (nmB 0 n = n.toList.isEmpty) := by show _ = _; unfold nmB; rw [if_pos rfl, empty_iff]
    go_enter Tryz.func28, Tryz.ntmps28
    go_wp2_with fail
    go_ret
    exact ⟨by rw [E.out]; rfl, Below.refl _ _⟩
  · have g : (k == 0) = false := by rw [beq_eq_false_iff_ne]; exact h
    have E : Aside (nmB k n = L.nameB n) := by show _ = _; unfold nmB; rw [if_neg h]
    clear h
    go_enter Tryz.func28, Tryz.ntmps28
    go_wp2_with fail
    refine NA.out.mono ?_
    rintro e w1 ⟨rfl, hb⟩
    have B1 := Lib.hid hb
    clear hb NA
    go_wp2_with fail
    go_ret
    exact ⟨by rw [E.out]; rfl, B1.out⟩
set_option maxHeartbeats 8000000 in
set_option maxRecDepth 100000 in
theorem key_any (k : Int) (p n : ByteArray) (w : World) (hm : L.HasM w) (hp : p.size ≤ 140737488355328) (hn : n.size ≤ 140737488355328) :
    Calls Tryz.prog 13 #[.int .i64 k, .string p, .string n] w fun e w' => e = .returned (.tuple #[.string (keyR k p n).1, .int .i64 (keyR k p n).2]) ∧ Below w.heap.size w w' := by
  have HM := Lib.hid hm
  have PA := Lib.hid (L.path_any p w hm)
  have NO := Lib.hid (nameOf_any k n)
  have SZ := Lib.hid (And.intro hp hn)
  clear hm hp hn
  by_cases h0 : k < 0
  · have E : Aside (keyR k p n = (⟨#[]⟩, 1)) := by show _ = _; unfold keyR; rw [if_pos (Or.inl h0)]
    go_enter Tryz.func13, Tryz.ntmps13
    go_wp2_with fail
    go_ret2
    exact ⟨by rw [E.out]; rfl, Below.refl _ _⟩
  by_cases h5 : k ≥ 5
  · have E : Aside (keyR k p n = (⟨#[]⟩, 1)) := by show _ = _; unfold keyR; rw [if_pos (Or.inr (by omega))]
    go_enter Tryz.func13, Tryz.ntmps13
    go_wp2_with fail
    go_ret2
    exact ⟨by rw [E.out]; rfl, Below.refl _ _⟩
  have E0 : keyR k p n = if L.splitE p = 0 then (if nmB k n = true then K.makeR [letter k, p, n] else (⟨#[]⟩, 40)) else (⟨#[]⟩, 41) := by unfold keyR; rw [if_neg (by omega)]
  go_enter Tryz.func13, Tryz.ntmps13
  go_wp2_with fail
  refine PA.out.mono ?_
  rintro e w1 ⟨rfl, hb⟩
  have B1 := Lib.hid hb
  clear hb PA
  by_cases hs : L.splitE p = 0
  case neg =>
    have E : Aside (keyR k p n = (⟨#[]⟩, 41)) := by show _ = _; rw [E0, if_neg hs]
    have g : (L.splitE p != 0) = true := by rw [bne_iff_ne]; exact hs
    clear hs E0
    go_wp2_with fail
    go_ret2
    exact ⟨by rw [E.out]; rfl, B1.out⟩
  rw [if_pos hs] at E0
  have g : (L.splitE p != 0) = false := by rw [hs]; rfl
  clear hs
  cases hN : nmB k n with
  | false =>
    have E : Aside (keyR k p n = (⟨#[]⟩, 40)) := by show _ = _; rw [E0, hN]; rfl
    clear E0
    go_wp2_with fail
    refine (NO.out w1).mono ?_
    rintro e w2 ⟨rfl, hb⟩
    have B2 := Lib.hid (B1.out.trans (hb.mono B1.out.size))
    clear hb
    go_wp2_with fail
    go_ret2
    exact ⟨by rw [E.out]; rfl, B2.out⟩
  | true =>
    have E1 : Aside (keyR k p n = K.makeR [letter k, p, n]) := by show _ = _; rw [E0, hN]; rfl
    clear E0
    go_wp2_with fail
    refine (NO.out w1).mono ?_
    rintro e w2 ⟨rfl, hb⟩
    have B2 := Lib.hid (B1.out.trans (hb.mono B1.out.size))
    clear hb NO g
    have MK : Hid (∀ (a : ByteArray), a.size = 1 → Calls Tryz.prog 29 #[.slice (some ⟨w2.heap.size, 0, none⟩) 3 3] (w2.alloc (.cells #[.string a, .string p, .string n] 9)) fun e w' => e = .returned (.tuple #[.string (K.makeR [a, p, n]).1, .int .i64 (K.makeR [a, p, n]).2]) ∧ Below w.heap.size w w') := Lib.hid fun a ha => by
      have hb := K.below_built w2 (.cells #[.string a, .string p, .string n] 9)
      have hw := B2.out.trans (hb.mono B2.out.size)
      refine (K.make_any _ [a, p, n] _ (keyM (HM.out.below hw)) (K.strs_built w2 [a, p, n] _ 3 rfl rfl (by show 3 ≤ maxLen; decide)) ?_).mono fun _ _ q => ⟨q.1, hw.trans (q.2.mono hw.size)⟩
      intro t ht
      simp only [List.mem_cons, List.not_mem_nil, or_false] at ht
      rcases ht with rfl | rfl | rfl
      · rw [ha]; decide
      · exact SZ.out.1
      · exact SZ.out.2
    have hk : k = 0 ∨ k = 1 ∨ k = 2 ∨ k = 3 ∨ k = 4 := by omega
    have x0 : (⟨#[110, 113, 108, 111, 98]⟩ : ByteArray).extract 0 1 = ⟨#[110]⟩ := by decide
    have x1 : (⟨#[110, 113, 108, 111, 98]⟩ : ByteArray).extract 1 2 = ⟨#[113]⟩ := by decide
    have x2 : (⟨#[110, 113, 108, 111, 98]⟩ : ByteArray).extract 2 3 = ⟨#[108]⟩ := by decide
    have x3 : (⟨#[110, 113, 108, 111, 98]⟩ : ByteArray).extract 3 4 = ⟨#[111]⟩ := by decide
    have x4 : (⟨#[110, 113, 108, 111, 98]⟩ : ByteArray).extract 4 5 = ⟨#[98]⟩ := by decide
    clear h0 h5
    rcases hk with rfl | rfl | rfl | rfl | rfl
    all_goals
      go_wp2_with fail
      refine (MK.out _ rfl).mono ?_
      rintro e w3 ⟨rfl, hb⟩
      have B3 := Lib.hid hb
      clear hb MK x0 x1 x2 x3 x4
      go_wp2_with fail
      go_ret2
      exact ⟨by rw [E1.out]; rfl, B3.out⟩
theorem results_tmp4 {fn : Func} {a b c d : Tmp} (h : fn.results = #[.tmp a, .tmp b, .tmp c, .tmp d]) (tmps : Array Value) (w : World) :
    (results fn tmps).run Tryz.prog w = .ok (.tuple #[tmps.getD a undef, tmps.getD b undef, tmps.getD c undef, tmps.getD d undef]) w := by
  simp [results, h]
def ix (a : ByteArray) : Int := Lib.index [110, 113, 108, 111, 98] a.data.toList
def pt (s : ByteArray) (k : Nat) : ByteArray := (K.splitT s).getD k ⟨#[]⟩
/-- What Unkey tells. -/
def unB (s : ByteArray) : Prop := K.splitE s = 0 ∧ (K.splitT s).length = 3 ∧ keyR (ix (pt s 0)) (pt s 1) (pt s 2) = (s, 0)
noncomputable def unR (s : ByteArray) : Int × ByteArray × ByteArray × Int := by
  classical exact if unB s then (ix (pt s 0), pt s 1, pt s 2, 0) else (0, ⟨#[]⟩, ⟨#[]⟩, 2)
theorem unR_yes {s : ByteArray} (h : unB s) : unR s = (ix (pt s 0), pt s 1, pt s 2, 0) := by unfold unR; exact if_pos h
theorem unR_no {s : ByteArray} (h : ¬ unB s) : unR s = (0, ⟨#[]⟩, ⟨#[]⟩, 2) := by unfold unR; exact if_neg h
theorem same_of_list {a b : ByteArray} (h : a.toList = b.toList) : a = b := by
  rw [L.list_of_bytes, L.list_of_bytes] at h
  exact L.data_inj h
theorem split_size {s t : ByteArray} (h : t ∈ K.splitT s) : t.size ≤ 120 := by
  unfold K.splitT at h
  cases q : K.splitO s with
  | none => rw [q] at h; simp at h
  | some ts =>
    rw [q] at h
    have hk := K.make_ok (K.make_split q)
    have : ∀ (l : List ByteArray) (t : ByteArray), t ∈ l → t.size ≤ (K.keyL l).length := by
      intro l
      induction l with
      | nil => intro t ht; simp at ht
      | cons x r ih =>
        intro t ht
        have e : K.keyL (x :: r) = K.keyL [x] ++ K.keyL r := K.keyL_app [x] r
        rw [e, List.length_append]
        rcases List.mem_cons.1 ht with rfl | ht
        · have : t.size ≤ (K.keyL [t]).length := by
            have e2 : K.keyL [t] = K.enc t.data.toList ++ [0, 1] := by simp [K.keyL]
            rw [e2, List.length_append, K.enc_length]
            simp
            omega
          omega
        · have := ih t ht; omega
    have := this ts t h
    omega
end Go.Proofs.YtehgnbgbmicheaaGreatDoor
