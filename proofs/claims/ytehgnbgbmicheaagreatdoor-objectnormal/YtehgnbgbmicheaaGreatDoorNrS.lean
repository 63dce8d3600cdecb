/-
  slices.SortFunc of amounts by their names, of every list.
-/
import Derived.Test.YtehgnbgbmicheaaGreatDoorNrM
import Derived.Test.YtehgnbgbmicheaaGreatDoorAmt
import Derived.Test.YtehgnbgbmicheaaGreatDoorObG
namespace Go.Proofs.YtehgnbgbmicheaaGreatDoor
open Go.RowKit Go.Sort Go.Lib
instance : Inhabited Am := ⟨kAm.z⟩
def cfM (x y : Am) : Int := Lib.compareBytes x.n.data.toList y.n.data.toList
theorem compare_lt : ∀ (a b : List UInt8), compareBytes a b < 0 ↔ a < b
  | [], [] => by simp [compareBytes]
  | [], b :: ys => by simp [compareBytes]
  | a :: xs, [] => by simp [compareBytes]
  | a :: xs, b :: ys => by
    rw [compareBytes, List.cons_lt_cons_iff]
    by_cases h1 : a < b
    · rw [if_pos h1]; simp [h1]
    · rw [if_neg h1]
      by_cases h2 : b < a
      · rw [if_pos h2]
        have hne : ¬ a = b := by rintro rfl; exact UInt8.lt_irrefl _ h2
        simp [h1, hne]
      · rw [if_neg h2, compare_lt xs ys]
        have e : a = b := by
          apply UInt8.le_antisymm
          · exact UInt8.not_lt.1 h2
          · exact UInt8.not_lt.1 h1
        simp [e]
theorem lt_cfM (x y : Am) : ltOf cfM x y = decide (x.n.data.toList < y.n.data.toList) := by
  unfold ltOf cfM
  exact decide_eq_decide.2 (compare_lt _ _)
theorem swoM : SWO (ltOf cfM) where
  irrefl x := by rw [lt_cfM]; exact decide_eq_false (List.lt_irrefl _)
  trans x y z h1 h2 := by
    rw [lt_cfM] at *
    exact decide_eq_true (List.lt_trans (of_decide_eq_true h1) (of_decide_eq_true h2))
  ntrans x y z h1 h2 := by
    rw [lt_cfM] at *
    refine decide_eq_false (fun h => ?_)
    have q1 := List.not_lt.1 (of_decide_eq_false h1)
    have q2 := List.not_lt.1 (of_decide_eq_false h2)
    exact List.not_lt.2 (List.le_trans q2 q1) h
theorem enc_get (x : Am) (j : Nat) (h : j < 2) : (kAm.c x)[j]? = some ((kAm.c x)[j]!) := by
  have hj : j = 0 ∨ j = 1 := by omega
  rcases hj with rfl | rfl <;> rfl
theorem get_arr (l : List Am) (k : Nat) (h : k < l.length) : l.toArray[k]! = l.getD k kAm.z := by
  rw [getElem!_pos l.toArray k (by simpa using h), getD_ge _ _ _ h]; simp
theorem holds_of {B : Nat} {w : World} {g n cap : Nat} {l : List Am} (H : OwnR kAm B w (.slice (some ⟨g, 0, none⟩) n cap) l) : HoldsK kAm.c 2 w g 0 l.toArray := by
  intro j hj
  rw [size_flatK] at hj
  have hj' : j < l.length * 2 := by simpa using hj
  have hk : j / 2 < l.length := by omega
  obtain ⟨b', off', e', hc⟩ := (H.row okAm).at (j / 2) hk
  simp only [Option.some.injEq, Addr.mk.injEq, and_true] at e'
  obtain ⟨rfl, rfl⟩ := e'
  rw [get_flatK _ _ _ _ hj]
  have q := hc (j % 2) _ (by rw [← get_arr l (j / 2) hk]; exact enc_get _ _ (Nat.mod_lt _ (by decide)))
  have e : 0 + j / 2 * kAm.k + j % 2 = 0 + j := by show 0 + j / 2 * 2 + j % 2 = 0 + j; omega
  rw [e] at q
  refine ⟨q, ?_⟩
  obtain ⟨_, ⟨hv, _⟩ | ⟨g', cap', cur, hv, _, hg, _⟩⟩ := H
  · cases hv
  · simp only [Value.slice.injEq, Option.some.injEq, Addr.mk.injEq, and_true] at hv
    obtain ⟨rfl, _⟩ := hv
    simp [World.frozen?, hg]
theorem row_holds {w : World} {g cap : Nat} {d : Array Am} (h : HoldsK kAm.c 2 w g 0 d) (hc : d.size ≤ cap) (hm : cap ≤ maxLen) : Row kAm w (.slice (some ⟨g, 0, none⟩) d.size cap) d.toList := by
  refine ⟨some ⟨g, 0, none⟩, cap, by simp, by simpa using hc, hm, (fun q => by cases q), fun k hk => ⟨g, 0, rfl, fun j y hy => ?_⟩⟩
  have hk' : k < d.size := by simpa using hk
  have hj : j < 2 := by
    rcases Nat.lt_or_ge j 2 with q | q
    · exact q
    · rw [List.getElem?_eq_none (by show 2 ≤ j; exact q)] at hy; cases hy
  have q := (h (k * 2 + j) (by rw [size_flatK]; omega)).1
  rw [get_flatK _ _ _ _ (by omega), show (k * 2 + j) / 2 = k by omega, show (k * 2 + j) % 2 = j by omega] at q
  have e : d[k]! = d.toList.getD k kAm.z := by
    rw [getElem!_pos d k hk', getD_ge _ _ _ hk]; simp
  rw [e] at q
  have e2 : (kAm.c (d.toList.getD k kAm.z))[j]! = y := by
    have q2 := enc_get (d.toList.getD k kAm.z) j hj
    rw [hy] at q2
    injection q2 with q2
    exact q2.symm
  rw [e2] at q
  rw [Nat.add_assoc]; exact q
theorem sort_grown (w : World) (g m : Nat) (d : Array Am) (os : Array Obj) : w.grownBy (sortWorldK kAm.c 2 w g 0 m d os) (some g) := by
  refine ⟨rfl, rfl, rfl, ?_, fun k hk hn => ?_⟩
  · unfold sortWorldK grow putRowK putRow mapBlock Go.Sort.ahead; simp
  · unfold sortWorldK grow putRowK putRow mapBlock Go.Sort.ahead
    simp only [Array.getElem?_append, Array.size_modify]
    rw [if_pos hk, Array.getElem?_modify, if_neg (fun e => hn (by rw [e]))]
theorem sort_any {B : Nat} {w : World} {g n cap : Nat} {l : List Am} (H : OwnR kAm B w (.slice (some ⟨g, 0, none⟩) n cap) l) (hl : l.length < 4611686018427387904) :
    Calls Tryz.prog 64 #[.slice (some ⟨g, 0, none⟩) n cap, .func (.func 65) #[] #[]] w fun e w' => e = .returned (.tuple #[]) ∧ ∃ S : List Am, S.Perm l ∧ Ris S ∧ Row kAm w' (.slice (some ⟨g, 0, none⟩) n cap) S ∧ w.grownBy w' (some g) := by
  have hn : n = l.length := by obtain ⟨_, _, e⟩ := H.slice; simp only [Value.slice.injEq] at e; exact e.2.1
  obtain ⟨_, _, e1, hc, hm⟩ := (H.row okAm).len
  simp only [Value.slice.injEq] at e1
  rw [← e1.2.2] at hc hm
  have hg : g < w.heap.size := (H.lt g rfl).2
  have hh := holds_of H
  have hcmp : CmpLays Tryz.prog 65 #[] kAm.c 2 cfM g 0 l.toArray.size w := fun m os dk _ x y => cmp_any (x.n, x.v) (y.n, y.v) _
  have key := Tryz.slices_SortFunc 2 amt_agg amt_size kAm.c (fun _ => rfl) okAm.one cfM swoM 65 #[] g 0 cap l.toArray w (enters_of Tryz.func65 (by kernel_rfl) rfl) hcmp hh hg (by simpa using hl)
  have es : l.toArray.size = n := by rw [hn]; simp
  rw [es] at key
  refine key.mono ?_
  rintro e w' ⟨rfl, d', m, os, hp, hs, rfl⟩
  have hsz : d'.size = n := by rw [hp.1, es]
  refine ⟨rfl, d'.toList, ?_, ?_, ?_, sort_grown w g m d' os⟩
  · have q := hp.2.2
    have e1 : d'.extract 0 n = d' := by rw [← hsz]; simp
    have e2 : l.toArray.extract 0 n = l.toArray := by rw [← es]; simp
    rw [e1, e2] at q
    exact q
  · refine List.pairwise_iff_getElem.2 (fun i j hi hj hij => ?_)
    have hj' : j < n := by rw [← hsz]; simpa using hj
    have hi' : i < d'.size := by simpa using hi
    have q := hs i j (Nat.zero_le _) hij hj'
    rw [lt_cfM, getElem!_pos d' j (by simpa using hj), getElem!_pos d' i hi'] at q
    have q2 := List.not_lt.1 (of_decide_eq_false q)
    simpa using q2
  · have h1 : HoldsK kAm.c 2 (putRowK kAm.c 2 (Sort.ahead w m) g 0 d') g 0 d' := holdsK_putRowK kAm.c 2 _ _ _ l.toArray d' (holdsK_ahead kAm.c 2 w m g 0 _ hh) (by rw [hsz, es])
    have h2 : HoldsK kAm.c 2 (sortWorldK kAm.c 2 w g 0 m d' os) g 0 d' := holdsK_grow kAm.c 2 _ os g 0 d' (by unfold putRowK putRow mapBlock Go.Sort.ahead; simpa using hg) h1
    have := row_holds h2 (cap := cap) (by rw [hsz, hn]; exact hc) hm
    rw [hsz] at this
    exact this
end Go.Proofs.YtehgnbgbmicheaaGreatDoor
