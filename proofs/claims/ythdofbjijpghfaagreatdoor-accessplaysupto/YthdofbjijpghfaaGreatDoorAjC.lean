/-
  slices.SortFunc of paths by comparePaths, of every row.
-/
import Derived.Test.YthdofbjijpghfaaGreatDoorAjA
namespace Go.Proofs.YthdofbjijpghfaaGreatDoor
open Go.RowKit Go.Sort Go.Lib
namespace Ac
open L (Gd)
def eP (x : Pt) : Value := .string x.1
theorem eP_one : OneCell eP := fun _ => rfl
theorem get_arrP (l : List Pt) (k : Nat) (h : k < l.length) : l.toArray[k]! = l.getD k kPt.z := by
  rw [getElem!_pos l.toArray k (by simpa using h), getD_ge _ _ _ h]; simp
theorem holdsP {B : Nat} {w : World} {g n cap : Nat} {l : List Pt} (H : OwnR kPt B w (.slice (some ⟨g, 0, none⟩) n cap) l) : Holds eP w g 0 l.toArray := by
  intro j hj
  have hk : j < l.length := by simpa using hj
  obtain ⟨b', off', e', hc⟩ := (H.row okPt).at j hk
  simp only [Option.some.injEq, Addr.mk.injEq, and_true] at e'
  obtain ⟨rfl, rfl⟩ := e'
  have q := hc 0 (eP (l.getD j kPt.z)) rfl
  have e : 0 + j * kPt.k + 0 = 0 + j := by show 0 + j * 1 + 0 = 0 + j; omega
  rw [e] at q
  rw [get_arrP l j hk]
  refine ⟨q, ?_⟩
  obtain ⟨_, ⟨hv, _⟩ | ⟨g', cap', cur, hv, _, hg, _⟩⟩ := H
  · cases hv
  · simp only [Value.slice.injEq, Option.some.injEq, Addr.mk.injEq, and_true] at hv
    obtain ⟨rfl, _⟩ := hv
    simp [World.frozen?, hg]
theorem rowP {w : World} {g cap : Nat} {d : Array Pt} (h : Holds eP w g 0 d) (hc : d.size ≤ cap) (hm : cap ≤ maxLen) : Row kPt w (.slice (some ⟨g, 0, none⟩) d.size cap) d.toList := by
  refine ⟨some ⟨g, 0, none⟩, cap, by simp, by simpa using hc, hm, (fun q => by cases q), fun k hk => ⟨g, 0, rfl, fun j y hy => ?_⟩⟩
  have hk' : k < d.size := by simpa using hk
  have hj : j = 0 := by
    rcases Nat.lt_or_ge j 1 with q | q
    · omega
    · rw [List.getElem?_eq_none (by show 1 ≤ j; exact q)] at hy; cases hy
  subst hj
  have q := (h k hk').1
  have e : d[k]! = d.toList.getD k kPt.z := by
    rw [getElem!_pos d k hk', getD_ge _ _ _ hk]; simp
  rw [e] at q
  have e2 : eP (d.toList.getD k kPt.z) = y := Option.some.inj hy
  rw [e2] at q
  have e3 : 0 + k * kPt.k + 0 = 0 + k := by show 0 + k * 1 + 0 = 0 + k; omega
  rw [e3]; exact q
theorem sortP_grown (w : World) (g m : Nat) (d : Array Pt) (os : Array Obj) : w.grownBy (sortWorld eP w g 0 m d os) (some g) := by
  refine ⟨rfl, rfl, rfl, ?_, fun k hk hn => ?_⟩
  · unfold sortWorld grow putRow mapBlock Go.Sort.ahead; simp
  · unfold sortWorld grow putRow mapBlock Go.Sort.ahead
    simp only [Array.getElem?_append, Array.size_modify]
    rw [if_pos hk, Array.getElem?_modify, if_neg (fun e => hn (by rw [e]))]
theorem sortP_any {w0 : World} (hM : L.HasM w0) {w : World} (hbw : RowKit.Below w0.heap.size w0 w) {B g n cap : Nat} (hB : w0.heap.size ≤ B) {l : List Pt} (H : OwnR kPt B w (.slice (some ⟨g, 0, none⟩) n cap) l) (hl : l.length < 4611686018427387904) :
    Calls Tryz.prog 42 #[.slice (some ⟨g, 0, none⟩) n cap, .func (.func 43) #[] #[]] w fun e w' => e = .returned (.tuple #[]) ∧ ∃ S : List Pt, S.Perm l ∧ RisP S ∧ Row kPt w' (.slice (some ⟨g, 0, none⟩) n cap) S ∧ w.grownBy w' (some g) := by
  have hn : n = l.length := by obtain ⟨_, _, e⟩ := H.slice; simp only [Value.slice.injEq] at e; exact e.2.1
  obtain ⟨_, _, e1, hc, hm⟩ := (H.row okPt).len
  simp only [Value.slice.injEq] at e1
  rw [← e1.2.2] at hc hm
  have hg : g < w.heap.size := (H.lt g rfl).2
  have hg0 : w0.heap.size ≤ g := Nat.le_trans hB (H.lt g rfl).1
  have hh := holdsP H
  have hcmp : CmpLays1 Tryz.prog 43 #[] eP cPt g 0 l.toArray.size w := fun m os dk _ x y => by
    have gb := sortP_grown w g m dk os
    have b1 : RowKit.Below w0.heap.size w0 (sortWorld eP w g 0 m dk os) := hbw.trans ((RowKit.Below.refl _ w).grown gb hbw.size (fun k e => by cases e; exact hg0))
    refine (comparePaths_any x.1 y.1 _ (hM.below b1)).mono ?_
    rintro e w' ⟨rfl, h⟩
    exact ⟨rfl, Gd.grow h⟩
  have key := Any.slices_SortFunc Tryz.laysSlF6_f42 eP eP_one cPt swoPt 43 #[] g 0 cap l.toArray w (enters_of Tryz.func43 (by kernel_rfl) rfl) hcmp hh hg (by simpa using hl)
  have es : l.toArray.size = n := by rw [hn]; simp
  rw [es] at key
  refine key.mono ?_
  rintro e w' ⟨rfl, d', m, os, hp, hs, rfl⟩
  have hsz : d'.size = n := by rw [hp.1, es]
  refine ⟨rfl, d'.toList, ?_, ?_, ?_, sortP_grown w g m d' os⟩
  · have q := hp.2.2
    have e1 : d'.extract 0 n = d' := by rw [← hsz]; simp
    have e2 : l.toArray.extract 0 n = l.toArray := by rw [← es]; simp
    rw [e1, e2] at q
    exact q
  · refine List.pairwise_iff_getElem.2 (fun i j hi hj hij => ?_)
    have hj' : j < n := by rw [← hsz]; simpa using hj
    have hi' : i < d'.size := by simpa using hi
    have q := hs i j (Nat.zero_le _) hij hj'
    rw [getElem!_pos d' j (by simpa using hj), getElem!_pos d' i hi'] at q
    simpa using q
  · have h1 : Holds eP (putRow eP (Sort.ahead w m) g 0 d') g 0 d' := holds_putRow eP _ _ _ l.toArray d' (holds_ahead eP w m g 0 _ hh) (by rw [hsz, es])
    have h2 : Holds eP (sortWorld eP w g 0 m d' os) g 0 d' := holds_grow eP _ os g 0 d' (by unfold putRow mapBlock Go.Sort.ahead; simpa using hg) h1
    have := rowP h2 (cap := cap) (by rw [hsz, hn]; exact hc) hm
    rw [hsz] at this
    exact this
theorem sort_paths {w0 W : World} (hM : L.HasM w0) (hb : RowKit.Below w0.heap.size w0 W) {B : Nat} (hB : w0.heap.size ≤ B) {a : Option Addr} {n c : Nat} {ps : List Pt} (H : OwnR kPt B W (.slice a n c) ps) (hl : ps.length < 100000000) :
    Calls Tryz.prog 42 #[.slice a n c, .func (.func 43) #[] #[]] W fun e w' => e = .returned (.tuple #[]) ∧ ∃ S : List Pt, S.Perm ps ∧ RisP S ∧ Row kPt w' (.slice a n c) S ∧ W.grownBy w' (Value.slice a n c).ownBlock := by
  obtain ⟨_, ⟨hv, hn⟩ | ⟨g, cap, cur, hv, _⟩⟩ := id H
  · simp only [Value.slice.injEq] at hv
    obtain ⟨rfl, hn2, rfl⟩ := hv
    have e : ps = [] := List.length_eq_zero_iff.1 hn
    have q := AnyF.slices_SortFunc_none Tryz.laysSlF06_f42 none 0 (.func (.func 43) #[] #[]) W
    rw [hn2]
    refine q.mono ?_
    rintro e' w' ⟨rfl, rfl⟩
    rw [e]
    exact ⟨rfl, [], List.Perm.refl _, List.Pairwise.nil, Row.nil _, rfl, rfl, rfl, Nat.le_refl _, fun _ _ _ => rfl⟩
  · simp only [Value.slice.injEq] at hv
    obtain ⟨rfl, _, rfl⟩ := hv
    exact sortP_any hM hb hB H (by omega)
end Ac
end Go.Proofs.YthdofbjijpghfaaGreatDoor
