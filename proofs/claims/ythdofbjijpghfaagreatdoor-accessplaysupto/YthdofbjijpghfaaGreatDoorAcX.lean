/-
  slices.SortFunc of bindings by compare, of every row.
-/
import Derived.Test.YthdofbjijpghfaaGreatDoorAcR
namespace Go.Proofs.YthdofbjijpghfaaGreatDoor
open Go.RowKit Go.Sort Go.Lib
namespace Ac
open L (Gd)
theorem getD_ge {α : Type} (l : List α) (k : Nat) (d : α) (h : k < l.length) : l.getD k d = l[k] := by rw [List.getD_eq_getElem?_getD, List.getElem?_eq_getElem h]; rfl
def Bv.c (x : Bv) : List Value := [.string x.1.p, .string x.1.n, .string x.1.s, .int .i64 x.1.v]
def kBv : Kd Bv := ⟨Bv.c, 4, 28, 33, 56, Bv.z⟩
theorem okBv : kBv.Ok := ⟨fun _ => rfl, by decide, fun x u hu => by simp only [kBv, Bv.c, List.mem_cons, List.not_mem_nil, or_false] at hu; rcases hu with rfl | rfl | rfl | rfl <;> rfl, Tryz.underlying33, ⟨_, (by kernel_rfl : (Tryz.prog.info? 28).map (fun i => (i.zero, i.size, i.bytes)) = some (some (.agg #[.string ⟨#[]⟩, .string ⟨#[]⟩, .string ⟨#[]⟩, .int .i64 0]), 4, 56)), rfl⟩, by decide⟩
theorem bd_size (w : World) : (Go.sizeOf 28).run Tryz.prog w = .ok 4 w := by kernel_rfl
theorem bd_agg (w : World) : (isAgg 28).run Tryz.prog w = .ok true w := by go_simp
theorem enc_get (x : Bv) (j : Nat) (h : j < 4) : (kBv.c x)[j]? = some ((kBv.c x)[j]!) := by
  have hj : j = 0 ∨ j = 1 ∨ j = 2 ∨ j = 3 := by omega
  rcases hj with rfl | rfl | rfl | rfl <;> rfl
theorem get_arr (l : List Bv) (k : Nat) (h : k < l.length) : l.toArray[k]! = l.getD k kBv.z := by
  rw [getElem!_pos l.toArray k (by simpa using h), getD_ge _ _ _ h]; simp
theorem holds_of {B : Nat} {w : World} {g n cap : Nat} {l : List Bv} (H : OwnR kBv B w (.slice (some ⟨g, 0, none⟩) n cap) l) : HoldsK kBv.c 4 w g 0 l.toArray := by
  intro j hj
  rw [size_flatK] at hj
  have hj' : j < l.length * 4 := by simpa using hj
  have hk : j / 4 < l.length := by omega
  obtain ⟨b', off', e', hc⟩ := (H.row okBv).at (j / 4) hk
  simp only [Option.some.injEq, Addr.mk.injEq, and_true] at e'
  obtain ⟨rfl, rfl⟩ := e'
  rw [get_flatK _ _ _ _ hj]
  have q := hc (j % 4) _ (by rw [← get_arr l (j / 4) hk]; exact enc_get _ _ (Nat.mod_lt _ (by decide)))
  have e : 0 + j / 4 * kBv.k + j % 4 = 0 + j := by show 0 + j / 4 * 4 + j % 4 = 0 + j; omega
  rw [e] at q
  refine ⟨q, ?_⟩
  obtain ⟨_, ⟨hv, _⟩ | ⟨g', cap', cur, hv, _, hg, _⟩⟩ := H
  · cases hv
  · simp only [Value.slice.injEq, Option.some.injEq, Addr.mk.injEq, and_true] at hv
    obtain ⟨rfl, _⟩ := hv
    simp [World.frozen?, hg]
theorem row_holds {w : World} {g cap : Nat} {d : Array Bv} (h : HoldsK kBv.c 4 w g 0 d) (hc : d.size ≤ cap) (hm : cap ≤ maxLen) : Row kBv w (.slice (some ⟨g, 0, none⟩) d.size cap) d.toList := by
  refine ⟨some ⟨g, 0, none⟩, cap, by simp, by simpa using hc, hm, (fun q => by cases q), fun k hk => ⟨g, 0, rfl, fun j y hy => ?_⟩⟩
  have hk' : k < d.size := by simpa using hk
  have hj : j < 4 := by
    rcases Nat.lt_or_ge j 4 with q | q
    · exact q
    · rw [List.getElem?_eq_none (by show 4 ≤ j; exact q)] at hy; cases hy
  have q := (h (k * 4 + j) (by rw [size_flatK]; omega)).1
  rw [get_flatK _ _ _ _ (by omega), show (k * 4 + j) / 4 = k by omega, show (k * 4 + j) % 4 = j by omega] at q
  have e : d[k]! = d.toList.getD k kBv.z := by
    rw [getElem!_pos d k hk', getD_ge _ _ _ hk]; simp
  rw [e] at q
  have e2 : (kBv.c (d.toList.getD k kBv.z))[j]! = y := by
    have q2 := enc_get (d.toList.getD k kBv.z) j hj
    rw [hy] at q2
    injection q2 with q2
    exact q2.symm
  rw [e2] at q
  rw [Nat.add_assoc]; exact q
theorem sort_grown (w : World) (g m : Nat) (d : Array Bv) (os : Array Obj) : w.grownBy (sortWorldK kBv.c 4 w g 0 m d os) (some g) := by
  refine ⟨rfl, rfl, rfl, ?_, fun k hk hn => ?_⟩
  · unfold sortWorldK grow putRowK putRow mapBlock Go.Sort.ahead; simp
  · unfold sortWorldK grow putRowK putRow mapBlock Go.Sort.ahead
    simp only [Array.getElem?_append, Array.size_modify]
    rw [if_pos hk, Array.getElem?_modify, if_neg (fun e => hn (by rw [e]))]
/-- The row rises. -/
def RisV (S : List Bv) : Prop := S.Pairwise fun x y => ltOf cV y x = false
theorem sort_any {w0 : World} (hM : L.HasM w0) {w : World} (hbw : RowKit.Below w0.heap.size w0 w) {g n cap : Nat} {l : List Bv} (H : OwnR kBv w0.heap.size w (.slice (some ⟨g, 0, none⟩) n cap) l) (hl : l.length < 4611686018427387904) :
    Calls Tryz.prog 24 #[.slice (some ⟨g, 0, none⟩) n cap, .func (.func 25) #[] #[]] w fun e w' => e = .returned (.tuple #[]) ∧ ∃ S : List Bv, S.Perm l ∧ RisV S ∧ Row kBv w' (.slice (some ⟨g, 0, none⟩) n cap) S ∧ w.grownBy w' (some g) := by
  have hn : n = l.length := by obtain ⟨_, _, e⟩ := H.slice; simp only [Value.slice.injEq] at e; exact e.2.1
  obtain ⟨_, _, e1, hc, hm⟩ := (H.row okBv).len
  simp only [Value.slice.injEq] at e1
  rw [← e1.2.2] at hc hm
  have hg : g < w.heap.size := (H.lt g rfl).2
  have hg0 : w0.heap.size ≤ g := (H.lt g rfl).1
  have hh := holds_of H
  have hcmp : CmpLays Tryz.prog 25 #[] kBv.c 4 cV g 0 l.toArray.size w := fun m os dk _ x y => by
    have gb := sort_grown w g m dk os
    have b1 : RowKit.Below w0.heap.size w0 (sortWorldK kBv.c 4 w g 0 m dk os) := hbw.trans ((RowKit.Below.refl _ w).grown gb hbw.size (fun k e => by cases e; exact hg0))
    refine (compare_any x.1 y.1 _ (hM.below b1)).mono ?_
    rintro e w' ⟨rfl, h⟩
    exact ⟨rfl, Gd.grow h⟩
  have key := Tryz.slices_SortFunc 4 bd_agg bd_size kBv.c (fun _ => rfl) okBv.one cV swoV 25 #[] g 0 cap l.toArray w (enters_of Tryz.func25 (by kernel_rfl) rfl) hcmp hh hg (by simpa using hl)
  have es : l.toArray.size = n := by rw [hn]; simp
  rw [es] at key
  refine key.mono ?_
  rintro e w' ⟨rfl, d', m, os, hp, hs, rfl⟩
  have hsz : d'.size = n := by rw [hp.1, es]
  refine ⟨rfl, d'.toList, ?_, ?_, ?_, sort_grown w g m d' os⟩
  · have q := hp.2.2
    have e1 : d'.extract 0 n = d' := by rw [← hsz]; simp
    have e2 : l.toArray.extract 0 n = l.toArray := by rw [← es]; simp
    rw [e1, e2] at q
    exact q
  · refine List.pairwise_iff_getElem.2 (fun i j hi hj hij => ?_)
    have hj' : j < n := by rw [← hsz]; simpa using hj
    have hi' : i < d'.size := by simpa using hi
    have q := hs i j (Nat.zero_le _) hij hj'
    rw [getElem!_pos d' j (by simpa using hj), getElem!_pos d' i hi'] at q
    simpa using q
  · have h1 : HoldsK kBv.c 4 (putRowK kBv.c 4 (Sort.ahead w m) g 0 d') g 0 d' := holdsK_putRowK kBv.c 4 _ _ _ l.toArray d' (holdsK_ahead kBv.c 4 w m g 0 _ hh) (by rw [hsz, es])
    have h2 : HoldsK kBv.c 4 (sortWorldK kBv.c 4 w g 0 m d' os) g 0 d' := holdsK_grow kBv.c 4 _ os g 0 d' (by unfold putRowK putRow mapBlock Go.Sort.ahead; simpa using hg) h1
    have := row_holds h2 (cap := cap) (by rw [hsz, hn]; exact hc) hm
    rw [hsz] at this
    exact this
end Ac
end Go.Proofs.YthdofbjijpghfaaGreatDoor
