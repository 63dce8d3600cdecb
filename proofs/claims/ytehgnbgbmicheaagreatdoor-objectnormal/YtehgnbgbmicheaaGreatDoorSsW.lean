/-
  slices.stableCmpFunc of a row of the call's own, of any kind of element: a rising list, equals in their order.
-/
import Derived.Test.YtehgnbgbmicheaaGreatDoorSsG
import Derived.Test.YtehgnbgbmicheaaGreatDoorSsH
import Derived.Test.YtehgnbgbmicheaaGreatDoorNrE
import Derived.Shelf.SlSortCmp.PdqK
namespace Go.Proofs.YtehgnbgbmicheaaGreatDoor
open Go.Shelf Go.RowKit Go.Lib Go.Sort
namespace Ss
section
variable {α : Type} {K : Kd α}
/-- An element with its number. -/
def tg (l : List α) : List (α × Nat) := l.zipIdx
def enT (K : Kd α) (x : α × Nat) : List Value := K.c x.1
abbrev inT (K : Kd α) : Inhabited (α × Nat) := ⟨(K.z, 0)⟩
theorem tg_len (l : List α) : (tg l).length = l.length := by simp [tg]
theorem tg_fst (l : List α) : (tg l).map Prod.fst = l := by simp [tg]
theorem cell_get (ok : K.Ok) (x : α) (j : Nat) (h : j < K.k) : (K.c x)[j]? = some ((K.c x)[j]!) := by
  rw [List.getElem?_eq_getElem (by rw [ok.len]; exact h), getElem!_pos (K.c x) j (by rw [ok.len]; exact h)]
theorem tg_get (l : List α) (k : Nat) (h : k < l.length) : letI := inT K; (tg l).toArray[k]! = (l.getD k K.z, k) := by
  letI := inT K
  have h2 : k < (tg l).toArray.size := by simpa [tg] using h
  rw [getElem!_pos (tg l).toArray k h2]
  simp [tg, List.getD_eq_getElem?_getD, List.getElem?_eq_getElem h]
theorem holds_of (ok : K.Ok) {B : Nat} {w : World} {g n cap : Nat} {l : List α} (H : OwnR K B w (.slice (some ⟨g, 0, none⟩) n cap) l) : letI := inT K; HoldsK (enT K) K.k w g 0 (tg l).toArray := by
  letI := inT K
  intro j hj
  rw [size_flatK] at hj
  have hj' : j < l.length * K.k := by simpa [tg] using hj
  have hk : j / K.k < l.length := Nat.div_lt_of_lt_mul (by rw [Nat.mul_comm]; exact hj')
  obtain ⟨b', off', e', hc⟩ := (H.row ok).at (j / K.k) hk
  simp only [Option.some.injEq, Addr.mk.injEq, and_true] at e'
  obtain ⟨rfl, rfl⟩ := e'
  rw [get_flatK _ _ _ _ hj, tg_get l _ hk]
  have q := hc (j % K.k) _ (cell_get ok _ _ (Nat.mod_lt _ ok.pos))
  have e : 0 + j / K.k * K.k + j % K.k = 0 + j := by rw [Nat.zero_add, Nat.zero_add, Nat.mul_comm]; exact Nat.div_add_mod j K.k
  rw [e] at q
  refine ⟨q, ?_⟩
  obtain ⟨_, ⟨hv, _⟩ | ⟨g', cap', cur, hv, _, hg, _⟩⟩ := H
  · cases hv
  · simp only [Value.slice.injEq, Option.some.injEq, Addr.mk.injEq, and_true] at hv
    obtain ⟨rfl, _⟩ := hv
    simp [World.frozen?, hg]
theorem row_holds (ok : K.Ok) {w : World} {g cap : Nat} {d : Array (α × Nat)} (h : letI := inT K; HoldsK (enT K) K.k w g 0 d) (hc : d.size ≤ cap) (hm : cap ≤ maxLen) : Row K w (.slice (some ⟨g, 0, none⟩) d.size cap) (d.toList.map Prod.fst) := by
  letI := inT K
  refine ⟨some ⟨g, 0, none⟩, cap, by simp, by simpa using hc, hm, (fun q => by cases q), fun k hk => ⟨g, 0, rfl, fun j y hy => ?_⟩⟩
  have hk' : k < d.size := by simpa using hk
  have hj : j < K.k := by
    rcases Nat.lt_or_ge j K.k with q | q
    · exact q
    · rw [List.getElem?_eq_none (by rw [ok.len]; exact q)] at hy; cases hy
  have hlt : k * K.k + j < d.size * K.k := by
    have := Nat.mul_le_mul_right K.k (show k + 1 ≤ d.size from hk')
    rw [Nat.add_mul, Nat.one_mul] at this
    omega
  have q := (h (k * K.k + j) (by rw [size_flatK]; exact hlt)).1
  have e1 : (k * K.k + j) / K.k = k := by rw [Nat.mul_comm, Nat.mul_add_div ok.pos, Nat.div_eq_of_lt hj]; rfl
  have e2 : (k * K.k + j) % K.k = j := by rw [Nat.mul_comm, Nat.mul_add_mod, Nat.mod_eq_of_lt hj]
  rw [get_flatK _ _ _ _ hlt, e1, e2] at q
  have e : enT K d[k]! = K.c ((d.toList.map Prod.fst).getD k K.z) := by
    rw [getElem!_pos d k hk', List.getD_eq_getElem?_getD, List.getElem?_map, List.getElem?_eq_getElem (by simpa using hk')]
    simp [enT]
  have q2 := cell_get ok ((d.toList.map Prod.fst).getD k K.z) j hj
  rw [hy] at q2
  injection q2 with q2
  rw [e, ← q2] at q
  rw [Nat.zero_add] at q ⊢
  exact q
theorem sort_grown {w : World} {g : Nat} {d : Array (α × Nat)} {W : World} (h : letI := inT K; SWK (enT K) K.k w g 0 d W) : w.grownBy W (some g) := by
  obtain ⟨m, os, rfl⟩ := h
  refine ⟨rfl, rfl, rfl, ?_, fun k hk hn => ?_⟩
  · unfold sortWorldK grow putRowK putRow mapBlock Go.Sort.ahead; simp
  · unfold sortWorldK grow putRowK putRow mapBlock Go.Sort.ahead
    simp only [Array.getElem?_append, Array.size_modify]
    rw [if_pos hk, Array.getElem?_modify, if_neg (fun e => hn (by rw [e]))]
theorem own_grown (ok : K.Ok) {B : Nat} {w w' : World} {b n cap : Nat} {l s : List α} (H : OwnR K B w (.slice (some ⟨b, 0, none⟩) n cap) l) (hr : Row K w' (.slice (some ⟨b, 0, none⟩) n cap) s)
    (hb : ∃ cs : Array Value, w'.heap[b]? = some (.cells cs K.t (0, 0)) ∧ cs.size = cap * K.k) : OwnR K B w' (.slice (some ⟨b, 0, none⟩) n cap) s := by
  obtain ⟨cur, hn, hBg, hg, hnc, hcm, hsz, _⟩ := H.parts
  obtain ⟨cs, hcs, hs⟩ := hb
  obtain ⟨a', c', e, h1, _⟩ := hr.len
  simp only [Value.slice.injEq] at e
  obtain ⟨rfl, e2, rfl⟩ := e
  rw [e2]
  refine OwnR.ofParts ok hBg hcs h1 hcm hs ?_
  apply List.ext_getElem?
  intro j
  by_cases hj : j < s.length * K.k
  · rw [List.getElem?_take_of_lt hj]
    have hk : j / K.k < s.length := Nat.div_lt_of_lt_mul (by rw [Nat.mul_comm]; exact hj)
    have hm : j % K.k < K.k := Nat.mod_lt _ ok.pos
    obtain ⟨b', off', e', hc⟩ := hr.at (j / K.k) hk
    simp only [Option.some.injEq, Addr.mk.injEq, and_true] at e'
    obtain ⟨rfl, rfl⟩ := e'
    have q := hc (j % K.k) _ (cell_get ok _ _ hm)
    have e : j / K.k * K.k + j % K.k = j := by rw [Nat.mul_comm]; exact Nat.div_add_mod j K.k
    rw [Nat.zero_add, e, cell_of_row _ _ _ _ _ _ hcs] at q
    have r := cellsR_at ok s (j / K.k) hk (j % K.k) hm
    rw [e, cell_get ok _ _ hm] at r
    rw [r, ← q, Array.getElem?_toList]
  · rw [List.getElem?_take_eq_none (by omega), List.getElem?_eq_none (by rw [cellsR_length ok]; omega)]
theorem sw_block {w : World} {g : Nat} {d : Array (α × Nat)} {W : World} (h : letI := inT K; SWK (enT K) K.k w g 0 d W) {cur : Array Value} {T : TypeId} {m : Nat × Nat} (hg : w.heap[g]? = some (.cells cur T m)) : ∃ cs : Array Value, W.heap[g]? = some (.cells cs T m) ∧ cs.size = cur.size := by
  obtain ⟨q, os, rfl⟩ := h
  have hlt : g < w.heap.size := by
    rcases Nat.lt_or_ge g w.heap.size with h | h
    · exact h
    · rw [Array.getElem?_eq_none h] at hg; cases hg
  unfold sortWorldK grow putRowK putRow mapBlock Go.Sort.ahead
  simp only [Array.getElem?_append, Array.size_modify]
  rw [if_pos hlt, Array.getElem?_modify, if_pos rfl, hg]
  exact ⟨_, rfl, by simp [putCells]⟩
/-- The order of elements, their numbers left out. -/
def cfT (cf : α → α → Int) (x y : α × Nat) : Int := cf x.1 y.1
theorem swoT {cf : α → α → Int} (h : SWO (ltOf cf)) : SWO (ltOf (cfT cf)) where
  irrefl x := h.irrefl x.1
  trans x y z h1 h2 := h.trans x.1 y.1 z.1 h1 h2
  ntrans x y z h1 h2 := h.ntrans x.1 y.1 z.1 h1 h2
/-- What a stable sort leaves: a list with numbers, rising, equals by their numbers. -/
def Std (cf : α → α → Int) (l : List α) (D : List (α × Nat)) : Prop := D.Perm (tg l) ∧ D.Pairwise (Rx (ltOf (cfT cf)) Prod.snd)
theorem stable_row (ok : K.Ok) (ρ : Nms) (ft : FuncId) (L : Ld Tryz.prog ρ K.k) (FT : Bears Tryz.prog ft (staB ρ)) (FM : Bears Tryz.prog ρ.fm (merB ρ)) (FR : Bears Tryz.prog ρ.fr (rotB ρ)) (FS : Bears Tryz.prog ρ.fs (swapB ρ))
    (ρ' : Ren) (LI : SlLaysF0.n20 Tryz.prog ρ') (ei : ρ'.f 20 = ρ.fi) (eE : ρ'.t 24 = ρ.tE) (fi : Enters Tryz.prog ρ.fi) (cf : α → α → Int) (hS : SWO (ltOf cf)) (g : Nat) (eg : Enters Tryz.prog g)
    (hcmp : ∀ x y W, Calls Tryz.prog g #[.agg (K.c x).toArray, .agg (K.c y).toArray] W fun e w' => e = .returned (.int .i64 (cf x y)) ∧ ∃ q os, w' = grow (W.drewN q) os)
    {B : Nat} {w : World} {b n cap : Nat} {l : List α} (H : OwnR K B w (.slice (some ⟨b, 0, none⟩) n cap) l) (hl : l.length < 1152921504606846976) :
    Calls Tryz.prog ft #[.slice (some ⟨b, 0, none⟩) n cap, .int .i64 n, .func (.func g) #[] #[]] w fun e w' => e = .returned (.tuple #[]) ∧ ∃ D, Std cf l D ∧ OwnR K B w' (.slice (some ⟨b, 0, none⟩) n cap) (D.map Prod.fst) ∧ w.grownBy w' (some b) := by
  letI := inT K
  have hn : n = l.length := by obtain ⟨_, _, e⟩ := H.slice; simp only [Value.slice.injEq] at e; exact e.2.1
  obtain ⟨_, _, e1, hc, hm⟩ := (H.row ok).len
  simp only [Value.slice.injEq] at e1
  rw [← e1.2.2] at hc hm
  have hg : b < w.heap.size := (H.lt b rfl).2
  have hh := holds_of ok H
  have hsz : (tg l).toArray.size = n := by rw [hn]; simp [tg]
  have R : RowK (enT K) K.k w b 0 (tg l).toArray := ⟨fun x => ok.len x.1, fun x => ok.one x.1, hh, hg⟩
  have hC : CmpLays Tryz.prog g #[] (enT K) K.k (cfT cf) b 0 (tg l).toArray.size w := fun m os dk _ x y => hcmp x.1 y.1 _
  have h0 : ∀ i j, i < j → j < n → ((tg l).toArray[i]!).2 < ((tg l).toArray[j]!).2 := fun i j hij hj => by
    rw [tg_get l i (by omega), tg_get l j (by omega)]; exact hij
  have key := stable_any ρ ft K.k L FT (enT K) (cfT cf) Prod.snd (swoT hS) g #[] b 0 cap n (tg l).toArray w hsz (by omega) h0 fi (FM.enters rfl)
    (fun x y d W hd S h1 h2 => by
      have q := AnyQ.insertionSortCmpFunc_w LI K.k (by rw [eE]; exact L.aE) (by rw [eE]; exact L.zE) (enT K) (cfT cf) g #[] b 0 cap x y (tg l).toArray d w W eg hC R (by omega) S (swoT hS) h1 (by omega) (by omega)
      rw [ei, hd] at q
      exact q)
    (fun x m y h1 h2 h3 => mer_any ρ K.k L FM FR FS (enT K) (cfT cf) Prod.snd (swoT hS) g #[] eg b 0 cap n (tg l).toArray w R hsz hC (by omega) (y - x + 1) x m y (by omega) h1 h2 h3) w (SWK.start hh)
  refine key.mono ?_
  rintro e w' ⟨rfl, d', hmg, hS'⟩
  have hd : d'.size = n := hmg.1.1.trans hsz
  refine ⟨rfl, d'.toList, ⟨?_, ?_⟩, ?_, sort_grown hS'⟩
  · have q := hmg.1.2.2
    have e1 : d'.extract 0 n = d' := by rw [← hd]; simp
    have e2 : (tg l).toArray.extract 0 n = (tg l).toArray := by rw [← hsz]; simp
    rw [e1, e2] at q
    exact q
  · refine List.pairwise_iff_getElem.2 (fun i j hi hj hij => ?_)
    have hj' : j < d'.size := by simpa using hj
    have hi' : i < d'.size := by simpa using hi
    have q := hmg.2 i j (Nat.zero_le _) hij (by omega)
    rw [getElem!_pos d' j hj', getElem!_pos d' i hi'] at q
    simpa using q
  · have q := row_holds ok (hS'.holds hg hh (by omega)) (cap := cap) (by rw [hd, hn]; exact hc) hm
    rw [hd] at q
    obtain ⟨cur, _, _, hgc, _, _, hcs, _⟩ := H.parts
    obtain ⟨cs, z1, z2⟩ := sw_block hS' hgc
    exact own_grown ok H q ⟨cs, z1, z2.trans hcs⟩
end
end Ss
end Go.Proofs.YtehgnbgbmicheaaGreatDoor
