/-
  LeX, LeY, joined.
-/
import Derived.Test.YtodfmnbfbndkhaaGreatDoorLeSm
import Derived.Test.YtodfmnbfbndkhaaGreatDoorLeC
import Derived.Test.YtodfmnbfbndkhaaGreatDoorLeK
section S0
namespace Go.Proofs.YtodfmnbfbndkhaaGreatDoor
open Go.RowKit Go.Sort
namespace Le
variable {D D' : DataW Unit} {f : Ky → Int} {S S' : List Ur}
theorem name_nz {s : ByteArray} (h : L.nameB s = true) : ∀ b ∈ s.data.toList, b ≠ 0 := by
  intro b hb e
  subst e
  unfold L.nameB at h
  simp only [Bool.and_eq_true, List.all_eq_true] at h
  obtain ⟨i, hi, he⟩ := List.getElem_of_mem hb
  have hlt : i < s.size := by simpa using hi
  have q := h.2 i (List.mem_range.2 hlt)
  unfold L.okAt at q
  have e1 : s.get! i = 0 := by
    rw [L.get_lit s i hlt, ← he]
    simp [ByteArray.getElem_eq_getElem_data]
  rw [e1] at q
  simp [L.plainN] at q
theorem path_nz : ∀ {ts : List ByteArray}, ts.all L.nameB = true → ∀ b ∈ L.pathOf ts, b ≠ 0
  | [], _, b, h => by simp [L.pathOf] at h
  | t :: r, hg, b, h => by
    simp only [List.all_cons, Bool.and_eq_true] at hg
    rw [L.pathOf_cons, List.mem_cons, List.mem_append] at h
    rcases h with rfl | h | h
    · decide
    · exact name_nz hg.1 b h
    · exact path_nz hg.2 b h
theorem pth_nz {ts : List ByteArray} (hg : ts.all L.nameB = true) (hn : (L.pathL ts).length ≤ 64) : NZ (L.pth ts) := by
  refine ⟨by rw [L.pth_size]; omega, fun b hb => ?_⟩
  rw [L.pth_data] at hb
  by_cases e : ts = []
  · subst e
    unfold L.pathL at hb
    simp at hb
    subst hb
    decide
  · rw [L.pathL_ne e] at hb
    exact path_nz hg b hb
theorem line_nz {p q : ByteArray} (h : q ∈ lineP p) : NZ q := by
  have hs := (lineP_size p).2 q h
  unfold lineP at h
  split at h
  · rename_i ts he
    have hg := (L.splitO_some he).2
    unfold L.lineOf L.lineTo at h
    simp only [List.mem_map, List.mem_range] at h
    obtain ⟨j, _, rfl⟩ := h
    rw [L.pth_size] at hs
    refine pth_nz ?_ hs
    have hg1 := hg.1
    rw [List.all_eq_true] at hg1 ⊢
    exact fun x hx => hg1 x (List.mem_of_mem_take hx)
  · simp at h
/-- What is not 0 stands at a path. -/
def VF (f : Ky → Int) : Prop := ∀ x, f x ≠ 0 → NZ x.p
theorem VF.nil : VF fun _ => 0 := fun _ h => absurd rfl h
theorem in_iff (R : Rep D f) (u : Us) : InD D u ↔ (f u.x = u.v ∧ u.v ≠ 0) := by
  constructor
  · rintro ⟨h1, h2⟩
    exact R.at h2 u.v h1
  · rintro ⟨h1, h2⟩
    have hx : u.x.Fit := Classical.byContradiction fun q => h2 (by rw [← h1]; exact R.out _ q)
    exact ⟨fun zd => by rw [R.val u.x hx (by rw [h1]; exact h2), h1], hx⟩
theorem vl_of (R : Rep D f) (V : VF f) : Vl D := fun u h => by
  have q := (in_iff R u).1 h
  exact V u.x (by rw [q.1]; exact q.2)
theorem key_inj {x y : Ur} (h1 : (key x).1 = (key y).1) (h2 : (key x).2 = (key y).2) : x.1.x = y.1.x := by
  unfold key at h1 h2
  simp only [List.cons.injEq, and_true] at h1 h2
  obtain ⟨a, b, c⟩ := h1
  have e1 := map_fB_inj x.2.z y.2.z a
  obtain ⟨⟨⟨xp, xk, xa, xr⟩, xv⟩, hx⟩ := x
  obtain ⟨⟨⟨yp, yk, ya, yr⟩, yv⟩, hy⟩ := y
  simp only at e1 b c h2
  simp only [Ky.mk.injEq]
  exact ⟨ByteArray.ext (Array.ext' e1), b, c, ByteArray.ext (Array.ext' h2)⟩
theorem not_lt_key {x y : Ur} (h : ltOf cR y x = false) (k : ltOf cR x y = false) : x.1.x = y.1.x := by
  rw [lt_cR] at h k
  have a := of_decide_eq_false h
  have b := of_decide_eq_false k
  have a1 := List.not_lt.1 (fun h => a (Or.inl h))
  have b1 := List.not_lt.1 (fun h => b (Or.inl h))
  have e1 : (key x).1 = (key y).1 := List.le_antisymm a1 b1
  have a2 := List.not_lt.1 (fun h => a (Or.inr ⟨e1.symm, h⟩))
  have b2 := List.not_lt.1 (fun h => b (Or.inr ⟨e1, h⟩))
  exact key_inj e1 (List.le_antisymm a2 b2)
theorem li_mem (H : Li D S) (R : Rep D f) (a : Ur) : a ∈ S ↔ (f a.1.x = a.1.v ∧ a.1.v ≠ 0) := by
  rw [← in_iff R a.1, ← H.m]
  exact ⟨fun h => ⟨a, h, rfl⟩, fun ⟨y, h, e⟩ => by rw [← Subtype.ext e]; exact h⟩
theorem li_nodup (H : Li D S) : S.Nodup := H.d.imp fun h e => h (by rw [e])
/-- The rows of the same sums are the same. -/
theorem rows_eq (H : Li D S) (H' : Li D' S') (R : Rep D f) (R' : Rep D' f) : S = S' := by
  have hp : S.Perm S' := (List.perm_ext_iff_of_nodup (li_nodup H) (li_nodup H')).2 fun a => by rw [li_mem H R, li_mem H' R']
  refine hp.eq_of_pairwise (le := fun x y => ltOf cR y x = false) (fun a b ha hb h1 h2 => ?_) H.r H'.r
  have e := not_lt_key h1 h2
  have va := (li_mem H R a).1 ha
  have vb := (li_mem H' R' b).1 hb
  refine Subtype.ext ?_
  obtain ⟨⟨ax, av⟩, az⟩ := a
  obtain ⟨⟨bx, bv⟩, bz⟩ := b
  simp only at e va vb ⊢
  subst e
  rw [← va.1, ← vb.1]
theorem rows_none (H : Li D S) (R : Rep D fun _ => 0) : S = [] := by
  refine List.eq_nil_iff_forall_not_mem.2 fun a ha => ?_
  have := (li_mem H R a).1 ha
  exact this.2 this.1.symm
theorem rows_len (H : Li D S) (R : Rep D f) {ks : List Ky} (hn : ks.Nodup) (hk : ∀ x, f x ≠ 0 ↔ x ∈ ks) : S.length = ks.length := by
  have h1 : (S.map fun u => u.1.x).Nodup := by
    rw [List.Nodup, List.pairwise_map]
    exact H.d.imp fun h e => h (by rw [e])
  have h2 : (S.map fun u => u.1.x).Perm ks := (List.perm_ext_iff_of_nodup h1 hn).2 fun x => by
    rw [← hk, List.mem_map]
    constructor
    · rintro ⟨a, ha, rfl⟩
      have := (li_mem H R a).1 ha
      rw [this.1]
      exact this.2
    · intro hx
      obtain ⟨y, hy, e⟩ := (H.m ⟨x, f x⟩).2 ((in_iff R _).2 ⟨rfl, hx⟩)
      exact ⟨y, hy, by rw [e]⟩
  have := h2.length_eq
  rwa [List.length_map] at this
theorem mv_yes {c : Bool} {o : Ob} (h : mvE c f o = 0) : shE o = 0 ∧ chk c f (shR o) = 0 ∧ mvF c f o = app c f (shR o) := by
  have q := h
  unfold mvE at q
  split at q
  · rename_i n; exact absurd q n
  · rename_i n
    exact ⟨by simpa using n, q, by unfold mvF; rw [if_pos h]⟩
theorem mv_no {c : Bool} {o : Ob} (h : mvE c f o ≠ 0) : mvF c f o = f := by unfold mvF; rw [if_neg h]
theorem mv_at {c : Bool} {o : Ob} (hz : PSz o.ps) (h : mvE c f o = 0) (x : Ky) : mvF c f o x = f x + sg c * shv (shR o) x := by
  obtain ⟨_, h2, h3⟩ := mv_yes h
  rw [h3]
  exact app_eq (shOk_any o hz).nd h2 x
theorem shv_at {o : Ob} {x : Ky} (h : shv (shR o) x ≠ 0) : x.p ∈ lineP o.p := by
  have : x ∈ (shR o).map Prod.fst := Classical.byContradiction fun q => h (shv_no q)
  obtain ⟨e, he, rfl⟩ := List.mem_map.1 this
  obtain ⟨p, hp, s, hs, u, hu, rfl⟩ := mem_shL.1 he
  exact hp
theorem VF.mv (V : VF f) {c : Bool} {o : Ob} (hz : PSz o.ps) : VF (mvF c f o) := by
  intro x hx
  by_cases h : mvE c f o = 0
  · rw [mv_at hz h] at hx
    by_cases h1 : f x = 0
    · refine line_nz (p := o.p) (shv_at (fun q => hx ?_))
      rw [h1, q]
      simp
    · exact V x h1
  · rw [mv_no h] at hx
    exact V x hx
/-- What was charged may be released: then all is as it was. -/
theorem mv_back {o : Ob} (hz : PSz o.ps) (hf : ∀ x, 0 ≤ f x) (h : mvE true f o = 0) : mvE false (mvF true f o) o = 0 ∧ mvF false (mvF true f o) o = f := by
  obtain ⟨h1, _, _⟩ := mv_yes h
  have key : mvE false (mvF true f o) o = 0 := by
    unfold mvE
    rw [if_neg (by simp [h1])]
    refine chk_zero.2 fun e he => ?_
    rw [mv_at hz h, shv_mem (shOk_any o hz).nd he]
    have := hf e.1
    unfold bec sg
    rw [if_neg (by decide), if_pos rfl, if_neg (by omega)]
  refine ⟨key, ?_⟩
  funext x
  rw [mv_at hz key, mv_at hz h]
  unfold sg
  simp
  omega
theorem mv_first {o : Ob} (hz : PSz o.ps) (h : shE o = 0) : mvE true (fun _ => 0) o = 0 := by
  unfold mvE
  rw [if_neg (by simp [h])]
  refine chk_zero.2 fun e he => ?_
  have := ((shOk_any o hz).ok e he).2
  unfold bec
  rw [if_pos rfl, if_neg (by omega)]
end Le
end Go.Proofs.YtodfmnbfbndkhaaGreatDoor
end S0

section S1
namespace Go.Proofs.YtodfmnbfbndkhaaGreatDoor
open Go.RowKit Go.Sort
namespace Le
def tCpu : ByteArray := ⟨#[99, 112, 117]⟩
def tRc : ByteArray := ⟨#[114, 101, 113, 117, 101, 115, 116, 115, 46, 99, 112, 117]⟩
def dA : List ByteArray := [⟨#[97]⟩, ⟨#[98]⟩]
def dPth : ByteArray := ⟨#[47, 97, 47, 98]⟩
def dP : List Pt := [⟨⟨#[112]⟩, [⟨tCpu, 500⟩], []⟩]
def dO : Ob := ⟨dPth, ⟨#[]⟩, [], 0, 0, dP, 0⟩
theorem d_es : obEs dP = [(tCnt.data.toList, 1000), (tRc.data.toList, 500)] := by decide
theorem d_nms : nmsOf (obEs dP) = [tCnt.data.toList, tRc.data.toList] := by
  rw [← nms_of_perm (es := obEs dP) (ss := [tCnt.data.toList, tRc.data.toList]) (by decide) (fun n => by rw [d_es]; simp)]
  exact List.mergeSort_of_pairwise (by decide)
theorem d_uses : usesE dP = 0 ∧ usesL dP = [⟨tCnt, 1000⟩, ⟨tRc, 500⟩] := by
  have hneg : onegB dP = false := by decide
  have hov : ¬ Ov (obEs dP) := by
    rintro ⟨n, hn⟩
    rw [d_es] at hn
    simp only [Tot, maxA] at hn
    split at hn <;> split at hn <;> omega
  unfold usesE usesL
  rw [if_neg (by rw [hneg]; decide), if_neg hov, if_neg (by rw [hneg]; decide), if_neg hov]
  refine ⟨rfl, ?_⟩
  unfold outL
  rw [d_nms]
  simp only [List.map_cons, List.map_nil]
  have e1 : Tot (obEs dP) tCnt.data.toList = 1000 := by rw [d_es]; decide
  have e2 : Tot (obEs dP) tRc.data.toList = 500 := by rw [d_es]; decide
  rw [e1, e2]
theorem d_sz : PSz dP := ⟨by rw [d_es]; decide, by
  intro p hp
  simp only [dP, List.mem_singleton] at hp
  subst hp
  refine ⟨fun x hx => ?_, fun x hx => by simp at hx⟩
  simp only [List.mem_cons, List.not_mem_nil, or_false] at hx
  subst hx
  exact ⟨by decide, by decide, by decide⟩⟩
theorem d_good : L.Good dA := ⟨rfl, by decide, by decide⟩
theorem d_pth : dPth = L.pth dA := rfl
theorem d_split : L.splitO dPth = some dA := by rw [d_pth]; exact L.splitO_good d_good
theorem d_line : lineP dPth = [dPth, ⟨#[47, 97]⟩, ⟨#[47]⟩] := by
  unfold lineP
  rw [d_split]
  rfl
theorem d_can : canS dO = [(0, 0), (2, 0), (4, 0), (5, 0)] := by
  have h : onamB dP = true := by decide
  unfold canS
  show [(0, 0), (if onamB dP = true then 2 else 1, 0), _] ++ _ = _
  rw [h]
  rfl
theorem d_e : shE dO = 0 := by
  unfold shE
  have h : L.splitE dO.p = 0 := splitE_yes d_split
  rw [if_neg (by simp [h])]
  exact d_uses.1
theorem d_r : shR dO = shL [dPth, ⟨#[47, 97]⟩, ⟨#[47]⟩] [(0, 0), (2, 0), (4, 0), (5, 0)] [⟨tCnt, 1000⟩, ⟨tRc, 500⟩] := by
  unfold shR
  rw [d_can]
  show shL (lineP dPth) _ (usesL dP) = _
  rw [d_line, d_uses.2]
theorem d_len : (shR dO).length = 24 := by rw [d_r, shL_len]; rfl
noncomputable def dF : Ky → Int := mvF true (fun _ => 0) dO
theorem d_mv : mvE true (fun _ => 0) dO = 0 := mv_first d_sz d_e
theorem d_f (x : Ky) : dF x = shv (shR dO) x := by
  unfold dF
  rw [mv_at d_sz d_mv]
  simp [sg]
theorem d_used : dF ⟨⟨#[47, 97]⟩, 0, 0, tRc⟩ = 500 := by
  rw [d_f]
  have h : (⟨⟨#[47, 97]⟩, 0, 0, tRc⟩, 500) ∈ shR dO := by
    rw [d_r]
    exact mem_shL.2 ⟨_, by simp, (0, 0), by simp, ⟨tRc, 500⟩, by simp, rfl⟩
  exact shv_mem (shOk_any dO d_sz).nd h
theorem d_count : dF ⟨⟨#[47]⟩, 0, 0, tCnt⟩ = 1000 := by
  rw [d_f]
  have h : (⟨⟨#[47]⟩, 0, 0, tCnt⟩, 1000) ∈ shR dO := by
    rw [d_r]
    exact mem_shL.2 ⟨_, by simp, (0, 0), by simp, ⟨tCnt, 1000⟩, by simp, rfl⟩
  exact shv_mem (shOk_any dO d_sz).nd h
theorem d_keys (x : Ky) : dF x ≠ 0 ↔ x ∈ (shR dO).map Prod.fst := by
  rw [d_f]
  constructor
  · exact fun h => Classical.byContradiction fun q => h (shv_no q)
  · intro h
    obtain ⟨e, he, rfl⟩ := List.mem_map.1 h
    rw [shv_mem (shOk_any dO d_sz).nd he]
    rw [d_r] at he
    obtain ⟨p, _, s, _, u, hu, rfl⟩ := mem_shL.1 he
    simp only [List.mem_cons, List.not_mem_nil, or_false] at hu
    rcases hu with rfl | rfl <;> simp
theorem d_rows {D : DataW Unit} {S : List Ur} (H : Li D S) (R : Rep D dF) : S.length = 24 := by
  rw [rows_len H R (shOk_any dO d_sz).nd d_keys, List.length_map, d_len]
theorem d_back : mvE false dF dO = 0 ∧ mvF false dF dO = fun _ => 0 := mv_back d_sz (fun _ => Int.le_refl _) d_mv
end Le
end Go.Proofs.YtodfmnbfbndkhaaGreatDoor
end S1
