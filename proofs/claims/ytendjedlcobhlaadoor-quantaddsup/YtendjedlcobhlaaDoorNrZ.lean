/-
  Sums of lists, name by name: what Plus, Minus and Within tell of one another (pure).
-/
import Derived.Test.YtendjedlcobhlaaDoorNrY
namespace Go.Proofs.YtendjedlcobhlaaDoor
open Go.RowKit Go.Lib
theorem find_in (t : List Am) (n : ByteArray) : (findA n (toA t)).2 = true ↔ ∃ x ∈ t, x.n.data.toList = n.data.toList := by
  induction t with
  | nil => simp [toA, findA]
  | cons x r ih =>
    have e : toA (x :: r) = (x.n, x.v) :: toA r := rfl
    rw [e, findA]
    split
    · rename_i h; simp only [true_iff]; exact ⟨x, by simp, h⟩
    · rename_i h
      rw [ih]
      constructor
      · rintro ⟨y, hy, q⟩; exact ⟨y, by simp [hy], q⟩
      · rintro ⟨y, hy, q⟩
        rcases List.mem_cons.1 hy with e2 | e2
        · subst e2; exact absurd q h
        · exact ⟨y, e2, q⟩
theorem find_no {t : List Am} {n : ByteArray} (h : ¬ ∃ x ∈ t, x.n.data.toList = n.data.toList) : (findA n (toA t)).1 = 0 := by
  rw [findA_none n (toA t) (by
    intro y hy q
    unfold toA at hy
    obtain ⟨x, hx, rfl⟩ := List.mem_map.1 hy
    exact h ⟨x, hx, q⟩)]
theorem mem_ent {t : List Am} {n : List UInt8} : n ∈ (ent t).map Prod.fst ↔ ∃ x ∈ t, x.n.data.toList = n := by
  unfold ent
  rw [List.map_map, List.mem_map]
  exact Iff.rfl
theorem find_tot {t : List Am} (h : Str t) (n : ByteArray) : (findA n (toA t)).1 = Tot (ent t) n.data.toList := by
  induction t with
  | nil => rfl
  | cons x r ih =>
    have e : toA (x :: r) = (x.n, x.v) :: toA r := rfl
    have e2 : ent (x :: r) = (x.n.data.toList, x.v) :: ent r := rfl
    obtain ⟨h1, h2⟩ := List.pairwise_cons.1 h
    rw [e, e2, findA, Tot]
    simp only
    split
    · rename_i q
      rw [Tot_none (fun c => by
        obtain ⟨y, hy, qy⟩ := mem_ent.1 c
        have := h1 y hy
        rw [qy, ← q] at this
        exact List.lt_irrefl _ this)]
      simp
    · rw [ih h2]; omega
theorem ams_of {l : List Am} (h16 : l.length ≤ 16) (ha : l.all amB = true) (hs : Str l) : amsB l = true := by
  refine ams_yes h16 fun k hk => ⟨List.all_eq_true.1 ha _ (getD_in hk), fun h0 => ?_⟩
  rw [ltS_eq]
  refine decide_eq_true ?_
  have q := List.pairwise_iff_getElem.1 hs (k - 1) k (by omega) hk (by omega)
  rw [getD_ge _ _ _ (by omega), getD_ge _ _ _ hk]; exact q
theorem outL_congr {es fs : List En} (hn : ∀ n, n ∈ es.map Prod.fst ↔ n ∈ fs.map Prod.fst) (ht : ∀ n, Tot es n = Tot fs n) : outL es = outL fs := by
  have e1 : nmsOf es = nmsOf fs := nms_of_perm (ded_nodup _) (fun n => by rw [mem_ded]; exact hn n)
  unfold outL
  rw [e1]
  exact List.map_congr_left fun n _ => by rw [ht n]
theorem out_ent_names (es : List En) (n : List UInt8) : n ∈ (ent (outL es)).map Prod.fst ↔ n ∈ es.map Prod.fst := by
  rw [mem_ent, ← mem_nms]
  unfold outL
  constructor
  · rintro ⟨x, hx, rfl⟩
    obtain ⟨m, hm, rfl⟩ := List.mem_map.1 hx
    exact hm
  · intro h; exact ⟨_, List.mem_map.2 ⟨n, h, rfl⟩, rfl⟩
theorem out_str (es : List En) : Str (outL es) := by
  unfold Str outL
  rw [List.pairwise_map]
  exact (nms_rise es).imp fun h => h
theorem Tot_mem {t : List Am} (h : Str t) {x : Am} (hx : x ∈ t) : Tot (ent t) x.n.data.toList = x.v := by
  induction t with
  | nil => cases hx
  | cons y r ih =>
    obtain ⟨h1, h2⟩ := List.pairwise_cons.1 h
    have e2 : ent (y :: r) = (y.n.data.toList, y.v) :: ent r := rfl
    rw [e2, Tot]
    simp only
    rcases List.mem_cons.1 hx with e | e
    · subst e
      rw [if_pos rfl, Tot_none (fun c => by
        obtain ⟨z, hz, qz⟩ := mem_ent.1 c
        have := h1 z hz
        rw [qz] at this
        exact List.lt_irrefl _ this)]
      simp
    · have := h1 x e
      rw [if_neg (fun q => by rw [q] at this; exact List.lt_irrefl _ this), ih h2 e]; omega
theorem out_tot (es : List En) (n : List UInt8) : Tot (ent (outL es)) n = Tot es n := by
  by_cases h : n ∈ es.map Prod.fst
  · have hm : (⟨⟨n.toArray⟩, Tot es n⟩ : Am) ∈ outL es := by
      unfold outL
      exact List.mem_map.2 ⟨n, (mem_nms es n).2 h, rfl⟩
    have q := Tot_mem (out_str es) hm
    exact q
  · rw [Tot_none h, Tot_none (fun c => h ((out_ent_names es n).1 c))]
/-- Both lists stand, and Plus is not refused: what Minus and Within tell of the sum. -/
theorem plus_back {l t : List Am} (hb : bothB l t = true) (hf : ∀ x ∈ l, x.v ≤ 9223372036854775807) (he : nrE (l ++ t) = 0) :
    mnE (nrL (l ++ t)) t = 0 ∧ mnL (nrL (l ++ t)) t = (nrL (l ++ t)).map (subV t) ∧ (∀ x ∈ nrL (l ++ t), (subV t x).v = (findA x.n (toA l)).1) ∧ wiT l (nrL (l ++ t)) = ⟨#[]⟩ ∧ bothB l (nrL (l ++ t)) = true := by
  obtain ⟨h1, h2⟩ := both_of hb
  rw [amsC_zero] at h1 h2
  obtain ⟨a1, a2, a3⟩ := ams_parts h1
  obtain ⟨b1, b2, b3⟩ := ams_parts h2
  obtain ⟨c1, c2⟩ := nr_told he
  obtain ⟨d1, d2, d3, d4⟩ := nr_zero he
  have hv : ∀ x ∈ nrL (l ++ t), x.v = Tot (ent l) x.n.data.toList + Tot (ent t) x.n.data.toList := by
    intro x hx
    rw [d4] at hx
    have q := Tot_mem (out_str _) hx
    rw [out_tot, ent_app, Tot_app] at q
    exact q.symm
  have pl := fun n => Tot_pos (ent_pos (am_pos a2)) n
  have pt := fun n => Tot_pos (ent_pos (am_pos b2)) n
  have hin : ∀ x ∈ t, ∃ y ∈ nrL (l ++ t), y.n.data.toList = x.n.data.toList := by
    intro x hx
    rw [d4]
    have hm : x.n.data.toList ∈ nmsOf (ent (l ++ t)) := (mem_nms _ _).2 (mem_ent.2 ⟨x, by simp [hx], rfl⟩)
    refine ⟨⟨⟨x.n.data.toList.toArray⟩, Tot (ent (l ++ t)) x.n.data.toList⟩, ?_, rfl⟩
    unfold outL
    exact List.mem_map.2 ⟨_, hm, rfl⟩
  have ha : addN (nrL (l ++ t)) t = [] := by
    unfold addN
    rw [List.filter_eq_nil_iff.2 (fun x hx => by rw [(find_in _ _).2 (hin x hx)]; decide)]; rfl
  have hD : mnD (nrL (l ++ t)) t = nrL (l ++ t) := by unfold mnD; rw [ha, List.append_nil]
  have hB : mnB (nrL (l ++ t)) t = true := by
    unfold mnB
    rw [hD]
    refine List.all_eq_true.2 fun x hx => decide_eq_true ?_
    rw [find_tot b3, hv x hx]
    have := pl x.n.data.toList
    omega
  have hsv : ∀ x ∈ nrL (l ++ t), (subV t x).v = (findA x.n (toA l)).1 := by
    intro x hx
    unfold subV
    simp only
    rw [find_tot b3, find_tot a3, hv x hx]; omega
  have hbb : bothB (nrL (l ++ t)) t = true := by
    unfold bothB
    rw [Bool.and_eq_true]
    exact ⟨decide_eq_true ((amsC_zero _).2 c1), decide_eq_true ((amsC_zero _).2 h2)⟩
  have hS : mnS (nrL (l ++ t)) t = (nrL (l ++ t)).map (subV t) := by unfold mnS; rw [hD]
  obtain ⟨e1, e2, e3⟩ := ams_parts c1
  have hval : amsB ((nrL (l ++ t)).map (subV t)) = true := by
    refine ams_of (by rw [List.length_map]; exact e1) ?_ ?_
    · rw [List.all_map]
      refine List.all_eq_true.2 fun x hx => ?_
      show amB (subV t x) = true
      have q := List.all_eq_true.1 e2 x hx
      unfold amB at q ⊢
      rw [Bool.and_eq_true] at q ⊢
      refine ⟨decide_eq_true ?_, q.2⟩
      rw [hsv x hx, find_tot a3]
      exact pl _
    · unfold Str
      rw [List.pairwise_map]
      exact e3
  have hfit : ∀ x ∈ (nrL (l ++ t)).map (subV t), x.v ≤ 9223372036854775807 := by
    intro x hx
    obtain ⟨y, hy, rfl⟩ := List.mem_map.1 hx
    rw [hsv y hy]
    exact (find_pos (am_pos a2) hf y.n).2
  have nv := nr_valid hval hfit
  refine ⟨?_, ?_, hsv, ?_, ?_⟩
  · unfold mnE; rw [if_pos hbb, if_pos hB, hS]; exact nv.1
  · unfold mnL; rw [if_pos hbb, if_pos hB, hS]; exact nv.2
  · refine wi_none fun j hj => ?_
    have hx := getD_in (d := kAm.z) hj
    unfold overB
    refine decide_eq_false ?_
    rw [find_tot a3, hv _ hx]
    have := pt ((nrL (l ++ t)).getD j kAm.z).n.data.toList
    omega
  · unfold bothB
    rw [Bool.and_eq_true]
    exact ⟨decide_eq_true ((amsC_zero _).2 h1), decide_eq_true ((amsC_zero _).2 c1)⟩
/-- Those of the first whose names the second has. -/
def nam (l t : List Am) : List Am := l.filter fun x => (findA x.n (toA t)).2
theorem nam_app (l s t : List Am) : nam (l ++ s) t = nam l t ++ nam s t := by simp [nam]
theorem nam_len (l t : List Am) : (nam l t).length ≤ l.length := List.length_filter_le _ _
theorem nam_mem {l t : List Am} {x : Am} (h : x ∈ nam l t) : x ∈ l := (List.mem_filter.1 h).1
theorem res_empty : resB ⟨#[]⟩ = false := by rfl
theorem nam_minus {l t : List Am} (hb : bothB l t = true) (hf : ∀ x ∈ l, x.v ≤ 9223372036854775807) (hf' : ∀ x ∈ t, x.v ≤ 9223372036854775807) :
    bothB t (nam l t) = true ∧ ((mnE t (nam l t) = 0 ∧ wiT l t = ⟨#[]⟩) ∨ (mnE t (nam l t) = 1 ∧ 0 < (wiT l t).size)) := by
  obtain ⟨h1, h2⟩ := both_of hb
  rw [amsC_zero] at h1 h2
  obtain ⟨a1, a2, a3⟩ := ams_parts h1
  obtain ⟨b1, b2, b3⟩ := ams_parts h2
  have n3 : Str (nam l t) := List.Pairwise.sublist List.filter_sublist a3
  have hn : amsB (nam l t) = true := ams_of (Nat.le_trans (nam_len l t) a1) (List.all_eq_true.2 fun x hx => List.all_eq_true.1 a2 x (nam_mem hx)) n3
  have hbb : bothB t (nam l t) = true := by
    unfold bothB
    rw [Bool.and_eq_true]
    exact ⟨decide_eq_true ((amsC_zero _).2 h2), decide_eq_true ((amsC_zero _).2 hn)⟩
  have ha : addN t (nam l t) = [] := by
    unfold addN
    rw [List.filter_eq_nil_iff.2 (fun x hx => by
      have q := (List.mem_filter.1 hx).2
      rw [q]; decide)]; rfl
  have hD : mnD t (nam l t) = t := by unfold mnD; rw [ha, List.append_nil]
  have hfe : ∀ x ∈ t, (findA x.n (toA (nam l t))).1 = (findA x.n (toA l)).1 := by
    intro x hx
    by_cases q : ∃ y ∈ l, y.n.data.toList = x.n.data.toList
    · obtain ⟨y, hy, e⟩ := q
      have hy2 : y ∈ nam l t := List.mem_filter.2 ⟨hy, (find_in t y.n).2 ⟨x, hx, e.symm⟩⟩
      have e1 := find_tot n3 x.n
      have e2 := find_tot a3 x.n
      rw [← e, Tot_mem n3 hy2] at e1
      rw [← e, Tot_mem a3 hy] at e2
      rw [e1, e2]
    · rw [find_no q, find_no (fun ⟨y, hy, e⟩ => q ⟨y, nam_mem hy, e⟩)]
  refine ⟨hbb, ?_⟩
  by_cases hB : mnB t (nam l t) = true
  · left
    have hB2 : ∀ x ∈ t, (findA x.n (toA (nam l t))).1 ≤ x.v := fun x hx => of_decide_eq_true (List.all_eq_true.1 hB x (by rw [hD]; exact hx))
    have hS : mnS t (nam l t) = t.map (subV (nam l t)) := by unfold mnS; rw [hD]
    have hval : amsB (t.map (subV (nam l t))) = true := by
      refine ams_of (by rw [List.length_map]; exact b1) ?_ ?_
      · rw [List.all_map]
        refine List.all_eq_true.2 fun x hx => ?_
        show amB (subV (nam l t) x) = true
        have q := List.all_eq_true.1 b2 x hx
        unfold amB at q ⊢
        rw [Bool.and_eq_true] at q ⊢
        refine ⟨decide_eq_true ?_, q.2⟩
        have := hB2 x hx
        unfold subV
        simp only
        omega
      · unfold Str
        rw [List.pairwise_map]
        exact b3
    have hfit : ∀ x ∈ t.map (subV (nam l t)), x.v ≤ 9223372036854775807 := by
      intro x hx
      obtain ⟨y, hy, rfl⟩ := List.mem_map.1 hx
      have := hf' y hy
      have := (find_pos (t := nam l t) (fun z hz => am_pos a2 z (nam_mem hz)) (fun z hz => hf z (nam_mem hz)) y.n).1
      unfold subV
      simp only
      omega
    refine ⟨?_, ?_⟩
    · unfold mnE; rw [if_pos hbb, if_pos hB, hS]; exact (nr_valid hval hfit).1
    · refine wi_none fun j hj => ?_
      have hx := getD_in (d := kAm.z) hj
      unfold overB
      refine decide_eq_false ?_
      have := hB2 _ hx
      rw [hfe _ hx] at this
      omega
  · right
    refine ⟨by unfold mnE; rw [if_pos hbb, if_neg hB], ?_⟩
    have hex : ∃ x ∈ t, x.v < (findA x.n (toA l)).1 := by
      refine Classical.byContradiction fun c => hB ?_
      unfold mnB
      rw [hD]
      refine List.all_eq_true.2 fun x hx => decide_eq_true ?_
      rw [hfe x hx]
      exact Int.not_lt.1 fun q => c ⟨x, hx, q⟩
    have hs : (t.find? (overB l)).isSome = true := by
      rw [List.find?_isSome]
      obtain ⟨x, hx, q⟩ := hex
      exact ⟨x, hx, decide_eq_true q⟩
    obtain ⟨y, hy⟩ := Option.isSome_iff_exists.1 hs
    have hm := List.mem_of_find?_eq_some hy
    unfold wiT
    rw [hy]
    show 0 < y.n.size
    have q := List.all_eq_true.1 b2 y hm
    unfold amB at q
    rw [Bool.and_eq_true] at q
    rcases Nat.eq_zero_or_pos y.n.size with z | z
    · have e : y.n = ⟨#[]⟩ := by
        have : y.n.data.size = 0 := z
        have e2 : y.n.data = #[] := Array.eq_empty_of_size_eq_zero this
        cases hh : y.n; rw [hh] at e2; simp only at e2; rw [e2]
      rw [e, res_empty] at q
      exact absurd q.2 (by decide)
    · exact z
/-- Three lists, added up in two ways. -/
theorem plus_three {l t s : List Am} (h1 : plE l t = 0) (h2 : plE (plL l t) s = 0) (h3 : plE t s = 0) (h4 : plE l (plL t s) = 0) : plL (plL l t) s = plL l (plL t s) := by
  have key : ∀ {a b : List Am}, plE a b = 0 → bothB a b = true ∧ nrE (a ++ b) = 0 ∧ plL a b = outL (ent (a ++ b)) := by
    intro a b h
    unfold plE at h
    split at h
    · rename_i q
      refine ⟨q, h, ?_⟩
      unfold plL
      rw [if_pos q]
      exact (nr_zero h).2.2.2
    · omega
  obtain ⟨-, -, e1⟩ := key h1
  obtain ⟨-, -, e2⟩ := key h2
  obtain ⟨-, -, e3⟩ := key h3
  obtain ⟨-, -, e4⟩ := key h4
  rw [e2, e4, e1, e3]
  refine outL_congr (fun n => ?_) (fun n => ?_)
  · simp only [ent_app, List.map_append, List.mem_append, out_ent_names]
    constructor
    · rintro ((h | h) | h)
      · exact Or.inl h
      · exact Or.inr (Or.inl h)
      · exact Or.inr (Or.inr h)
    · rintro (h | h | h)
      · exact Or.inl (Or.inl h)
      · exact Or.inl (Or.inr h)
      · exact Or.inr h
  · simp only [ent_app, Tot_app, out_tot]; omega
theorem nr_perm' {l t : List Am} (h : t.Perm l) : nrE t = nrE l ∧ nrL t = nrL l := by
  have h1 : t.all amB = l.all amB := h.all_eq
  have h2 : Ov (ent t) ↔ Ov (ent l) := Ov_perm (ent_perm h)
  have h3 : outL (ent t) = outL (ent l) := outL_perm (ent_perm h)
  have h4 : (nmsOf (ent t)).length = (nmsOf (ent l)).length := by rw [← out_len, h3, out_len]
  unfold nrE nrL
  rw [h1, h3, h4]
  by_cases q : Ov (ent l)
  · have q2 := h2.2 q
    simp only [q, q2]; exact ⟨trivial, trivial⟩
  · have q2 : ¬ Ov (ent t) := fun c => q (h2.1 c)
    simp only [q, q2]; exact ⟨trivial, trivial⟩
theorem plus_comm {l t : List Am} : plE t l = plE l t ∧ plL t l = plL l t := by
  have hb : bothB t l = bothB l t := by unfold bothB; rw [Bool.and_comm]
  have hp := nr_perm' (l := l ++ t) (t := t ++ l) List.perm_append_comm
  unfold plE plL
  rw [hb, hp.1, hp.2]; exact ⟨rfl, rfl⟩
theorem plus_told (l t : List Am) : (plL l t).length ≤ 16 ∧ (∀ x ∈ plL l t, x.v ≤ 9223372036854775807) ∧ (plE l t ≠ 0 → plL l t = []) := by
  by_cases h : plE l t = 0
  · have h' := h
    unfold plE at h
    split at h
    · rename_i q
      have e : plL l t = nrL (l ++ t) := by unfold plL; rw [if_pos q]
      have q2 := nr_told h
      rw [e]
      exact ⟨(ams_parts q2.1).1, q2.2, fun c => absurd h' c⟩
    · omega
  · have e : plL l t = [] := by
      unfold plE at h
      unfold plL
      split
      · rename_i q
        rw [if_pos q] at h
        unfold nrE at h
        unfold nrL
        repeat' split
        all_goals first | rfl | (simp_all; done)
      · rfl
    rw [e]
    exact ⟨by simp, (fun x hx => by cases hx), fun _ => rfl⟩
theorem plus_no {l t : List Am} (h : bothB l t = false) : plE l t = 31 ∧ plL l t = [] := by unfold plE plL; rw [h]; exact ⟨rfl, rfl⟩
theorem plus_yes {l t : List Am} (h : bothB l t = true) : plE l t = nrE (l ++ t) ∧ plL l t = nrL (l ++ t) := by unfold plE plL; rw [h]; exact ⟨rfl, rfl⟩
end Go.Proofs.YtendjedlcobhlaaDoor
