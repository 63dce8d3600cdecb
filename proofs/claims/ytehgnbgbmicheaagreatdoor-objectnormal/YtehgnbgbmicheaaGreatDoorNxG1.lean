/-
  NxA, NxP, NxB, joined.
-/
import Derived.Test.YtehgnbgbmicheaaGreatDoorSsY
import Derived.Test.YtehgnbgbmicheaaGreatDoorNrV
import Derived.Test.YtehgnbgbmicheaaGreatDoorObU
section S0
namespace Go.Proofs.YtehgnbgbmicheaaGreatDoor
open Go.RowKit Go.Sort Go.Lib
namespace Nx
/-- The slice's address is plain. -/
def Pl (v : Value) : Prop := ∀ ad n c, v = .slice (some ad) n c → ∃ b off, ad = ⟨b, off, none⟩
theorem own_pl {α : Type} {K : Kd α} {B : Nat} {w : World} {v : Value} {l : List α} (H : OwnR K B w v l) : Pl v := fun ad n c e => by
  obtain ⟨_, ⟨hv, _⟩ | ⟨g, cap, cur, hv, _⟩⟩ := H
  · rw [hv] at e; cases e
  · rw [hv] at e
    simp only [Value.slice.injEq, Option.some.injEq] at e
    exact ⟨g, 0, e.1.symm⟩
theorem cells_of {α : Type} {K : Kd α} (ok : K.Ok) {w : World} {b off n c : Nat} {l : List α} (H : Row K w (.slice (some ⟨b, off, none⟩) n c) l) : ∀ j u, (cellsR K l)[j]? = some u → w.cell? ⟨b, off + j, none⟩ = some u := fun j u hj => by
  have hlt : j < l.length * K.k := by
    rcases Nat.lt_or_ge j (l.length * K.k) with q | q
    · exact q
    · rw [List.getElem?_eq_none (by rw [cellsR_length ok]; exact q)] at hj; cases hj
  have hk : j / K.k < l.length := Nat.div_lt_of_lt_mul (by rw [Nat.mul_comm]; exact hlt)
  have hm : j % K.k < K.k := Nat.mod_lt _ ok.pos
  have e : j / K.k * K.k + j % K.k = j := by rw [Nat.mul_comm]; exact Nat.div_add_mod j K.k
  obtain ⟨b', off', e', hc⟩ := H.at (j / K.k) hk
  simp only [Option.some.injEq, Addr.mk.injEq, and_true] at e'
  obtain ⟨rfl, rfl⟩ := e'
  have r := cellsR_at ok l (j / K.k) hk (j % K.k) hm
  rw [e] at r
  have q := hc (j % K.k) u (by rw [← r]; exact hj)
  rw [Nat.add_assoc, e] at q
  exact q
theorem row_nil {α : Type} {K : Kd α} {w : World} {n c : Nat} {l : List α} (H : Row K w (.slice none n c) l) : l = [] := by
  obtain ⟨a, cap, e, h1, h2, h0, _⟩ := H
  simp only [Value.slice.injEq] at e
  have z : cap = 0 := h0 e.1.symm
  exact List.length_eq_zero_iff.1 (by omega)
theorem cloneL (v : Value) (l : List (ByteArray × ByteArray)) (w : World) (hv : Row kLb w v l) (hpl : Pl v) (hz : l.length * 32 ≤ 140737488355328) :
    Calls Tryz.prog 14 #[v] w fun e w' => ∃ a n c, e = .returned (.slice a n c) ∧ OwnR kLb w.heap.size w' (.slice a n c) l ∧ Below w.heap.size w w' := by
  have V := hv
  obtain ⟨va, vc, rfl, hlc, hcm⟩ := hv.len
  cases va with
  | none =>
    have l0 := row_nil hv
    subst l0
    refine (Tryz.slices_Clone_nil_f14 0 vc w).mono ?_
    rintro e w2 ⟨rfl, rfl⟩
    exact ⟨none, 0, 0, rfl, OwnR.nil _ _ _, Below.refl _ _⟩
  | some ad =>
    obtain ⟨b, off, rfl⟩ := hpl ad _ _ rfl
    obtain ⟨zv, hinf, hzs⟩ := okLb.inf
    obtain ⟨i0, hi, hz0, hz1, hz2⟩ := info_parts hinf
    refine (Tryz.slices_Clone_f14 i0 _ 2 32 hi hz0 hz1 hz2 hzs (by decide) Tryz.sizeOf44 b off l.length vc (cellsR kLb l) w (by rw [cellsR_length okLb]; rfl) (by unfold maxLen; omega) hz (cells_of okLb V) (cellsR_one okLb l)).mono ?_
    rintro e w2 ⟨v', rfl, hown, hne, hb2⟩
    have hO : OwnR kLb w.heap.size w2 v' l := hown
    obtain ⟨a', c', e'⟩ := hO.slice
    subst e'
    exact ⟨a', _, c', rfl, hO, hb2⟩
theorem cloneP (v : Value) (l : List (Pr)) (w : World) (hv : Row kPt w v l) (hpl : Pl v) (hz : l.length * 64 ≤ 140737488355328) :
    Calls Tryz.prog 32 #[v] w fun e w' => ∃ a n c, e = .returned (.slice a n c) ∧ OwnR kPt w.heap.size w' (.slice a n c) l ∧ Below w.heap.size w w' := by
  have V := hv
  obtain ⟨va, vc, rfl, hlc, hcm⟩ := hv.len
  cases va with
  | none =>
    have l0 := row_nil hv
    subst l0
    refine (Tryz.slices_Clone_nil_f32 0 vc w).mono ?_
    rintro e w2 ⟨rfl, rfl⟩
    exact ⟨none, 0, 0, rfl, OwnR.nil _ _ _, Below.refl _ _⟩
  | some ad =>
    obtain ⟨b, off, rfl⟩ := hpl ad _ _ rfl
    obtain ⟨zv, hinf, hzs⟩ := okPt.inf
    obtain ⟨i0, hi, hz0, hz1, hz2⟩ := info_parts hinf
    refine (Tryz.slices_Clone_f32 i0 _ 3 64 hi hz0 hz1 hz2 hzs (by decide) Tryz.sizeOf52 b off l.length vc (cellsR kPt l) w (by rw [cellsR_length okPt]; rfl) (by unfold maxLen; omega) hz (cells_of okPt V) (cellsR_one okPt l)).mono ?_
    rintro e w2 ⟨v', rfl, hown, hne, hb2⟩
    have hO : OwnR kPt w.heap.size w2 v' l := hown
    obtain ⟨a', c', e'⟩ := hO.slice
    subst e'
    exact ⟨a', _, c', rfl, hO, hb2⟩
theorem insL_nil (c : Nat) (w : World) : Calls Tryz.prog 59 #[.slice none 0 c, .int .i64 0, .int .i64 0, .func (.func 16) #[] #[]] w fun e w' => e = .returned (.tuple #[]) ∧ w' = w := by
  go_enter Tryz.func59, Tryz.ntmps59
  go_wp2_with fail
  refine wp_loop_rounds 1 ?_
  rw [rounds_succ]
  go_wp2_with fail
  go_end0
  exact ⟨rfl, rfl⟩
theorem staL_nil (c : Nat) (w : World) : Calls Tryz.prog 30 #[.slice none 0 c, .int .i64 0, .func (.func 16) #[] #[]] w fun e w' => e = .returned (.tuple #[]) ∧ w' = w := by
  have C := Lib.hid (insL_nil c w)
  go_enter Tryz.func30, Tryz.ntmps30
  go_wp2_with fail
  refine wp_loop_rounds 1 ?_
  rw [rounds_succ]
  go_wp2_with fail
  refine C.out.mono ?_
  rintro e w1 ⟨rfl, rfl⟩
  go_wp2_with fail
  refine wp_loop_rounds 1 ?_
  rw [rounds_succ]
  go_wp2_with fail
  go_end0
  exact ⟨rfl, rfl⟩
theorem sortL_nil (c : Nat) (w : World) : Calls Tryz.prog 15 #[.slice none 0 c, .func (.func 16) #[] #[]] w fun e w' => e = .returned (.tuple #[]) ∧ w' = w := by
  have C := Lib.hid (staL_nil c w)
  go_enter Tryz.func15, Tryz.ntmps15
  go_wp2_with fail
  refine C.out.mono ?_
  rintro e w1 ⟨rfl, rfl⟩
  go_wp2_with fail
  go_end0
  exact ⟨rfl, rfl⟩
theorem insP_nil (c : Nat) (w : World) : Calls Tryz.prog 85 #[.slice none 0 c, .int .i64 0, .int .i64 0, .func (.func 34) #[] #[]] w fun e w' => e = .returned (.tuple #[]) ∧ w' = w := by
  go_enter Tryz.func85, Tryz.ntmps85
  go_wp2_with fail
  refine wp_loop_rounds 1 ?_
  rw [rounds_succ]
  go_wp2_with fail
  go_end0
  exact ⟨rfl, rfl⟩
theorem staP_nil (c : Nat) (w : World) : Calls Tryz.prog 61 #[.slice none 0 c, .int .i64 0, .func (.func 34) #[] #[]] w fun e w' => e = .returned (.tuple #[]) ∧ w' = w := by
  have C := Lib.hid (insP_nil c w)
  go_enter Tryz.func61, Tryz.ntmps61
  go_wp2_with fail
  refine wp_loop_rounds 1 ?_
  rw [rounds_succ]
  go_wp2_with fail
  refine C.out.mono ?_
  rintro e w1 ⟨rfl, rfl⟩
  go_wp2_with fail
  refine wp_loop_rounds 1 ?_
  rw [rounds_succ]
  go_wp2_with fail
  go_end0
  exact ⟨rfl, rfl⟩
theorem sortP_nil (c : Nat) (w : World) : Calls Tryz.prog 33 #[.slice none 0 c, .func (.func 34) #[] #[]] w fun e w' => e = .returned (.tuple #[]) ∧ w' = w := by
  have C := Lib.hid (staP_nil c w)
  go_enter Tryz.func33, Tryz.ntmps33
  go_wp2_with fail
  refine C.out.mono ?_
  rintro e w1 ⟨rfl, rfl⟩
  go_wp2_with fail
  go_end0
  exact ⟨rfl, rfl⟩
theorem sortL_all {B : Nat} {w : World} {a : Option Addr} {n c : Nat} {l : List (ByteArray × ByteArray)} (H : OwnR kLb B w (.slice a n c) l) (hl : l.length < 1152921504606846976) :
    Calls Tryz.prog 15 #[.slice a n c, .func (.func 16) #[] #[]] w fun e w' => e = .returned (.tuple #[]) ∧ ∃ D, Ss.Std (fun x y => Ss.cmS x.1 y.1) l D ∧ OwnR kLb B w' (.slice a n c) (D.map Prod.fst) ∧ Below B w w' := by
  have HH := H
  obtain ⟨h0, ⟨hv, hn⟩ | ⟨g, cap, cur, hv, hB, _⟩⟩ := H
  · simp only [Value.slice.injEq] at hv
    obtain ⟨rfl, rfl, rfl⟩ := hv
    have l0 : l = [] := List.length_eq_zero_iff.1 hn
    subst l0
    refine (sortL_nil 0 w).mono ?_
    rintro e w' ⟨rfl, rfl⟩
    exact ⟨rfl, [], ⟨List.Perm.refl _, List.Pairwise.nil⟩, HH, Below.refl _ _⟩
  · simp only [Value.slice.injEq] at hv
    obtain ⟨rfl, rfl, rfl⟩ := hv
    refine (Ss.sortL_any HH hl).mono ?_
    rintro e w' ⟨rfl, D, h1, h2, h3⟩
    exact ⟨rfl, D, h1, h2, (grown_kept h3).below (Nat.le_trans hB (Nat.le_of_lt (HH.lt g rfl).2)) (fun x hx => by injection hx with hx; omega)⟩
theorem sortP_all {B : Nat} {w : World} {a : Option Addr} {n c : Nat} {l : List (Pr)} (H : OwnR kPt B w (.slice a n c) l) (hl : l.length < 1152921504606846976) :
    Calls Tryz.prog 33 #[.slice a n c, .func (.func 34) #[] #[]] w fun e w' => e = .returned (.tuple #[]) ∧ ∃ D, Ss.Std (fun x y => Ss.cmS x.n y.n) l D ∧ OwnR kPt B w' (.slice a n c) (D.map Prod.fst) ∧ Below B w w' := by
  have HH := H
  obtain ⟨h0, ⟨hv, hn⟩ | ⟨g, cap, cur, hv, hB, _⟩⟩ := H
  · simp only [Value.slice.injEq] at hv
    obtain ⟨rfl, rfl, rfl⟩ := hv
    have l0 : l = [] := List.length_eq_zero_iff.1 hn
    subst l0
    refine (sortP_nil 0 w).mono ?_
    rintro e w' ⟨rfl, rfl⟩
    exact ⟨rfl, [], ⟨List.Perm.refl _, List.Pairwise.nil⟩, HH, Below.refl _ _⟩
  · simp only [Value.slice.injEq] at hv
    obtain ⟨rfl, rfl, rfl⟩ := hv
    refine (Ss.sortP_any HH hl).mono ?_
    rintro e w' ⟨rfl, D, h1, h2, h3⟩
    exact ⟨rfl, D, h1, h2, (grown_kept h3).below (Nat.le_trans hB (Nat.le_of_lt (HH.lt g rfl).2)) (fun x hx => by injection hx with hx; omega)⟩
end Nx
end Go.Proofs.YtehgnbgbmicheaaGreatDoor
end S0

section S1
namespace Go.Proofs.YtehgnbgbmicheaaGreatDoor
open Go.RowKit Go.Sort Go.Lib
namespace Nx
def zP : Pt := ⟨⟨#[]⟩, [], []⟩
/-- Parts in memory: each a name and two lists, plain. -/
def PtI (w : World) (rs : List Pr) (ps : List Pt) : Prop := rs.length = ps.length ∧ ∀ k, k < ps.length → (rs.getD k kPt.z).n = (ps.getD k zP).n ∧ Row kAm w (rs.getD k kPt.z).r.v (ps.getD k zP).r ∧ Row kAm w (rs.getD k kPt.z).l.v (ps.getD k zP).l ∧ Pl (rs.getD k kPt.z).r.v ∧ Pl (rs.getD k kPt.z).l.v
theorem PtI.below {w w' : World} {rs : List Pr} {ps : List Pt} (h : PtI w rs ps) (hb : Below w.heap.size w w') : PtI w' rs ps :=
  ⟨h.1, fun k hk => ⟨(h.2 k hk).1, (h.2 k hk).2.1.below hb, (h.2 k hk).2.2.1.below hb, (h.2 k hk).2.2.2⟩⟩
noncomputable def nrP (p : Pt) : Pt := ⟨p.n, nrL p.r, nrL p.l⟩
def okP (p : Pt) : Prop := nrE p.r = 0 ∧ nrE p.l = 0
/-- The parts in the order of their slices. -/
def srt (ps : List Pt) (D : List (Pr × Nat)) : List Pt := D.map fun x => ps.getD x.2 zP
theorem getD_map' {α β : Type} (f : α → β) (l : List α) (k : Nat) (a : α) (b : β) (h : k < l.length) : (l.map f).getD k b = f (l.getD k a) := by
  rw [List.getD_eq_getElem?_getD, List.getD_eq_getElem?_getD, List.getElem?_map, List.getElem?_eq_getElem h]; rfl
theorem mem_tg {rs : List Pr} {x : Pr × Nat} (h : x ∈ Ss.tg rs) : x.2 < rs.length ∧ x.1 = rs.getD x.2 kPt.z := by
  unfold Ss.tg at h
  have q := List.mem_zipIdx' h
  obtain ⟨h1, h2⟩ := q
  exact ⟨h1, by rw [h2, List.getD_eq_getElem?_getD, List.getElem?_eq_getElem h1]; rfl⟩
theorem srt_perm {cf : Pr → Pr → Int} {rs : List Pr} {ps : List Pt} {D : List (Pr × Nat)} (hD : Ss.Std cf rs D) (hl : rs.length = ps.length) : (srt ps D).Perm ps := by
  have q := hD.1.map (fun x : Pr × Nat => ps.getD x.2 zP)
  have e : (Ss.tg rs).map (fun x : Pr × Nat => ps.getD x.2 zP) = ps := by
    apply List.ext_getElem?
    intro k
    by_cases hk : k < ps.length
    · rw [List.getElem?_map]
      unfold Ss.tg
      rw [List.getElem?_zipIdx, List.getElem?_eq_getElem (by omega)]
      simp [List.getD_eq_getElem?_getD, List.getElem?_eq_getElem hk]
    · rw [List.getElem?_eq_none (by simp [Ss.tg]; omega), List.getElem?_eq_none (by omega)]
  rw [e] at q
  exact q
theorem srt_I {cf : Pr → Pr → Int} {w : World} {rs : List Pr} {ps : List Pt} {D : List (Pr × Nat)} (hD : Ss.Std cf rs D) (h : PtI w rs ps) : PtI w (D.map Prod.fst) (srt ps D) := by
  refine ⟨by simp [srt], fun k hk => ?_⟩
  have hk' : k < D.length := by simpa [srt] using hk
  obtain ⟨h1, h2⟩ := mem_tg (hD.1.mem_iff.1 (getD_in (d := (kPt.z, 0)) hk'))
  rw [getD_map' Prod.fst D k (kPt.z, 0) _ hk', show (srt ps D).getD k zP = ps.getD (D.getD k (kPt.z, 0)).2 zP from getD_map' _ D k (kPt.z, 0) _ hk', h2]
  exact h.2 _ (by rw [← h.1]; exact h1)
theorem srt_rise {w : World} {rs : List Pr} {ps : List Pt} {D : List (Pr × Nat)} (hD : Ss.Std (fun x y => Ss.cmS x.n y.n) rs D) (h : PtI w rs ps) : (srt ps D).Pairwise fun x y => ¬ y.n.data.toList < x.n.data.toList := by
  unfold srt
  rw [List.pairwise_map]
  refine hD.2.imp_of_mem fun {x y} hx hy q => ?_
  obtain ⟨x1, x2⟩ := mem_tg (hD.1.mem_iff.1 hx)
  obtain ⟨y1, y2⟩ := mem_tg (hD.1.mem_iff.1 hy)
  have ex := (h.2 x.2 (by rw [← h.1]; exact x1)).1
  have ey := (h.2 y.2 (by rw [← h.1]; exact y1)).1
  have z : decide (Ss.cmS y.1.n x.1.n < 0) = false := q.1
  rw [Ss.cmS_lt, x2, y2, ex, ey] at z
  exact of_decide_eq_false z
theorem std_perm {α : Type} {cf : α → α → Int} {l : List α} {D : List (α × Nat)} (hD : Ss.Std cf l D) : (D.map Prod.fst).Perm l := by
  have q := hD.1.map Prod.fst
  rw [Ss.tg_fst] at q
  exact q
theorem std_rise {l : List (ByteArray × ByteArray)} {D : List ((ByteArray × ByteArray) × Nat)} (hD : Ss.Std (fun x y => Ss.cmS x.1 y.1) l D) : (D.map Prod.fst).Pairwise fun x y => ¬ y.1.data.toList < x.1.data.toList := by
  rw [List.pairwise_map]
  refine hD.2.imp fun {x y} q => ?_
  have z : decide (Ss.cmS y.1.1 x.1.1 < 0) = false := q.1
  rw [Ss.cmS_lt] at z
  exact of_decide_eq_false z
end Nx
end Go.Proofs.YtehgnbgbmicheaaGreatDoor
end S1

section S2
namespace Go.Proofs.YtehgnbgbmicheaaGreatDoor
open Go.RowKit Go.Sort Go.Lib
namespace Nx
theorem take_set_last {α : Type} (l : List α) (k : Nat) (x : α) (h : k < l.length) : (l.set k x).take (k + 1) = l.take k ++ [x] := by
  rw [List.take_add_one, List.take_set_of_le (Nat.le_refl _), List.getElem?_set_self h]; rfl
theorem lt_heap {w : World} {g : Nat} {o : Obj} (h : w.heap[g]? = some o) : g < w.heap.size := (Array.getElem?_eq_some_iff.1 h).1
theorem pt_ne : kPt.t ≠ kAm.t := by decide
set_option maxHeartbeats 4000000 in
set_option maxRecDepth 100000 in
theorem nparts_any (v : Value) (rs : List Pr) (ps : List Pt) (w : World) (hv : Row kPt w v rs) (hpl : Pl v) (hI : PtI w rs ps) (hz : rs.length * 64 ≤ 140737488355328)
    (hf : ∀ p ∈ ps, (p.r.length * 24 ≤ 140737488355328 ∧ ∀ x ∈ p.r, x.v ≤ 9223372036854775807) ∧ (p.l.length * 24 ≤ 140737488355328 ∧ ∀ x ∈ p.l, x.v ≤ 9223372036854775807)) :
    Calls Tryz.prog 18 #[v] w fun e w' => ∃ SP : List Pt, SP.Perm ps ∧ (SP.Pairwise fun x y => ¬ y.n.data.toList < x.n.data.toList) ∧ ((∀ p ∈ ps, okP p) → ∃ a n c us, e = .returned (.tuple #[.slice a n c, .int .i64 0]) ∧ OwnR kPt w.heap.size w' (.slice a n c) us ∧ Nst w.heap.size w' us (SP.map nrP)) ∧ (¬ (∀ p ∈ ps, okP p) → e = .returned (.tuple #[.slice none 0 0, .int .i64 130])) ∧ Below w.heap.size w w' := by
  have CL := Lib.hid (cloneP v rs w hv hpl hz)
  have HI := Lib.hid (show PtI w rs ps from hI)
  have HF := Lib.hid hf
  have HZ := Lib.hid hz
  obtain ⟨va, vc, rfl, _, _⟩ := hv.len
  clear hv hpl hI hf hz
  go_enter Tryz.func18, Tryz.ntmps18
  go_wp2_with fail
  refine CL.out.mono ?_
  rintro e w1 ⟨a, n, c, rfl, o1, b1⟩
  have SO := Lib.hid (sortP_all o1 (by have := HZ.out; omega))
  have B1 := Lib.hid b1
  have hnc : n ≤ c ∧ c ≤ 9223372036854775807 ∧ n = rs.length := by
    obtain ⟨a', c', e, h1, h2⟩ := (o1.row okPt).len
    simp only [Value.slice.injEq] at e
    unfold maxLen at h2
    omega
  obtain ⟨hnc1, hnc2, hnr⟩ := hnc
  have NR := Lib.hid hnr
  clear o1 b1 CL hnr
  go_wp2_with fail
  refine SO.out.mono ?_
  rintro e w2 ⟨rfl, D, hD, o2, b2⟩
  have HD := Lib.hid (And.intro hD (And.intro o2 (B1.out.trans b2)))
  clear hD o2 b2 SO
  obtain ⟨ss, hss⟩ : ∃ ss, ss = D.map Prod.fst := ⟨_, rfl⟩
  obtain ⟨SP, hSP⟩ : ∃ SP, SP = srt ps D := ⟨_, rfl⟩
  have HS : Hid (PtI w ss SP ∧ SP.Perm ps ∧ (SP.Pairwise fun x y => ¬ y.n.data.toList < x.n.data.toList) ∧ OwnR kPt w.heap.size w2 (.slice a n c) ss ∧ Below w.heap.size w w2 ∧ SP.length = n ∧ ss.length = n) := Lib.hid (by
    have q := srt_I HD.out.1 HI.out
    have p := srt_perm HD.out.1 HI.out.1
    rw [hss, hSP]
    refine ⟨q, p, srt_rise HD.out.1 HI.out, HD.out.2.1, HD.out.2.2, ?_, ?_⟩
    · rw [p.length_eq, ← HI.out.1, NR.out]
    · rw [(std_perm HD.out.1).length_eq, NR.out])
  clear hss hSP HD HI B1
  go_wp2_with fail
  go_loopg [5, 6, 7, 8, 9, 10, 17] n (fun gg _ _ _ _ _ _ s17 wr => ∃ (k : Nat) (us : List Pr), s17 = .int .i64 k ∧ k ≤ n ∧ gg = n - k ∧ Hid (us.length = n ∧ us.drop k = ss.drop k ∧ OwnR kPt w.heap.size wr (.slice a n c) us ∧ Nst w.heap.size wr (us.take k) ((SP.take k).map nrP) ∧ Below w.heap.size w wr ∧ ∀ p ∈ SP.take k, okP p))
  case atStart => exact ⟨0, ss, rfl, Nat.zero_le _, rfl, Lib.hid ⟨HS.out.2.2.2.2.2.2, rfl, HS.out.2.2.2.1, ⟨rfl, fun k hk => by simp at hk⟩, HS.out.2.2.2.2.1, fun p hp => by simp at hp⟩⟩
  case round =>
    obtain ⟨k, us, rfl, hk, hg, S1⟩ := hrel
    have GK := Lib.hid hg
    clear hg
    by_cases hlt : k < n
    · have hlt' : (k : Int) < (n : Int) := by omega
      obtain ⟨g, ha0, -, hBg, hgs⟩ := S1.out.2.2.1.someOf (by rw [S1.out.1]; omega)
      obtain ⟨off, ha, hoff⟩ : ∃ off, a = some ⟨g, off, none⟩ ∧ off = 0 := ⟨0, ha0, rfl⟩
      clear ha0
      subst ha
      have OF := Lib.hid hoff
      have HG := Lib.hid (And.intro hBg hgs)
      clear hoff hBg hgs
      obtain ⟨x, hx⟩ : ∃ x, x = us.getD k kPt.z := ⟨_, rfl⟩
      have EX : Hid (x = ss.getD k kPt.z) := Lib.hid (by
        have q := congrArg (fun l => l.getD 0 kPt.z) S1.out.2.1
        rw [hx]
        simpa [List.getD_eq_getElem?_getD] using q)
      obtain ⟨P, hP⟩ : ∃ P, P = SP.getD k zP := ⟨_, rfl⟩
      have PI := HS.out.1.2 k (by rw [HS.out.2.2.2.2.2.1]; exact hlt)
      rw [← EX.out, ← hP] at PI
      have PM : Hid (P ∈ ps ∧ P ∈ SP) := Lib.hid (by
        have q : P ∈ SP := by rw [hP]; exact getD_in (by rw [HS.out.2.2.2.2.2.1]; exact hlt)
        exact ⟨HS.out.2.1.mem_iff.1 q, q⟩)
      obtain ⟨b', off', e', hc⟩ := (S1.out.2.2.1.row okPt).at k (by rw [S1.out.1]; exact hlt)
      simp only [Option.some.injEq, Addr.mk.injEq, and_true] at e'
      obtain ⟨rfl, rfl⟩ := e'
      rw [← hx] at hc
      have HX := Lib.hid (And.intro hx hP)
      clear hx hP
      obtain ⟨xn, ⟨ra1, ra2, ra3⟩, ⟨rb1, rb2, rb3⟩⟩ := x
      obtain ⟨pn, pr, pl⟩ := P
      have c0 : wr.cell? ⟨g, off + k * 3, none⟩ = some (.string xn) := hc 0 _ rfl
      have c1 : wr.cell? ⟨g, off + k * 3 + 1, none⟩ = some (.slice ra1 ra2 ra3) := hc 1 _ rfl
      have c2 : wr.cell? ⟨g, off + k * 3 + 2, none⟩ = some (.slice rb1 rb2 rb3) := hc 2 _ rfl
      have CC := Lib.hid (And.intro c1 c2)
      simp only [Sl.v] at PI
      have PH := Lib.hid PI
      clear PI hc
      obtain ⟨X, hX⟩ : ∃ X, X = wr.alloc (.cells #[.string xn, .slice ra1 ra2 ra3, .slice rb1 rb2 rb3] 52) := ⟨_, rfl⟩
      obtain ⟨bx, hbx⟩ : ∃ bx, bx = wr.heap.size := ⟨_, rfl⟩
      have AX : Hid (Below wr.heap.size wr X ∧ X.heap[bx]? = some (.cells #[.string xn, .slice ra1 ra2 ra3, .slice rb1 rb2 rb3] 52 (0, 0))) := Lib.hid (by rw [hX, hbx]; exact ⟨(Below.refl _ wr).alloc (Nat.le_refl _) _, heap_alloc_new _ _⟩)
      have x1 : X.cell? ⟨bx, 1, none⟩ = some (.slice ra1 ra2 ra3) := by rw [cell_of_row _ _ _ _ _ _ AX.out.2]; rfl
      have BX : Hid (Below w.heap.size w X) := Lib.hid (S1.out.2.2.2.2.1.trans (AX.out.1.mono S1.out.2.2.2.2.1.size))
      have C1 := Lib.hid (normal_any (.slice ra1 ra2 ra3) pr X (PH.out.2.1.below BX.out) PH.out.2.2.2.1 (HF.out _ PM.out.1).1.1 (HF.out _ PM.out.1).1.2)
      obtain ⟨E1, hE1⟩ : ∃ x, x = nrE pr := ⟨_, rfl⟩
      obtain ⟨E2, hE2⟩ : ∃ x, x = nrE pl := ⟨_, rfl⟩
      rw [← hE1] at C1
      have HE := Lib.hid (And.intro hE1 hE2)
      have hX' := hX.symm
      have hbx' := hbx.symm
      clear hX hbx hE1 hE2
      go_wp2_with fail
      refine C1.out.mono ?_
      rintro e w3 ⟨a3, n3, c3, rfl, o3, b3⟩
      have D3 := Lib.hid (And.intro o3 b3)
      have G3 : Hid (w3.heap[bx]? = _) := Lib.hid ((b3.block bx (lt_heap AX.out.2)).trans AX.out.2)
      have x2 : w3.cell? ⟨bx, 2, none⟩ = some (.slice rb1 rb2 rb3) := by rw [cell_of_row _ _ _ _ _ _ G3.out]; rfl
      have C2 := Lib.hid (normal_any (.slice rb1 rb2 rb3) pl w3 ((PH.out.2.2.1.below BX.out).below b3) PH.out.2.2.2.2 (HF.out _ PM.out.1).2.1 (HF.out _ PM.out.1).2.2)
      rw [← HE.out.2] at C2
      clear o3 b3 C1 x1 hX' hbx' c0
      go_wp2_with fail
      refine C2.out.mono ?_
      rintro e w4 ⟨a4, n4, c4, rfl, o4, b4⟩
      have D4 := Lib.hid (And.intro o4 b4)
      have BW : Hid (Below w.heap.size w w4 ∧ Below wr.heap.size wr w4) := Lib.hid (by
        have q := D3.out.2.trans (b4.mono D3.out.2.size)
        exact ⟨BX.out.trans (q.mono BX.out.size), AX.out.1.trans (q.mono AX.out.1.size)⟩)
      have TY : Hid (∃ cs, w4.heap[g]? = some (.cells cs kPt.t (0, 0))) := Lib.hid (by
        obtain ⟨cs, _, _, h, _⟩ := (OF.out ▸ (S1.out.2.2.1.below BW.out.2)).parts
        exact ⟨cs, h⟩)
      have FZ : Hid (∀ j, w4.frozen? ⟨g, j, none⟩ = false) := Lib.hid (fun j => by obtain ⟨cs, h⟩ := TY.out; exact frozen_row h j)
      clear o4 b4 C2 x2 c1 c2
      by_cases h1 : E1 = 0
      · by_cases h2 : E2 = 0
        · have g1 : (E1 != 0) = false := by rw [h1]; rfl
          have g2 : (E2 != 0) = false := by rw [h2]; rfl
          have OKP : Hid (okP ⟨pn, pr, pl⟩) := Lib.hid ⟨by rw [← HE.out.1]; exact h1, by rw [← HE.out.2]; exact h2⟩
          have EZ := Lib.hid (And.intro h1 h2)
          clear h1 h2
          have f1 : w4.frozen? ⟨g, off + k * 3 + 1, none⟩ = false := FZ.out _
          have f2 : ∀ u, (w4.setCell ⟨g, off + k * 3 + 1, none⟩ u).frozen? ⟨g, off + k * 3 + 2, none⟩ = false := fun u => by rw [World.frozen?_setCell]; exact FZ.out _
          have d1 : w4.cell? ⟨g, off + k * 3 + 1, none⟩ = some (.slice ra1 ra2 ra3) := by rw [BW.out.2.cell (p := ⟨g, off + k * 3 + 1, none⟩) HG.out.2]; exact CC.out.1
          have d2 : ∀ u, (w4.setCell ⟨g, off + k * 3 + 1, none⟩ u).cell? ⟨g, off + k * 3 + 2, none⟩ = some (.slice rb1 rb2 rb3) := fun u => by
            have q : (w4.setCell ⟨g, off + k * 3 + 1, none⟩ u).cell? ⟨g, off + k * 3 + 2, none⟩ = w4.cell? ⟨g, off + k * 3 + 2, none⟩ := World.cell?_setCell_other w4 _ _ _ (by intro e; injection e with e1 e2; omega)
            rw [q, BW.out.2.cell (p := ⟨g, off + k * 3 + 2, none⟩) HG.out.2]; exact CC.out.2
          obtain ⟨Y, hY⟩ : ∃ Y, Y = (w4.setCell ⟨g, off + k * 3 + 1, none⟩ (.slice a3 n3 c3)).setCell ⟨g, off + k * 3 + 2, none⟩ (.slice a4 n4 c4) := ⟨_, rfl⟩
          have KY : Hid (Kept (fun y => y = g) w4 Y) := Lib.hid (by
            rw [hY]
            exact (kept_set (F := fun y => y = g) w4 ⟨g, off + k * 3 + 1, none⟩ _ rfl).trans (kept_set (F := fun y => y = g) _ ⟨g, off + k * 3 + 2, none⟩ _ rfl) (fun _ _ e => e))
          have OY : Hid (OwnR kPt w.heap.size Y (.slice (some ⟨g, off, none⟩) n c) (us.set k ⟨xn, ⟨a3, n3, c3⟩, ⟨a4, n4, c4⟩⟩)) := Lib.hid (by
            have q0 : OwnR kPt w.heap.size w4 (.slice (some ⟨g, off, none⟩) n c) us := S1.out.2.2.1.below BW.out.2
            have o0 := OF.out
            rw [hY]
            rw [o0] at q0 ⊢
            have hku : k < us.length := by rw [S1.out.1]; exact hlt
            have q1 := q0.set okPt k 1 hku (by decide) ⟨xn, ⟨a3, n3, c3⟩, ⟨rb1, rb2, rb3⟩⟩ (.slice a3 n3 c3) (by rw [← HX.out.1]; rfl)
            have q2 := q1.set okPt k 2 (by simpa using hku) (by decide) ⟨xn, ⟨a3, n3, c3⟩, ⟨a4, n4, c4⟩⟩ (.slice a4 n4 c4) (by rw [List.getD_eq_getElem?_getD, List.getElem?_set_self hku]; rfl)
            rw [List.set_set] at q2
            have e : kPt.k = 3 := rfl
            rw [e] at q2
            rw [Nat.zero_add]
            exact q2)
          have hY' := hY.symm
          clear hY
          go_wp2_with fail
          go_roundg (n - (k + 1))
          case measure => have := GK.out; omega
          case rel =>
            refine ⟨k + 1, us.set k ⟨xn, ⟨a3, n3, c3⟩, ⟨a4, n4, c4⟩⟩, by go_num, by omega, rfl, Lib.hid ⟨by rw [List.length_set]; exact S1.out.1, ?_, OY.out, ?_, ?_, ?_⟩⟩
            · have q := congrArg (fun l => l.drop 1) S1.out.2.1
              simp only [List.drop_drop] at q
              rw [List.drop_set_of_lt (Nat.lt_succ_self k)]
              exact q
            · have hku : k < us.length := by rw [S1.out.1]; exact hlt
              have hkS : k < SP.length := by rw [HS.out.2.2.2.2.2.1]; exact hlt
              rw [take_set_last us k _ hku, take_onez SP k zP hkS, List.map_append, ← HX.out.2]
              have ng : ∀ (k0 : Nat) (cs : Array Value) (m : Nat × Nat), k0 = g → w4.heap[k0]? ≠ some (.cells cs kAm.t m) := fun k0 cs m e h => by
                subst e
                obtain ⟨cs', t⟩ := TY.out
                rw [h] at t
                injection t with t
                injection t with t1 t2
                exact pt_ne t2.symm
              have hb4 := (S1.out.2.2.2.1.kept (Below.kept BW.out.2 (fun _ => False)) (fun _ _ _ h => h.elim)).kept KY.out ng
              exact hb4.add PH.out.1 (((D3.out.1.below D4.out.2).mono (BX.out.size)).kept_ty KY.out ng) ((D4.out.1.mono (Nat.le_trans BX.out.size D3.out.2.size)).kept_ty KY.out ng)
            · exact BW.out.1.trans (KY.out.below BW.out.1.size (fun x hx => by rw [hx]; exact HG.out.1))
            · intro p hp
              rw [take_onez SP k zP (by rw [HS.out.2.2.2.2.2.1]; exact hlt), ← HX.out.2] at hp
              rcases List.mem_append.1 hp with h | h
              · exact S1.out.2.2.2.2.2 p h
              · rw [List.mem_singleton.1 h]; exact OKP.out
        · have g1 : (E1 != 0) = false := by rw [h1]; rfl
          have g2 : (E2 != 0) = true := by rw [bne_iff_ne]; exact h2
          have NOK : Hid (¬ ∀ p ∈ ps, okP p) := Lib.hid (fun h => h2 (by rw [HE.out.2]; exact (h _ PM.out.1).2))
          clear h1 h2
          go_wp2_with fail
          go_ret2
          exact ⟨SP, HS.out.2.1, HS.out.2.2.1, fun h => absurd h NOK.out, fun _ => rfl, BW.out.1⟩
      · have g1 : (E1 != 0) = true := by rw [bne_iff_ne]; exact h1
        have NOK : Hid (¬ ∀ p ∈ ps, okP p) := Lib.hid (fun h => h1 (by rw [HE.out.1]; exact (h _ PM.out.1).1))
        clear h1
        go_wp2_with fail
        go_ret2
        exact ⟨SP, HS.out.2.1, HS.out.2.2.1, fun h => absurd h NOK.out, fun _ => rfl, BW.out.1⟩
    · have hlt' : ¬ (k : Int) < (n : Int) := by omega
      have hkn : k = n := by omega
      have FIN : Hid (OwnR kPt w.heap.size wr (.slice a n c) us ∧ Nst w.heap.size wr us (SP.map nrP) ∧ ∀ p ∈ SP, okP p) := Lib.hid (by
        obtain ⟨h1, h2, h3, h4, h5, h6⟩ := S1.out
        rw [hkn, List.take_of_length_le (by omega), List.take_of_length_le (by rw [HS.out.2.2.2.2.2.1]; exact Nat.le_refl _)] at h4
        rw [hkn, List.take_of_length_le (by rw [HS.out.2.2.2.2.2.1]; exact Nat.le_refl _)] at h6
        exact ⟨h3, h4, h6⟩)
      clear hkn
      go_wp2_with fail
      go_ret2
      have AL : ∀ p ∈ ps, okP p := fun p hp => FIN.out.2.2 p (HS.out.2.1.mem_iff.2 hp)
      refine ⟨SP, HS.out.2.1, HS.out.2.2.1, ?_, ?_, S1.out.2.2.2.2.1⟩
      · intro _
        exact ⟨a, n, c, rfl, us, FIN.out.1, FIN.out.2.1⟩
      · intro x hx hn
        exact absurd (AL x hx) hn
end Nx
end Go.Proofs.YtehgnbgbmicheaaGreatDoor
end S2
