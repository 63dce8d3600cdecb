/-
  AjA, AjC, AjF, AjD, AjB, AjE, AjG, AjH, AjR, joined.
-/
import Derived.Test.YtdhnpgciclbfeaaGreatDoorAcX
import Derived.Test.YtdhnpgciclbfeaaGreatDoorAcY
import Derived.Test.YtdhnpgciclbfeaaGreatDoorScG
import Derived.Maps.OwnIn
import Derived.Test.YtdhnpgciclbfeaaGreatDoorAiW
import Derived.Test.YtdhnpgciclbfeaaGreatDoorAcJ
import Derived.Test.YtdhnpgciclbfeaaGreatDoorAiA
import Derived.Test.YtdhnpgciclbfeaaGreatDoorAcQ
section S0
namespace Go.Proofs.YtdhnpgciclbfeaaGreatDoor
open Go.RowKit Go.Sort Go.Lib
namespace Ac
open L (Gd)
/-- A text that is a path. -/
def Pt : Type := { p : ByteArray // (L.splitO p).isSome = true }
def Pt.mk (p : ByteArray) (h : (L.splitO p).isSome = true) : Pt := ⟨p, h⟩
def Pt.z : Pt := ⟨L.pth [], by rw [L.splitO_good (ts := []) ⟨rfl, by decide, by decide⟩]; rfl⟩
instance : Inhabited Pt := ⟨Pt.z⟩
def cPt (x y : Pt) : Int := cmP x.1 y.1
def keyP (x : Pt) : List (List UInt8) := ky (L.splitT x.1)
theorem lt_cPt (x y : Pt) : ltOf cPt x y = decide (keyP x < keyP y) := by
  unfold ltOf cPt keyP cmP
  exact decide_eq_decide.2 (cmL_lt _ _)
theorem keyP_inj (x y : Pt) (h : keyP x = keyP y) : x = y := by
  obtain ⟨p, hx⟩ := x
  obtain ⟨q, hy⟩ := y
  have e := ky_inj h
  simp only at e
  obtain ⟨a, ha⟩ := Option.isSome_iff_exists.1 hx
  obtain ⟨b, hb⟩ := Option.isSome_iff_exists.1 hy
  unfold L.splitT at e
  rw [ha, hb] at e
  simp only [Option.getD_some] at e
  have : p = q := by rw [(L.splitO_some ha).1, (L.splitO_some hb).1, e]
  subst this
  rfl
theorem swoPt : SWO (ltOf cPt) where
  irrefl x := by rw [lt_cPt]; exact decide_eq_false (List.lt_irrefl _)
  trans x y z h1 h2 := by
    rw [lt_cPt] at *
    exact decide_eq_true (List.lt_trans (of_decide_eq_true h1) (of_decide_eq_true h2))
  ntrans x y z h1 h2 := by
    rw [lt_cPt] at *
    exact decide_eq_false (List.not_lt.2 (List.le_trans (List.not_lt.1 (of_decide_eq_false h2)) (List.not_lt.1 (of_decide_eq_false h1))))
def Pt.c (x : Pt) : List Value := [.string x.1]
def kPt : Kd Pt := ⟨Pt.c, 1, 9, 32, 16, Pt.z⟩
theorem okPt : kPt.Ok := ⟨fun _ => rfl, by decide, fun x u hu => by simp only [kPt, Pt.c, List.mem_cons, List.not_mem_nil, or_false] at hu; rcases hu with rfl; rfl, Tryz.underlying32, ⟨_, (by kernel_rfl : (Tryz.prog.info? 9).map (fun i => (i.zero, i.size, i.bytes)) = some (some (.string ⟨#[]⟩), 1, 16)), rfl⟩, by decide⟩
/-- The paths rise. -/
def RisP (S : List Pt) : Prop := S.Pairwise fun x y => ltOf cPt y x = false
theorem pt_size (w : World) : (Go.sizeOf 9).run Tryz.prog w = .ok 1 w := by kernel_rfl
theorem pt_agg (w : World) : (isAgg 9).run Tryz.prog w = .ok false w := by go_simp
end Ac
end Go.Proofs.YtdhnpgciclbfeaaGreatDoor
end S0

section S1
namespace Go.Proofs.YtdhnpgciclbfeaaGreatDoor
open Go.RowKit Go.Sort Go.Lib
namespace Ac
open L (Gd)
def eP (x : Pt) : Value := .string x.1
theorem eP_one : OneCell eP := fun _ => rfl
theorem get_arrP (l : List Pt) (k : Nat) (h : k < l.length) : l.toArray[k]! = l.getD k kPt.z := by
  rw [getElem!_pos l.toArray k (by simpa using h), getD_ge _ _ _ h]; simp
theorem holdsP {B : Nat} {w : World} {g n cap : Nat} {l : List Pt} (H : OwnR kPt B w (.slice (some ⟨g, 0, none⟩) n cap) l) : Holds eP w g 0 l.toArray := by
  intro j hj
  have hk : j < l.length := by simpa using hj
  obtain ⟨b', off', e', hc⟩ := (H.row okPt).at j hk
  simp only [Option.some.injEq, Addr.mk.injEq, and_true] at e'
  obtain ⟨rfl, rfl⟩ := e'
  have q := hc 0 (eP (l.getD j kPt.z)) rfl
  have e : 0 + j * kPt.k + 0 = 0 + j := by show 0 + j * 1 + 0 = 0 + j; omega
  rw [e] at q
  rw [get_arrP l j hk]
  refine ⟨q, ?_⟩
  obtain ⟨_, ⟨hv, _⟩ | ⟨g', cap', cur, hv, _, hg, _⟩⟩ := H
  · cases hv
  · simp only [Value.slice.injEq, Option.some.injEq, Addr.mk.injEq, and_true] at hv
    obtain ⟨rfl, _⟩ := hv
    simp [World.frozen?, hg]
theorem rowP {w : World} {g cap : Nat} {d : Array Pt} (h : Holds eP w g 0 d) (hc : d.size ≤ cap) (hm : cap ≤ maxLen) : Row kPt w (.slice (some ⟨g, 0, none⟩) d.size cap) d.toList := by
  refine ⟨some ⟨g, 0, none⟩, cap, by simp, by simpa using hc, hm, (fun q => by cases q), fun k hk => ⟨g, 0, rfl, fun j y hy => ?_⟩⟩
  have hk' : k < d.size := by simpa using hk
  have hj : j = 0 := by
    rcases Nat.lt_or_ge j 1 with q | q
    · omega
    · rw [List.getElem?_eq_none (by show 1 ≤ j; exact q)] at hy; cases hy
  subst hj
  have q := (h k hk').1
  have e : d[k]! = d.toList.getD k kPt.z := by
    rw [getElem!_pos d k hk', getD_ge _ _ _ hk]; simp
  rw [e] at q
  have e2 : eP (d.toList.getD k kPt.z) = y := Option.some.inj hy
  rw [e2] at q
  have e3 : 0 + k * kPt.k + 0 = 0 + k := by show 0 + k * 1 + 0 = 0 + k; omega
  rw [e3]; exact q
theorem sortP_grown (w : World) (g m : Nat) (d : Array Pt) (os : Array Obj) : w.grownBy (sortWorld eP w g 0 m d os) (some g) := by
  refine ⟨rfl, rfl, rfl, ?_, fun k hk hn => ?_⟩
  · unfold sortWorld grow putRow mapBlock Go.Sort.ahead; simp
  · unfold sortWorld grow putRow mapBlock Go.Sort.ahead
    simp only [Array.getElem?_append, Array.size_modify]
    rw [if_pos hk, Array.getElem?_modify, if_neg (fun e => hn (by rw [e]))]
theorem sortP_any {w0 : World} (hM : L.HasM w0) {w : World} (hbw : RowKit.Below w0.heap.size w0 w) {B g n cap : Nat} (hB : w0.heap.size ≤ B) {l : List Pt} (H : OwnR kPt B w (.slice (some ⟨g, 0, none⟩) n cap) l) (hl : l.length < 4611686018427387904) :
    Calls Tryz.prog 26 #[.slice (some ⟨g, 0, none⟩) n cap, .func (.func 27) #[] #[]] w fun e w' => e = .returned (.tuple #[]) ∧ ∃ S : List Pt, S.Perm l ∧ RisP S ∧ Row kPt w' (.slice (some ⟨g, 0, none⟩) n cap) S ∧ w.grownBy w' (some g) := by
  have hn : n = l.length := by obtain ⟨_, _, e⟩ := H.slice; simp only [Value.slice.injEq] at e; exact e.2.1
  obtain ⟨_, _, e1, hc, hm⟩ := (H.row okPt).len
  simp only [Value.slice.injEq] at e1
  rw [← e1.2.2] at hc hm
  have hg : g < w.heap.size := (H.lt g rfl).2
  have hg0 : w0.heap.size ≤ g := Nat.le_trans hB (H.lt g rfl).1
  have hh := holdsP H
  have hcmp : CmpLays1 Tryz.prog 27 #[] eP cPt g 0 l.toArray.size w := fun m os dk _ x y => by
    have gb := sortP_grown w g m dk os
    have b1 : RowKit.Below w0.heap.size w0 (sortWorld eP w g 0 m dk os) := hbw.trans ((RowKit.Below.refl _ w).grown gb hbw.size (fun k e => by cases e; exact hg0))
    refine (comparePaths_any x.1 y.1 _ (hM.below b1)).mono ?_
    rintro e w' ⟨rfl, h⟩
    exact ⟨rfl, Gd.grow h⟩
  have key := Any.slices_SortFunc Tryz.laysSlF6_f26 eP eP_one cPt swoPt 27 #[] g 0 cap l.toArray w (enters_of Tryz.func27 (by kernel_rfl) rfl) hcmp hh hg (by simpa using hl)
  have es : l.toArray.size = n := by rw [hn]; simp
  rw [es] at key
  refine key.mono ?_
  rintro e w' ⟨rfl, d', m, os, hp, hs, rfl⟩
  have hsz : d'.size = n := by rw [hp.1, es]
  refine ⟨rfl, d'.toList, ?_, ?_, ?_, sortP_grown w g m d' os⟩
  · have q := hp.2.2
    have e1 : d'.extract 0 n = d' := by rw [← hsz]; simp
    have e2 : l.toArray.extract 0 n = l.toArray := by rw [← es]; simp
    rw [e1, e2] at q
    exact q
  · refine List.pairwise_iff_getElem.2 (fun i j hi hj hij => ?_)
    have hj' : j < n := by rw [← hsz]; simpa using hj
    have hi' : i < d'.size := by simpa using hi
    have q := hs i j (Nat.zero_le _) hij hj'
    rw [getElem!_pos d' j (by simpa using hj), getElem!_pos d' i hi'] at q
    simpa using q
  · have h1 : Holds eP (putRow eP (Sort.ahead w m) g 0 d') g 0 d' := holds_putRow eP _ _ _ l.toArray d' (holds_ahead eP w m g 0 _ hh) (by rw [hsz, es])
    have h2 : Holds eP (sortWorld eP w g 0 m d' os) g 0 d' := holds_grow eP _ os g 0 d' (by unfold putRow mapBlock Go.Sort.ahead; simpa using hg) h1
    have := rowP h2 (cap := cap) (by rw [hsz, hn]; exact hc) hm
    rw [hsz] at this
    exact this
theorem sort_paths {w0 W : World} (hM : L.HasM w0) (hb : RowKit.Below w0.heap.size w0 W) {B : Nat} (hB : w0.heap.size ≤ B) {a : Option Addr} {n c : Nat} {ps : List Pt} (H : OwnR kPt B W (.slice a n c) ps) (hl : ps.length < 100000000) :
    Calls Tryz.prog 26 #[.slice a n c, .func (.func 27) #[] #[]] W fun e w' => e = .returned (.tuple #[]) ∧ ∃ S : List Pt, S.Perm ps ∧ RisP S ∧ Row kPt w' (.slice a n c) S ∧ W.grownBy w' (Value.slice a n c).ownBlock := by
  obtain ⟨_, ⟨hv, hn⟩ | ⟨g, cap, cur, hv, _⟩⟩ := id H
  · simp only [Value.slice.injEq] at hv
    obtain ⟨rfl, hn2, rfl⟩ := hv
    have e : ps = [] := List.length_eq_zero_iff.1 hn
    have q := AnyF.slices_SortFunc_none Tryz.laysSlF06_f26 none 0 (.func (.func 27) #[] #[]) W
    rw [hn2]
    refine q.mono ?_
    rintro e' w' ⟨rfl, rfl⟩
    rw [e]
    exact ⟨rfl, [], List.Perm.refl _, List.Pairwise.nil, Row.nil _, rfl, rfl, rfl, Nat.le_refl _, fun _ _ _ => rfl⟩
  · simp only [Value.slice.injEq] at hv
    obtain ⟨rfl, _, rfl⟩ := hv
    exact sortP_any hM hb hB H (by omega)
end Ac
end Go.Proofs.YtdhnpgciclbfeaaGreatDoor
end S1

section S2
namespace Go.Proofs.YtdhnpgciclbfeaaGreatDoor
open Go.RowKit
theorem app_rowIn {α : Type} {K : Kd α} (ok : K.Ok) {F : Fence} {nF : Nat} {ops : Array Oper} {rest : List Oper} {o : Oper} {a : Act} {Q : Exit → Act → World → Prop} (hgd : o.guard = none) (s y : Operand)
    (ho : o.op = .call { callee := .builtin .append, args := #[s, y], argTypes := #[K.s, K.s] })
    {B : Nat} {w0 : World} {v : Value} {xs : List α} (hs : a.eval s = v) (hown : OwnR K B w0 v xs) (hB : B ≤ w0.heap.size) (x : α) {gg : Nat} (hgg : gg = w0.heap.size) {cs : Array Value} (hcs : cs = (K.c x).toArray)
    (hy : a.eval y = .slice (some ⟨gg, 0, none⟩) 1 1) (hl : xs.length < 100000000)
    (h : ∀ v' w', OwnR K B w' v' (xs ++ [x]) → w0.grownBy w' v.ownBlock → wpListIn F nF Tryz.prog ops Q rest (a.put o.dst v') w') :
    wpListIn F nF Tryz.prog ops Q (o :: rest) a (w0.alloc (.cells cs K.t)) := by
  subst hgg hcs
  obtain ⟨zv, hinf, hzc⟩ := ok.inf
  obtain ⟨i0, hi, hz0, hz1, hz2⟩ := info_parts hinf
  have hb := ok.by0
  have hl' : (xs.length + 1) * K.b ≤ 140737488355328 := Nat.le_trans (Nat.mul_le_mul (show xs.length + 1 ≤ 100000000 by omega) ok.by0.2) (by decide)
  refine wpListIn_append_own_at _ hgd s y K.s ho B K.t i0 _ K.k K.b ok.und hi hz0 hz1 hz2 hzc ok.pos v xs.length (cellsR K xs) hs (World.ownsRow.alloc hown _) ⟨w0.heap.size, 0, none⟩ 1 1 (K.c x) hy (by rw [ok.len, Nat.one_mul]) ?_ (ok.one x) (by have := Nat.le_mul_of_pos_right (xs.length + 1) hb.1; unfold maxLen; omega) ?_ (by simp; omega) ?_
  · intro j u hj
    rw [add_plain, Nat.zero_add, World.cell?_alloc_new, ← Array.getElem?_toList]; exact hj
  · exact hl'
  · intro v' w' h1 h2 _ _
    refine h v' w' ?_ (grown_alloc h2)
    show w'.ownsRow _ _ _ _ _ _
    rw [cellsR_app, List.length_append, cellsR_single]
    exact h1
namespace Ac
/-- Texts as elements. -/
def kS : Kd ByteArray := ⟨fun x => [.string x], 1, 9, 32, 16, ⟨#[]⟩⟩
theorem okS : kS.Ok := ⟨fun _ => rfl, by decide, fun x u hu => by simp only [kS, List.mem_cons, List.not_mem_nil, or_false] at hu; rcases hu with rfl; rfl, Tryz.underlying32, ⟨_, (by kernel_rfl : (Tryz.prog.info? 9).map (fun i => (i.zero, i.size, i.bytes)) = some (some (.string ⟨#[]⟩), 1, 16)), rfl⟩, by decide⟩
/-- Reach's own memory between two rounds: the box m holds the row of what has come. -/
structure Ry (w : World) (m gz : Nat) (a : Option Addr) (c : Nat) (xs : List ByteArray) (W : World) : Prop where
  x : W.heap[m]? = some (.cells #[.slice a xs.length c] 32 (0, 0))
  o : OwnR kS gz W (.slice a xs.length c) xs
  b : Below w.heap.size w W
  gs : gz ≤ W.heap.size
  le : w.heap.size ≤ m ∧ m < gz
variable {w W W' : World} {m gz c c' : Nat} {a a' : Option Addr} {xs ys : List ByteArray}
theorem Ry.grown (h : Ry w m gz a c xs W) {row : Option Nat} {B : Nat} (hB : w.heap.size ≤ B) (hg : W.grownBy W' row) (hr : ∀ r, row = some r → B ≤ r ∧ ∃ o : Obj, W.heap[r]? = some o ∧ o.isCells = false) : Ry w m gz a c xs W' :=
  ⟨cells_same hg hr h.x, h.o.kept_ty (grown_kept hg) (fun k cs mm hk e => by
    obtain ⟨_, o, ho, hc⟩ := hr k hk.symm
    rw [e] at ho
    simp only [Option.some.injEq] at ho
    rw [← ho] at hc
    simp [Obj.isCells] at hc), h.b.trans ((Below.refl _ W).grown hg h.b.size (fun k e => Nat.le_trans hB (hr k e).1)), Nat.le_trans h.gs hg.size, h.le⟩
theorem Ry.below (h : Ry w m gz a c xs W) (hb : Below W.heap.size W W') : Ry w m gz a c xs W' :=
  h.grown (B := w.heap.size) (Nat.le_refl _) (grown_of_below hb) (fun r e => by cases e)
/-- One more has come. -/
theorem Ry.step (h : Ry w m gz a c xs W) (hg : W.grownBy W' (Value.slice a xs.length c).ownBlock) (ho : OwnR kS gz W' (.slice a' ys.length c') ys) :
    Ry w m gz a' c' ys (W'.setCell ⟨m, 0, none⟩ (.slice a' ys.length c')) ∧ Kept (fun y => y = m ∨ (Value.slice a xs.length c).ownBlock = some y) W (W'.setCell ⟨m, 0, none⟩ (.slice a' ys.length c')) := by
  have lm := lt_of_some h.x
  have nm : (Value.slice a xs.length c).ownBlock ≠ some m := fun e => by have := (h.o.lt m e).1; have := h.le; omega
  have xm : W'.heap[m]? = some (.cells #[.slice a xs.length c] 32 (0, 0)) := (hg.block m lm (fun e => nm e.symm)).trans h.x
  have k1 : Kept (fun y => y = m ∨ (Value.slice a xs.length c).ownBlock = some y) W W' := (grown_kept hg).mono (fun y _ e => Or.inr e.symm)
  have k2 : Kept (fun y => y = m) W' (W'.setCell ⟨m, 0, none⟩ (.slice a' ys.length c')) := kept_set (F := fun y => y = m) W' ⟨m, 0, none⟩ _ rfl
  have k3 := k1.trans k2 (fun _ _ e => Or.inl e)
  refine ⟨⟨?_, ho.kept k2 (fun k e q => by have := (ho.lt k e).1; have := h.le; omega), h.b.trans (k3.below h.b.size (fun y e => ?_)), Nat.le_trans h.gs k3.size, h.le⟩, k3⟩
  · rw [heap_setCell_same _ _ _ _ _ _ xm]
    rfl
  · rcases e with rfl | e
    · exact h.le.1
    · have := (h.o.lt y e).1; have := h.le; omega
/-- What the law asks of such a round. -/
theorem ry_keeps {t c1 c2 c3 : Nat} (h : Ry w m gz a c xs W) (hk : Kept (fun y => y = m ∨ (Value.slice a xs.length c).ownBlock = some y) W W') (hc : c1 < gz ∧ c2 < gz ∧ c3 < gz ∧ t < gz) (hn : t ≠ m ∧ c1 ≠ m ∧ c2 ≠ m ∧ c3 ≠ m) : KeepsFrom gz W W' ∧ Kg t c1 c2 c3 W W' := by
  have cel : ∀ y, (y = m ∨ (Value.slice a xs.length c).ownBlock = some y) → ∃ cs ty mm, W.heap[y]? = some (.cells cs ty mm) := fun y e => by
    rcases e with rfl | e
    · exact ⟨_, _, _, h.x⟩
    · obtain ⟨cs, mm, q⟩ := h.o.ty y e
      exact ⟨_, _, _, q⟩
  have not : ∀ y, y < gz → y ≠ m → ¬ (y = m ∨ (Value.slice a xs.length c).ownBlock = some y) := fun y h1 h2 e => by
    rcases e with e | e
    · exact h2 e
    · have := (h.o.lt y e).1; omega
  have gs := h.gs
  refine ⟨⟨hk.size, fun k o hB' hk' hc' => (hk.block k (lt_of_some hk') (fun e => ?_)).trans hk'⟩, ⟨hk.size, fun k o hk' ho => (hk.block k (lt_of_some hk') (fun e => ?_)).trans hk'⟩, fun y hy => hk.block y (by omega) ?_⟩
  · obtain ⟨cs, ty, mm, q⟩ := cel k e
    rw [q] at hk'
    simp only [Option.some.injEq] at hk'
    rw [← hk'] at hc'
    simp [Obj.isCells] at hc'
  · obtain ⟨cs, ty, mm, q⟩ := cel k e
    rw [q] at hk'
    simp only [Option.some.injEq] at hk'
    rw [← hk'] at ho
    simp [Obj.isWalk] at ho
  · rcases hy with rfl | rfl | rfl | rfl
    · exact not _ hc.2.2.2 hn.1
    · exact not _ hc.1 hn.2.1
    · exact not _ hc.2.1 hn.2.2.1
    · exact not _ hc.2.2.1 hn.2.2.2
end Ac
end Go.Proofs.YtdhnpgciclbfeaaGreatDoor
end S2

section S3
namespace Go.Proofs.YtdhnpgciclbfeaaGreatDoor
open Go.RowKit Go.Sort Go.Lib
namespace Ac
/-- Texts that are paths all. -/
theorem asPaths : ∀ (xs : List ByteArray), (∀ x ∈ xs, (L.splitO x).isSome = true) → ∃ ps : List Pt, ps.map (·.1) = xs
  | [], _ => ⟨[], rfl⟩
  | x :: r, h => by
    obtain ⟨ps, hp⟩ := asPaths r fun y hy => h y (by simp [hy])
    exact ⟨Pt.mk x (h x (by simp)) :: ps, by rw [List.map_cons, hp]; rfl⟩
theorem cells_paths (ps : List Pt) : cellsR kPt ps = cellsR kS (ps.map (·.1)) := by
  unfold cellsR
  induction ps with
  | nil => rfl
  | cons p r ih => rw [List.flatMap_cons, List.map_cons, List.flatMap_cons, ih]; rfl
theorem own_paths {B : Nat} {w : World} {v : Value} {ps : List Pt} (h : OwnR kS B w v (ps.map (·.1))) : OwnR kPt B w v ps := by
  unfold OwnR at h ⊢
  rw [cells_paths]
  rw [List.length_map] at h
  exact h
theorem row_texts {w : World} {v : Value} {ps : List Pt} (h : Row kPt w v ps) : Row kS w v (ps.map (·.1)) := by
  obtain ⟨a, cap, e, h1, h2, h0, h3⟩ := h
  refine ⟨a, cap, by rw [List.length_map]; exact e, by rw [List.length_map]; exact h1, h2, h0, fun k hk => ?_⟩
  rw [List.length_map] at hk
  obtain ⟨b, off, ea, hc⟩ := h3 k hk
  refine ⟨b, off, ea, fun j y hy => hc j y ?_⟩
  rw [← hy]
  simp only [List.getD_eq_getElem?_getD, List.getElem?_map, List.getElem?_eq_getElem hk, Option.map_some, Option.getD_some]
  rfl
/-- What Reach tells: paths, none below another; each at which a binding gives it, and below one of them all at which one does. -/
structure Rc (D : DataW Unit) (u : ByteArray) (v : Int) (T : List Pt) : Prop where
  m : ∀ t ∈ T, ∃ x, InD D x ∧ isB x.s x.v u v = true ∧ x.p = t.1
  a : ∀ x, InD D x → isB x.s x.v u v = true → ∃ t ∈ T, L.underB x.p t.1 = true
  d : T.Pairwise fun x y => L.underB x.1 y.1 = false ∧ L.underB y.1 x.1 = false
def NoR (u : ByteArray) (v : Int) : Prop := ¬ (u = rootT ∧ vbB v = true)
/-- What Reach tells of any question: of the root who asks for a verb the topmost. -/
def RcT (D : DataW Unit) (u : ByteArray) (v : Int) (T : List Pt) : Prop := (u = rootT ∧ vbB v = true ∧ T = [Pt.z]) ∨ (NoR u v ∧ Rc D u v T)
end Ac
end Go.Proofs.YtdhnpgciclbfeaaGreatDoor
end S3

section S4
namespace Go.Proofs.YtdhnpgciclbfeaaGreatDoor
open Go.RowKit Go.Sort Go.Lib
namespace Ac
/-- What begins both ends of a stretch begins all between. -/
theorem pre_between {a x q : List (List UInt8)} (h : a <+: q) (h1 : ¬ x < a) (h2 : ¬ q < x) : a <+: x := by
  induction a generalizing x q with
  | nil => exact List.nil_prefix
  | cons b a ih =>
    obtain ⟨t, rfl⟩ := h
    cases x with
    | nil => exact absurd (List.nil_lt_cons _ _) h1
    | cons y x =>
      rw [List.cons_append, List.cons_lt_cons_iff] at h2
      rw [List.cons_lt_cons_iff] at h1
      have e : y = b := by
        have n1 : ¬ y < b := fun h => h1 (Or.inl h)
        have n2 : ¬ b < y := fun h => h2 (Or.inl h)
        exact List.le_antisymm (List.not_lt.1 n2) (List.not_lt.1 n1)
      subst e
      exact List.cons_prefix_cons.2 ⟨rfl, ih ⟨t, rfl⟩ (fun h => h1 (Or.inr ⟨rfl, h⟩)) (fun h => h2 (Or.inr ⟨rfl, h⟩))⟩
theorem pre_le {a q : List (List UInt8)} (h : a <+: q) : ¬ q < a := by
  induction a generalizing q with
  | nil => exact List.not_lt_nil _
  | cons b a ih =>
    obtain ⟨t, rfl⟩ := h
    rw [List.cons_append, List.cons_lt_cons_iff]
    rintro (h | ⟨_, h⟩)
    · exact List.lt_irrefl _ h
    · exact ih ⟨t, rfl⟩ h
/-- Below it, or it. -/
theorem under_pre (x y : Pt) : L.underB x.1 y.1 = true ↔ keyP y <+: keyP x := by
  obtain ⟨p, hx⟩ := x
  obtain ⟨q, hy⟩ := y
  obtain ⟨a, ha⟩ := Option.isSome_iff_exists.1 hx
  obtain ⟨b, hb⟩ := Option.isSome_iff_exists.1 hy
  obtain ⟨e1, g1⟩ := L.splitO_some ha
  obtain ⟨e2, g2⟩ := L.splitO_some hb
  subst e1 e2
  unfold keyP L.splitT
  simp only
  rw [ha, hb, L.under_line g1]
  simp only [Option.getD_some]
  constructor
  · rintro ⟨k, hk, e⟩
    have e3 : b = a.take k := by
      have q1 := L.splitO_good g2
      rw [e, L.splitO_good (g1.take k)] at q1
      exact (Option.some.inj q1).symm
    rw [e3]
    unfold ky
    rw [List.map_take]
    exact List.take_prefix _ _
  · intro h
    refine ⟨b.length, ?_, ?_⟩
    · have := h.length_le
      simpa [ky] using this
    · have e3 : ky b = ky (a.take b.length) := by
        have q := List.prefix_iff_eq_take.1 h
        rw [q]
        unfold ky
        rw [List.map_take, List.length_map]
      rw [← ky_inj e3]
/-- One more, behind the highest so far. -/
def hiS (T : List Pt) (p : Pt) : List Pt := if T = [] ∨ L.underB p.1 (T.getLastD Pt.z).1 = false then T ++ [p] else T
def hiF (ps : List Pt) : List Pt := ps.foldl hiS []
theorem hiF_snoc (ps : List Pt) (p : Pt) : hiF (ps ++ [p]) = hiS (hiF ps) p := by unfold hiF; rw [List.foldl_append]; rfl
/-- The highest of what has come. -/
structure Hi (ps T : List Pt) : Prop where
  m : ∀ t ∈ T, t ∈ ps
  a : ∀ p ∈ ps, ∃ t ∈ T, keyP t <+: keyP p
  d : T.Pairwise fun x y => ¬ keyP x <+: keyP y ∧ ¬ keyP y <+: keyP x
  l : ∀ t ∈ T, ¬ keyP (T.getLastD Pt.z) < keyP t
theorem Hi.start : Hi [] [] := ⟨fun t h => by simp at h, fun t h => by simp at h, List.Pairwise.nil, fun t h => by simp at h⟩
theorem getLastD_mem {T : List Pt} (h : T ≠ []) : T.getLastD Pt.z ∈ T := by
  have e : T.getLast? = some (T.getLast h) := by
    cases T with
    | nil => exact absurd rfl h
    | cons x r => rfl
  rw [List.getLastD_eq_getLast?, e]
  exact List.getLast_mem h
theorem Hi.step {ps T : List Pt} {p : Pt} (h : Hi ps T) (hp : ∀ x ∈ ps, ¬ keyP p < keyP x) : Hi (ps ++ [p]) (hiS T p) := by
  unfold hiS
  by_cases hc : T = [] ∨ L.underB p.1 (T.getLastD Pt.z).1 = false
  · rw [if_pos hc]
    have HN : ∀ t ∈ T, ¬ keyP t <+: keyP p ∧ ¬ keyP p <+: keyP t := fun t ht => by
      rcases hc with hc | hc
      · rw [hc] at ht; simp at ht
      · have hne : T ≠ [] := fun e => by rw [e] at ht; simp at ht
        have hl := getLastD_mem hne
        have hn : ¬ keyP (T.getLastD Pt.z) <+: keyP p := fun q => by rw [(under_pre _ _).2 q] at hc; simp at hc
        have l1 := h.l t ht
        have l2 := hp _ (h.m _ hl)
        refine ⟨fun q => ?_, fun q => ?_⟩
        · have q2 := pre_between q l1 l2
          have e : t = T.getLastD Pt.z := by
            by_cases e : t = T.getLastD Pt.z
            · exact e
            · exfalso
              obtain ⟨i, hi, e1⟩ := List.getElem_of_mem ht
              obtain ⟨j, hj, e2⟩ := List.getElem_of_mem hl
              have hij : i ≠ j := fun z => e (by rw [← e1, ← e2]; subst z; rfl)
              have q4 := List.pairwise_iff_getElem.1 h.d
              rcases Nat.lt_or_gt_of_ne hij with z | z
              · have := (q4 i j hi hj z).1
                rw [e1, e2] at this
                exact this q2
              · have := (q4 j i hj hi z).2
                rw [e1, e2] at this
                exact this q2
          rw [← e] at hn
          exact hn q
        · have q2 := pre_le q
          have e : keyP p = keyP t := by
            have a1 : ¬ keyP p < keyP t := hp t (h.m t ht)
            exact List.le_antisymm (List.not_lt.1 q2) (List.not_lt.1 a1)
          rw [e] at l2 hn
          exact hn (by rw [List.le_antisymm (List.not_lt.1 l2) (List.not_lt.1 l1)]; exact List.prefix_refl _)
    refine ⟨fun t ht => ?_, fun q hq => ?_, ?_, fun t ht => ?_⟩
    · rcases List.mem_append.1 ht with ht | ht
      · exact List.mem_append.2 (Or.inl (h.m t ht))
      · exact List.mem_append.2 (Or.inr ht)
    · rcases List.mem_append.1 hq with hq | hq
      · obtain ⟨t, a, b⟩ := h.a q hq
        exact ⟨t, List.mem_append.2 (Or.inl a), b⟩
      · rw [List.mem_singleton] at hq
        exact ⟨p, by simp, by rw [hq]; exact List.prefix_refl _⟩
    · rw [List.pairwise_append]
      refine ⟨h.d, List.pairwise_singleton _ _, fun a ha b hb => ?_⟩
      rw [List.mem_singleton] at hb
      rw [hb]
      exact HN a ha
    · have e : (T ++ [p]).getLastD Pt.z = p := by simp [List.getLastD_eq_getLast?]
      rw [e]
      rcases List.mem_append.1 ht with ht | ht
      · exact hp t (h.m t ht)
      · rw [List.mem_singleton] at ht
        rw [ht]
        exact List.lt_irrefl _
  · rw [if_neg hc]
    have hne : T ≠ [] := fun e => hc (Or.inl e)
    have hu : L.underB p.1 (T.getLastD Pt.z).1 = true := by
      cases q : L.underB p.1 (T.getLastD Pt.z).1 with
      | true => rfl
      | false => exact absurd (Or.inr q) hc
    refine ⟨fun t ht => List.mem_append.2 (Or.inl (h.m t ht)), fun q hq => ?_, h.d, h.l⟩
    rcases List.mem_append.1 hq with hq | hq
    · exact h.a q hq
    · rw [List.mem_singleton] at hq
      rw [hq]
      exact ⟨_, getLastD_mem hne, (under_pre _ _).1 hu⟩
theorem hi_all : ∀ (qs ps : List Pt) (T : List Pt), Hi ps T → RisP (ps ++ qs) → Hi (ps ++ qs) (qs.foldl hiS T)
  | [], ps, T, h, _ => by simpa using h
  | q :: qs, ps, T, h, hr => by
    have hs : Hi (ps ++ [q]) (hiS T q) := h.step fun x hx => by
      have := (List.pairwise_append.1 hr).2.2 x hx q (by simp)
      rw [lt_cPt] at this
      exact of_decide_eq_false this
    have := hi_all qs (ps ++ [q]) (hiS T q) hs (by rw [List.append_assoc]; exact hr)
    rw [List.append_assoc] at this
    exact this
theorem hi_rise {ps : List Pt} (h : RisP ps) : Hi ps (hiF ps) := by
  have := hi_all ps [] [] Hi.start h
  rw [List.nil_append] at this
  exact this
end Ac
end Go.Proofs.YtdhnpgciclbfeaaGreatDoor
end S4

section S5
namespace Go.Proofs.YtdhnpgciclbfeaaGreatDoor
open Go.RowKit Go.Sort Go.Lib
namespace Ac
theorem getLastD_snoc (T : List Pt) (p : Pt) : (T ++ [p]).getLastD Pt.z = p := by simp [List.getLastD_eq_getLast?]
theorem getLastD_at (T : List Pt) : T.getLastD Pt.z = T.getD (T.length - 1) Pt.z := by
  rw [List.getLastD_eq_getLast?, List.getLast?_eq_getElem?, List.getD_eq_getElem?_getD]
theorem take_snocP (l : List Pt) (i : Nat) (h : i < l.length) : l.take (i + 1) = l.take i ++ [l.getD i Pt.z] := by
  rw [List.take_add_one, List.getD_eq_getElem?_getD, List.getElem?_eq_getElem h]; rfl
theorem hiF_len (ps : List Pt) : (hiF ps).length ≤ ps.length := by
  have : ∀ (qs T : List Pt), (qs.foldl hiS T).length ≤ T.length + qs.length := by
    intro qs
    induction qs with
    | nil => intro T; simp
    | cons q qs ih =>
      intro T
      have h := ih (hiS T q)
      have h2 : (hiS T q).length ≤ T.length + 1 := by unfold hiS; split <;> simp
      simp only [List.foldl_cons, List.length_cons]
      omega
  have := this ps []
  rw [List.length_nil, Nat.zero_add] at this
  exact this
set_option maxHeartbeats 4000000 in
set_option maxRecDepth 100000 in
theorem highest_any (v0 : Value) (l : List Pt) (w : World) (hm : L.HasM w) (H : Row kPt w v0 l) (hl : l.length < 100000000) :
    Calls Tryz.prog 28 #[v0] w fun e w' => ∃ v, e = .returned v ∧ OwnR kPt w.heap.size w' v (hiF l) ∧ Below w.heap.size w w' := by
  obtain ⟨a0, c0, rfl, _, _⟩ := H.len
  obtain ⟨n0, hn0⟩ : ∃ n, n = l.length := ⟨_, rfl⟩
  rw [← hn0] at H ⊢
  have HH := Lib.hid H
  have HM := Lib.hid hm
  have HN := Lib.hid hn0
  have HL : n0 < 100000000 := by omega
  clear H hm hl hn0
  go_enter Tryz.func28, Tryz.ntmps28
  go_wp2_with fail
  go_loopg [3, 9] n0 (fun gg s3 si wr => ∃ (i : Nat) (T : List Pt) (a : Option Addr) (c : Nat), i ≤ n0 ∧ gg = n0 - i ∧ si = .int .i64 i ∧ s3 = .slice a T.length c ∧ Hid (T = hiF (l.take i) ∧ OwnR kPt w.heap.size wr (.slice a T.length c) T ∧ Below w.heap.size w wr))
  case atStart => exact ⟨0, [], none, 0, by omega, rfl, rfl, rfl, Lib.hid ⟨by simp [hiF], OwnR.nil _ _ _, Below.refl _ _⟩⟩
  case round =>
    obtain ⟨i, T, a, c, hi, hg, rfl, rfl, SS⟩ := hrel
    have G := Lib.hid hg
    clear hg
    by_cases h0 : i < n0
    · have h0' : (i : Int) < (n0 : Int) := by omega
      obtain ⟨bb, off, ea, pc⟩ := (HH.out.below SS.out.2.2).at i (by rw [← HN.out]; exact h0)
      subst ea
      obtain ⟨x, hx⟩ : ∃ x, x = l.getD i kPt.z := ⟨_, rfl⟩
      rw [← hx] at pc
      have p0 : wr.cell? ⟨bb, off + i, none⟩ = some (.string x.1) := by
        have q := pc 0 _ rfl
        have e : off + i * kPt.k + 0 = off + i := by show off + i * 1 + 0 = off + i; omega
        rw [e] at q
        exact q
      have FX : Hid (hiF (l.take (i + 1)) = hiS T x) := Lib.hid (by rw [take_snocP l i (by rw [← HN.out]; exact h0), hiF_snoc, ← SS.out.1, hx]; rfl)
      have TL : Hid (T.length ≤ i) := Lib.hid (by rw [SS.out.1]; have := hiF_len (l.take i); rw [List.length_take] at this; omega)
      clear pc hx
      have TB : Hid (T.length < 100000000) := Lib.hid (by have := TL.out; omega)
      by_cases ht : T.length = 0
      · have e0 : T = [] := List.length_eq_zero_iff.1 ht
        subst e0
        have FE : Hid (hiF (l.take (i + 1)) = [] ++ [x]) := Lib.hid (by rw [FX.out]; unfold hiS; rw [if_pos (Or.inl rfl)])
        have O := Lib.hid SS.out.2.1
        have B := Lib.hid SS.out.2.2
        have BZ : Hid (w.heap.size ≤ wr.heap.size) := Lib.hid B.out.size
        go_wp2_with (at_builtin; refine app_row okPt (gg := wr.heap.size) rfl _ _ rfl rfl O.out BZ.out x ?hgg rfl rfl TB.out ?_)
        case hgg => simp
        intro v' w4 h1 h2
        obtain ⟨a', c', rfl⟩ := h1.slice
        have X4 : Hid (OwnR kPt w.heap.size w4 (.slice a' ([] ++ [x] : List Pt).length c') ([] ++ [x]) ∧ Below w.heap.size w w4) := Lib.hid ⟨h1, B.out.trans ((Below.refl _ _).grown h2 B.out.size (fun k e => (O.out.lt k e).1))⟩
        clear h1 h2 O B
        go_wp2_with fail
        go_roundg (n0 - (i + 1))
        case measure => have := G.out; omega
        case rel => exact ⟨i + 1, _, a', c', by omega, rfl, by go_num, rfl, Lib.hid ⟨FE.out.symm, X4.out.1, X4.out.2⟩⟩
      · have hne : T ≠ [] := fun e => ht (by rw [e]; rfl)
        obtain ⟨k, hk⟩ : ∃ k, T.length = k + 1 := ⟨T.length - 1, by omega⟩
        have O := Lib.hid SS.out.2.1
        obtain ⟨b2, o2, ea2, pc2⟩ := (O.out.row okPt).at k (by omega)
        obtain ⟨y, hy⟩ : ∃ y, y = T.getD k kPt.z := ⟨_, rfl⟩
        rw [← hy] at pc2
        have p2 : wr.cell? ⟨b2, o2 + k, none⟩ = some (.string y.1) := by
          have q := pc2 0 _ rfl
          have e : o2 + k * kPt.k + 0 = o2 + k := by show o2 + k * 1 + 0 = o2 + k; omega
          rw [e] at q
          exact q
        have YL : Hid (T.getLastD Pt.z = y) := Lib.hid (by rw [getLastD_at T, hk, hy]; rfl)
        have NE := Lib.hid hne
        have KK := Lib.hid hk
        have kb : (k : Int) < 100000000 := by have := TB.out; omega
        have B := Lib.hid SS.out.2.2
        have UN := Lib.hid (L.under_any x.1 y.1 wr (HM.out.below SS.out.2.2))
        subst ea2
        rw [hk] at O SS ⊢
        clear pc2 hy hne hk ht
        obtain ⟨uu, hu⟩ : ∃ uu, uu = L.underB x.1 y.1 := ⟨_, rfl⟩
        rw [← hu] at UN
        have HU := Lib.hid hu
        clear hu
        have g1 : ((k : Int) + 1 == 0) = false := by rw [beq_eq_false_iff_ne]; omega
        have g2 : (((k + 1 : Nat) : Int) == 0) = false := by rw [beq_eq_false_iff_ne]; omega
        go_wp2_with fail
        refine UN.out.mono ?_
        rintro e w3 ⟨rfl, hb3⟩
        have X3 : Hid (OwnR kPt w.heap.size w3 (.slice (some ⟨b2, o2, none⟩) (k + 1) c) T ∧ Below w.heap.size w w3) := Lib.hid ⟨O.out.below hb3, B.out.trans (hb3.mono B.out.size)⟩
        clear hb3 UN
        cases uu with
        | true =>
          have FE : Hid (hiF (l.take (i + 1)) = T) := Lib.hid (by rw [FX.out]; unfold hiS; rw [if_neg (fun q => by rcases q with q | q; exact NE.out q; rw [YL.out, ← HU.out] at q; simp at q)])
          go_wp2_with fail
          go_roundg (n0 - (i + 1))
          case measure => have := G.out; omega
          case rel => exact ⟨i + 1, T, _, c, by omega, rfl, by go_num, by rw [KK.out], Lib.hid ⟨FE.out.symm, by rw [KK.out]; exact X3.out.1, X3.out.2⟩⟩
        | false =>
          have FE : Hid (hiF (l.take (i + 1)) = T ++ [x]) := Lib.hid (by rw [FX.out]; unfold hiS; rw [if_pos (Or.inr (by rw [YL.out, ← HU.out]))])
          have O3 := Lib.hid X3.out.1
          have BZ : Hid (w.heap.size ≤ w3.heap.size) := Lib.hid X3.out.2.size
          go_wp2_with (at_builtin; refine app_row okPt (gg := w3.heap.size) rfl _ _ rfl rfl O3.out BZ.out x ?hgg rfl rfl TB.out ?_)
          case hgg => simp
          intro v' w4 h1 h2
          obtain ⟨a', c', rfl⟩ := h1.slice
          have X4 : Hid (OwnR kPt w.heap.size w4 (.slice a' (T ++ [x]).length c') (T ++ [x]) ∧ Below w.heap.size w w4) := Lib.hid ⟨h1, X3.out.2.trans ((Below.refl _ _).grown h2 X3.out.2.size (fun k e => (O3.out.lt k e).1))⟩
          clear h1 h2 O3 O
          go_wp2_with fail
          go_roundg (n0 - (i + 1))
          case measure => have := G.out; omega
          case rel => exact ⟨i + 1, _, a', c', by omega, rfl, by go_num, by simp [KK.out], Lib.hid ⟨FE.out.symm, X4.out.1, X4.out.2⟩⟩
    · have DN : Hid (hiF l = T) := Lib.hid (by rw [SS.out.1, List.take_of_length_le (by rw [← HN.out]; omega)])
      go_wp2_with fail
      go_ret
      exact ⟨_, rfl, by rw [DN.out]; exact SS.out.2.1, SS.out.2.2⟩
end Ac
end Go.Proofs.YtdhnpgciclbfeaaGreatDoor
end S5

section S6
namespace Go.Proofs.YtdhnpgciclbfeaaGreatDoor
open Go.RowKit
namespace Ac
/-- Does a binding give it, by the words alone? -/
def givB (x : Bd) (u : ByteArray) (v : Int) (path : ByteArray) : Bool := (x.s.toList == u.toList) && (decide (0 ≤ v) && (decide (v ≤ x.v) && L.underB path x.p))
variable {D : DataW Unit} {u path : ByteArray} {v : Int}
theorem iv_verb (h : Iv D) {x : Bd} (hx : InD D x) : 0 ≤ x.v ∧ x.v ≤ 3 := by
  have h0 := h.v x hx
  have hS : bdS x = true := by
    unfold bdR at h0
    split at h0
    · assumption
    · simp at h0
  unfold bdS inB at hS
  simp only [Bool.and_eq_true, decide_eq_true_eq] at hS
  exact hS.2.2
theorem giv_iff (h : Iv D) {x : Bd} (hx : InD D x) : givB x u v path = true ↔ isB x.s x.v u v = true ∧ x.p ∈ lineP path := by
  have hv := iv_verb h hx
  unfold givB isB vbB
  rw [line_under]
  simp only [Bool.and_eq_true, decide_eq_true_eq, and_assoc]
  constructor
  · rintro ⟨a, b, c, d⟩; exact ⟨a, b, by omega, c, d⟩
  · rintro ⟨a, b, _, c, d⟩; exact ⟨a, b, c, d⟩
/-- Of the bindings that give it none lies lower than Why's, none at its place has a lesser name. -/
theorem near_not {r : Bool × Bd} (hn : Ny D u v path r) (hr : r.1 = true) {x : Bd} (hx : InD D x) (hb : isB x.s x.v u v = true) (hl : x.p ∈ lineP path) :
    ¬ (L.splitT r.2.p).length < (L.splitT x.p).length ∧ ¬ (x.p = r.2.p ∧ x.n.data.toList < r.2.n.data.toList) := by
  obtain ⟨⟨h1, h2, h3⟩, h4⟩ := hn.y hr
  have hf := h4 x hx hb hl
  refine ⟨fun q => hf (Or.inl ?_), fun q => hf (Or.inr ⟨by rw [q.1], q.2⟩)⟩
  unfold lineP at hl h3
  cases hp : L.splitO path with
  | none => rw [hp] at hl; simp at hl
  | some ts =>
    obtain ⟨_, hg⟩ := L.splitO_some hp
    rw [hp] at hl h3
    obtain ⟨j, hj, e1⟩ := (mem_line ts _).1 hl
    obtain ⟨k, hk, e2⟩ := (mem_line ts _).1 h3
    rw [e1, e2] at q ⊢
    unfold L.splitT at q
    rw [L.splitO_good (hg.take j), L.splitO_good (hg.take k)] at q
    simp only [Option.getD_some, List.length_take] at q
    exact line_size hg (by omega) hj
theorem under_path {a b : ByteArray} (h : L.underB a b = true) : (L.splitO a).isSome = true ∧ (L.splitO b).isSome = true := by
  unfold L.underB at h
  simp only [Bool.and_eq_true] at h
  exact h.1
theorem under_trans {a b c : ByteArray} (h : L.underB a b = true) (h' : L.underB b c = true) : L.underB a c = true := by
  obtain ⟨ha, hb⟩ := under_path h
  obtain ⟨_, hc⟩ := under_path h'
  have k1 := (under_pre (Pt.mk a ha) (Pt.mk b hb)).1 h
  have k2 := (under_pre (Pt.mk b hb) (Pt.mk c hc)).1 h'
  exact (under_pre (Pt.mk a ha) (Pt.mk c hc)).2 (k2.trans k1)
theorem under_self (t : Pt) : L.underB t.1 t.1 = true := (under_pre t t).2 (List.prefix_refl _)
/-- What Reach tells lies above a path just if a binding gives it there. -/
theorem rc_above {T : List Pt} (h : Rc D u v T) : (∃ t ∈ T, L.underB path t.1 = true) ↔ ∃ x, InD D x ∧ isB x.s x.v u v = true ∧ x.p ∈ lineP path := by
  constructor
  · rintro ⟨t, ht, hu⟩
    obtain ⟨x, h1, h2, h3⟩ := h.m t ht
    exact ⟨x, h1, h2, by rw [line_under, h3]; exact hu⟩
  · rintro ⟨x, h1, h2, h3⟩
    obtain ⟨t, ht, hu⟩ := h.a x h1 h2
    exact ⟨t, ht, under_trans ((line_under _ _).1 h3) hu⟩
/-- At what Reach tells it may be done. -/
theorem rc_may {T : List Pt} (h : Rc D u v T) (hu : u ≠ rootT) {t : Pt} (ht : t ∈ T) : MayP D u v t.1 := by
  obtain ⟨x, h1, h2, h3⟩ := h.m t ht
  exact Or.inr ⟨hu, x, h1, h2, by rw [line_under, h3]; exact under_self t⟩
theorem teq_iff (a b : ByteArray) : (a.toList == b.toList) = true ↔ a = b := by
  constructor
  · intro h
    by_cases e : a = b
    · exact e
    · rw [teq_no e] at h; exact absurd h (by decide)
  · rintro rfl; exact beq_self_eq_true _
/-- A binding among those that List tells. -/
theorem li_mem {S : List Bv} (h : Li D S) {x : Bd} : InD D x ↔ ∃ y ∈ S, y.1 = x := (h.m x).symm
theorem any_giv (hI : Iv D) {S : List Bv} (h : Li D S) : (S.any fun y => givB y.1 u v path) = true ↔ ∃ x, InD D x ∧ isB x.s x.v u v = true ∧ x.p ∈ lineP path := by
  rw [List.any_eq_true]
  constructor
  · rintro ⟨y, hy, hg⟩
    have hd := (h.m y.1).1 ⟨y, hy, rfl⟩
    have := (giv_iff hI hd).1 hg
    exact ⟨y.1, hd, this.1, this.2⟩
  · rintro ⟨x, hx, h1, h2⟩
    obtain ⟨y, hy, rfl⟩ := (h.m x).2 hx
    exact ⟨y, hy, (giv_iff hI hx).2 ⟨h1, h2⟩⟩
end Ac
end Go.Proofs.YtdhnpgciclbfeaaGreatDoor
end S6

section S7
namespace Go.Proofs.YtdhnpgciclbfeaaGreatDoor
open Go.RowKit
namespace Ac
set_option maxHeartbeats 4000000 in
set_option maxRecDepth 100000 in
theorem gives_any (x : Bd) (u : ByteArray) (v : Int) (path : ByteArray) (w : World) (hm : L.HasM w) :
    Calls Tryz.prog 10 #[x.val, .string u, .int .i64 v, .string path] w fun e w' => e = .returned (.bool (givB x u v path)) ∧ Below w.heap.size w w' := by
  obtain ⟨xp, xn, xs, xv⟩ := x
  obtain ⟨R, hR⟩ : ∃ R, R = givB ⟨xp, xn, xs, xv⟩ u v path := ⟨_, rfl⟩
  rw [← hR]
  unfold givB at hR
  unfold Bd.val
  simp only at hR ⊢
  obtain ⟨X, hX⟩ : ∃ X, X = w.alloc (.cells #[.string xp, .string xn, .string xs, .int .i64 xv] 26) := ⟨_, rfl⟩
  have AX : Hid (Below w.heap.size w X) := Lib.hid (by rw [hX]; exact (Below.refl _ _).alloc (Nat.le_refl _) _)
  have c0 : X.cell? ⟨w.heap.size, 0, none⟩ = some (.string xp) := by rw [hX, World.cell?_alloc_new]; rfl
  have c2 : X.cell? ⟨w.heap.size, 2, none⟩ = some (.string xs) := by rw [hX, World.cell?_alloc_new]; rfl
  have c3 : X.cell? ⟨w.heap.size, 3, none⟩ = some (.int .i64 xv) := by rw [hX, World.cell?_alloc_new]; rfl
  have UN := Lib.hid (L.under_any path xp X (hm.below AX.out))
  have hX' := hX.symm
  clear hX hm
  obtain ⟨uu, hu⟩ : ∃ uu, uu = L.underB path xp := ⟨_, rfl⟩
  rw [← hu] at UN hR
  clear hu
  cases hs : (xs.toList == u.toList) with
  | false =>
    rw [hs, Bool.false_and] at hR
    subst hR
    go_enter Tryz.func10, Tryz.ntmps10
    go_wp2_with fail
    go_ret
    exact ⟨rfl, AX.out⟩
  | true =>
    rw [hs, Bool.true_and] at hR
    by_cases h0 : 0 ≤ v
    · have d0 : decide (0 ≤ v) = true := decide_eq_true h0
      have e0 : decide (v ≥ 0) = true := decide_eq_true h0
      rw [d0, Bool.true_and] at hR
      by_cases h1 : v ≤ xv
      · have d1 : decide (v ≤ xv) = true := decide_eq_true h1
        rw [d1, Bool.true_and] at hR
        subst hR
        go_enter Tryz.func10, Tryz.ntmps10
        go_wp2_with fail
        refine UN.out.mono ?_
        rintro e w1 ⟨rfl, hb⟩
        have B1 := Lib.hid (AX.out.trans (hb.mono AX.out.size))
        clear hb UN
        go_wp2_with fail
        go_ret
        exact ⟨rfl, B1.out⟩
      · have d1 : decide (v ≤ xv) = false := decide_eq_false h1
        rw [d1, Bool.false_and] at hR
        subst hR
        go_enter Tryz.func10, Tryz.ntmps10
        go_wp2_with fail
        go_ret
        exact ⟨rfl, AX.out⟩
    · have d0 : decide (0 ≤ v) = false := decide_eq_false h0
      have e0 : decide (v ≥ 0) = false := decide_eq_false h0
      rw [d0, Bool.false_and] at hR
      subst hR
      go_enter Tryz.func10, Tryz.ntmps10
      go_wp2_with fail
      go_ret
      exact ⟨rfl, AX.out⟩
theorem names_any (p : ByteArray) (w : World) (hm : L.HasM w) : Calls Tryz.prog 32 #[.string p] w fun e w' => e = .returned (.int .i64 (L.splitT p).length) ∧ Below w.heap.size w w' := by
  have SP := Lib.hid (L.split_any p w hm)
  clear hm
  go_enter Tryz.func32, Tryz.ntmps32
  go_wp2_with fail
  refine SP.out.mono ?_
  rintro e w1 ⟨v, rfl, ho, hb⟩
  have B1 := Lib.hid hb
  obtain ⟨a, c, rfl, _, _⟩ := ho.strs.len
  clear ho hb SP
  go_wp2_with fail
  go_ret
  exact ⟨rfl, B1.out⟩
end Ac
end Go.Proofs.YtdhnpgciclbfeaaGreatDoor
end S7

section S8
namespace Go.Proofs.YtdhnpgciclbfeaaGreatDoor
open Go.RowKit Go.Shelf
attribute [local go_sem] Oper.semAt_some
namespace Ac
theorem rc_of {D : DataW Unit} {u : ByteArray} {v : Int} {ys : List Bd} {ps S : List Pt} (hS : ∀ x, x ∈ ys ↔ InD D x ∧ isB x.s x.v u v = true) (hp : ps.map (·.1) = ys.map (·.p)) (hq : S.Perm ps) (hr : RisP S) : Rc D u v (hiF S) := by
  have h := hi_rise hr
  refine ⟨fun t ht => ?_, fun x hx hb => ?_, h.d.imp fun {x y} q => ⟨?_, ?_⟩⟩
  · have h1 : t.1 ∈ ys.map (·.p) := by rw [← hp]; exact List.mem_map.2 ⟨t, hq.mem_iff.1 (h.m t ht), rfl⟩
    obtain ⟨x, hx, e⟩ := List.mem_map.1 h1
    exact ⟨x, ((hS x).1 hx).1, ((hS x).1 hx).2, e⟩
  · have h1 : x.p ∈ ps.map (·.1) := by rw [hp]; exact List.mem_map.2 ⟨x, (hS x).2 ⟨hx, hb⟩, rfl⟩
    obtain ⟨p, hp1, e⟩ := List.mem_map.1 h1
    obtain ⟨t, ht, hk⟩ := h.a p (hq.mem_iff.2 hp1)
    exact ⟨t, ht, by rw [← e]; exact (under_pre _ _).2 hk⟩
  · cases e : L.underB x.1 y.1 with
    | false => rfl
    | true => exact absurd ((under_pre _ _).1 e) q.2
  · cases e : L.underB y.1 x.1 with
    | false => rfl
    | true => exact absurd ((under_pre _ _).1 e) q.1
set_option maxHeartbeats 8000000 in
set_option maxRecDepth 100000 in
theorem reach_any (u : ByteArray) (v : Int) (w : World) (t b nn : Nat) (D : DataW Unit) (H : Ta w t b nn D) (hn : nn ≤ 1000000) (hv : Vl D) :
    Calls Tryz.prog 9 #[.pointer (some ⟨t, 0, none⟩), .string u, .int .i64 v] w fun e w' => ∃ vv T, e = .returned vv ∧ OwnR kPt w.heap.size w' vv T ∧ RcT D u v T ∧ Below w.heap.size w w' := by
  have SZ := Lib.hid (Nat.le_trans H.tb.m.size_le hn)
  have HH := Lib.hid H
  have VV := Lib.hid hv
  clear H hn hv
  refine (callsIn_wide (n := 8)).1 ?_
  refine callsIn_of_wp_marks Tryz.func9 rfl trivial ?_ rfl
  simp only [Tryz.ntmps9, List.size_toArray, List.length_cons, List.length_nil, Nat.reduceAdd, Nat.reduceSub, Array.replicate_succ, Array.replicate_zero, List.push_toArray, List.append_toArray, List.nil_append, List.cons_append]
  by_cases hs : u = rootT
  · subst hs
    have ge : (rootT.toList == [114, 111, 111, 116]) = true := by rw [ByteArray.toList_eq]; rfl
    cases hvb : vbB v with
    | true =>
      have IV := Lib.hid (isVerb_any v w)
      rw [hvb] at IV
      gi_wp2_with fail
      refine ⟨trivial, (callsIn_wide.2 IV.out).mono ?_⟩
      rintro e w1 ⟨rfl, hw1⟩
      subst hw1
      gi_wp2_with fail
      show LeavesInM Fence.wide 8 Tryz.prog Tryz.f9 _ _ [] .returning _
      refine ⟨_, results_tmp rfl _ _ _, _, [Pt.z], rfl, row_built w1 [Pt.z] okPt (by rfl) rfl (by decide), Or.inl ⟨rfl, hvb, rfl⟩, (Below.refl _ _).alloc (Nat.le_refl _) _⟩
    | false =>
      have IV := Lib.hid (isVerb_any v w)
      rw [hvb] at IV
      have NB : Hid (NoR rootT v) := Lib.hid (fun h => by rw [hvb] at h; exact absurd h.2 (by decide))
      clear hvb
      gi_wp2_with fail
      refine ⟨trivial, (callsIn_wide.2 IV.out).mono ?_⟩
      rintro e w1 ⟨rfl, hw1⟩
      subst hw1
      clear IV
      gi_wp2_with fail
      obtain ⟨Y3, hY3⟩ : ∃ Y, Y = w1.alloc (.cells #[.slice none 0 0] 32) := ⟨_, rfl⟩
      obtain ⟨m, hm⟩ : ∃ m, m = w1.heap.size := ⟨_, rfl⟩
      rw [← hY3, ← hm]
      have BY : Hid (Below w1.heap.size w1 Y3 ∧ Y3.heap.size = m + 1 ∧ Y3.heap[m]? = some (.cells #[.slice none 0 0] 32 (0, 0)) ∧ m = w1.heap.size) := Lib.hid (by
        rw [hY3, hm]
        exact ⟨(Below.refl _ _).alloc (Nat.le_refl _) _, by simp, heap_alloc_new _ _, rfl⟩)
      clear hY3 hm
      refine ⟨trivial, (callsIn_wide.2 (giving_any t rootT v Y3)).mono ?_⟩
      rintro e w2 ⟨rfl, rfl⟩
      unfold gF
      obtain ⟨cy, hcy⟩ : ∃ cy, cy = Y3.heap.size := ⟨_, rfl⟩
      obtain ⟨G, hG⟩ : ∃ G, G = gW Y3 t rootT v := ⟨_, rfl⟩
      rw [← hG, ← hcy]
      have GG : Hid (Below Y3.heap.size Y3 G ∧ G.heap.size = cy + 3 ∧ cy = m + 1 ∧ (G.cell? ⟨cy, 0, none⟩ = some (.pointer (some ⟨t, 0, none⟩)) ∧ G.cell? ⟨cy + 1, 0, none⟩ = some (.string rootT) ∧ G.cell? ⟨cy + 1 + 1, 0, none⟩ = some (.int .i64 v))) := Lib.hid (by
        rw [hG, hcy]
        exact ⟨gW_below _ _ _ _, gW_size _ _ _ _, BY.out.2.1, gW_cells _ _ _ _⟩)
      clear hG hcy
      have BG : Hid (Below w1.heap.size w1 G ∧ Tb G t b nn D ∧ m = w1.heap.size ∧ t < w1.heap.size ∧ b < w1.heap.size) := Lib.hid (by
        have b1 : Below w1.heap.size w1 G := BY.out.1.trans (GG.out.1.mono BY.out.1.size)
        exact ⟨b1, HH.out.tb.below b1, BY.out.2.2.2, lt_of_some HH.out.tb.t, HH.out.tb.m.lt⟩)
      have I0 : Hid (([] : List Bd).length ≤ Maps.size D ∧ ∃ a c, Ry w1 m G.heap.size a c (([] : List Bd).map (·.p)) G) := Lib.hid (by
        refine ⟨Nat.zero_le _, none, 0, (GG.out.1.block _ (lt_of_some BY.out.2.2.1)).trans BY.out.2.2.1, OwnR.nil _ _ _, BG.out.1, Nat.le_refl _, ?_⟩
        have q1 := BG.out.2.2.1
        have q2 := GG.out.2.1
        have q3 := GG.out.2.2.1
        omega)
      gi_wp2_with fail
      refine wpIn_rangeFunc_ownH (α := Bd) rfl (by decide) (gf := 40) (lb := #[.pointer (some ⟨cy, 0, none⟩), .pointer (some ⟨cy + 1, 0, none⟩), .pointer (some ⟨cy + 1 + 1, 0, none⟩)]) rfl trivial (enters_of Tryz.func40 (by kernel_rfl) rfl)
        (giv1 7 (by decide) t b nn cy (cy + 1) (cy + 1 + 1) D rootT v G BG.out.2.1 GG.out.2.2.2.1 GG.out.2.2.2.2.1 GG.out.2.2.2.2.2) (fun h k => ⟨h.1.trans k.1, fun y hy => (k.2 y hy).trans (h.2 y hy)⟩) ?hKb (Below.refl _ _) (fun _ => rfl)
        (fun pre W => pre.length ≤ Maps.size D ∧ ∃ a c, Ry w1 m G.heap.size a c (pre.map (·.p)) W) (fun _ _ _ => False) ?hI (fun _ _ _ _ _ hs _ _ => hs) I0.out
        (fun x a' W => ∃ Bx, G.heap.size ≤ Bx ∧ W.heap[Bx]? = some (.cells #[.string x.p, .string x.n, .string x.s, .int .i64 x.v] 26 (0, 0)) ∧ a' = { tmps := #[.pointer (some ⟨t, 0, none⟩), .string rootT, .int .i64 v, undef, undef, undef, .slice none 0 0, .pointer (some ⟨m, 0, none⟩), .pointer (some ⟨Bx, 0, none⟩), .string rootT, .bool true, .bool true, .int .i64 v, .bool false, .bool false, undef, .pointer (some ⟨t, 0, none⟩), .string rootT, .int .i64 v, .func (.func 40) #[] #[.pointer (some ⟨cy, 0, none⟩), .pointer (some ⟨cy + 1, 0, none⟩), .pointer (some ⟨cy + 1 + 1, 0, none⟩)], x.val, undef, undef, undef, undef, undef, undef, undef, undef, undef], defers := [] }) ?hAx ?assign ?body ?done ?stop
      case hKb =>
        intro W l o o' hl ho hc hw
        have q := BG.out
        have q2 := GG.out.2.1
        have q3 := GG.out.2.2.1
        refine ⟨⟨by simp [World.putObj], fun k ob hk hwk => ?_⟩, fun y hy => World.putObj_heap_other (by omega)⟩
        by_cases e : k = l
        · rw [e, ho] at hk
          simp only [Option.some.injEq] at hk
          rw [hk, hwk] at hw
          simp at hw
        · exact (World.putObj_heap_other e).trans hk
      case hI =>
        rintro pre W W' row ⟨hz, a, c, hs⟩ hg hr
        exact ⟨hz, a, c, hs.grown (by have := BG.out.1.size; omega) hg hr⟩
      case hAx =>
        rintro x a' _ W W' row ⟨Bx, h1, h2, h3⟩ hg hr
        exact ⟨Bx, h1, cells_same hg hr h2, h3⟩
      case assign =>
        rintro l pre ⟨xp, xn, xs, xv⟩ W K ⟨hz, a, c, hi⟩ hK
        unfold Bd.val
        have HK := Lib.hid hK
        have HI := Lib.hid hi
        clear hK hi
        gi_wp2
        have bl : Below W.heap.size W (W.alloc (.cells #[.string xp, .string xn, .string xs, .int .i64 xv] 26)) := (Below.refl _ W).alloc (Nat.le_refl _) _
        have q := BG.out
        have q2 := GG.out.2.1
        have q3 := HI.out.gs
        have q4 := GG.out.2.2.1
        refine HK.out _ _ ((KeepsOthers.alloc _ _).from _) ⟨KeepsWalks.alloc _ _, fun y hy => bl.block y ?_⟩ ⟨hz, a, c, HI.out.below bl⟩ ⟨W.heap.size, q3, by rw [heap_alloc_new], rfl⟩
        have := q.1.size
        omega
      case body =>
        rintro l pre ⟨xp, xn, xs, xv⟩ a' W hl ⟨r, hr⟩ ⟨_, a, c, hi⟩ ⟨Bx, hBx, bX, rfl⟩ hlt
        have HI := Lib.hid hi
        have HX : Hid (W.heap[Bx]? = some (.cells #[.string xp, .string xn, .string xs, .int .i64 xv] 26 (0, 0))) := Lib.hid bX
        obtain ⟨ys, hys⟩ : ∃ ys, ys = pre.map (·.p) := ⟨_, rfl⟩
        have YS : Hid (ys ++ [xp] = (pre ++ [(⟨xp, xn, xs, xv⟩ : Bd)]).map (·.p)) := Lib.hid (by rw [hys, List.map_append]; rfl)
        have LN : Hid (ys.length < 100000000) := Lib.hid (by rw [hys, List.length_map]; have := SZ.out; omega)
        have PL : Hid ((pre ++ [(⟨xp, xn, xs, xv⟩ : Bd)]).length ≤ Maps.size D) := Lib.hid (by simp; omega)
        rw [← hys] at HI
        clear hi bX hl hr hlt hys
        have k7 : W.cell? ⟨m, 0, none⟩ = some (.slice a ys.length c) := by rw [cell_of_row _ _ _ _ _ _ HI.out.x]; rfl
        have x0 : W.cell? ⟨Bx, 0, none⟩ = some (.string xp) := by rw [cell_of_row _ _ _ _ _ _ HX.out]; rfl
        unfold Bd.val
        have O := Lib.hid HI.out.o
        have BZ : Hid (G.heap.size ≤ W.heap.size) := Lib.hid HI.out.gs
        gi_wp2_with (first
          | (gi_at_builtin; refine app_rowIn okS (gg := W.heap.size) rfl _ _ rfl rfl O.out BZ.out xp ?hgg rfl rfl LN.out ?_)
          | gi_in)
        case hgg => simp
        intro v' w4 h1 h2
        obtain ⟨a', c', rfl⟩ := h1.slice
        obtain ⟨s1, s2⟩ := HI.out.step h2 h1
        have S4 := Lib.hid (And.intro s1 s2)
        have fz : w4.frozen? ⟨m, 0, none⟩ = false := by
          have nm : (Value.slice a ys.length c).ownBlock ≠ some m := fun e => by have := (O.out.lt m e).1; have := HI.out.le; omega
          exact frozen_of_row _ _ _ _ _ ((h2.block m (lt_of_some HI.out.x) (fun e => nm e.symm)).trans HI.out.x)
        have cz : w4.cell? ⟨m, 0, none⟩ = some (.slice a ys.length c) := by
          have nm : (Value.slice a ys.length c).ownBlock ≠ some m := fun e => by have := (O.out.lt m e).1; have := HI.out.le; omega
          rw [cell_of_row _ _ _ _ _ _ ((h2.block m (lt_of_some HI.out.x) (fun e => nm e.symm)).trans HI.out.x)]; rfl
        have END : Hid (KeepsFrom G.heap.size W (w4.setCell ⟨m, 0, none⟩ (.slice a' (ys ++ [xp]).length c')) ∧ Kg t cy (cy + 1) (cy + 1 + 1) W (w4.setCell ⟨m, 0, none⟩ (.slice a' (ys ++ [xp]).length c')) ∧ (pre ++ [(⟨xp, xn, xs, xv⟩ : Bd)]).length ≤ Maps.size D ∧ ∃ a c, Ry w1 m G.heap.size a c ((pre ++ [(⟨xp, xn, xs, xv⟩ : Bd)]).map (·.p)) (w4.setCell ⟨m, 0, none⟩ (.slice a' (ys ++ [xp]).length c'))) := Lib.hid (by
          have q := BG.out
          have q2 := GG.out.2.1
          have q4 := GG.out.2.2.1
          obtain ⟨e1, e2⟩ := ry_keeps (t := t) (c1 := cy) (c2 := cy + 1) (c3 := cy + 1 + 1) HI.out s2 (by omega) (by omega)
          exact ⟨e1, e2, PL.out, a', c', by rw [← YS.out]; exact s1⟩)
        clear h1 h2 s1 s2
        rw [show (ys ++ [xp]).length = ys.length + 1 by simp] at END
        gi_wp2
        exact END.out
      case done =>
        rintro D' ys W hD hS ⟨hz, a, c, hi⟩ hK
        obtain ⟨ps, hps⟩ := asPaths (ys.map (·.p)) (fun x hx => by obtain ⟨y, hy, rfl⟩ := List.mem_map.1 hx; exact VV.out y ((hS y).1 hy).1)
        have PS : Hid (ps.map (·.1) = ys.map (·.p) ∧ (∀ x, x ∈ ys ↔ InD D x ∧ isB x.s x.v rootT v = true)) := Lib.hid ⟨hps, hS⟩
        have LP : Hid (ps.length < 100000000) := Lib.hid (by have e := congrArg List.length hps; rw [List.length_map, List.length_map] at e; have := SZ.out; omega)
        have HI : Hid (Ry w1 m G.heap.size a c (ps.map (·.1)) W) := Lib.hid (by rw [hps]; exact hi)
        have HO : Hid (OwnR kPt G.heap.size W (.slice a ps.length c) ps) := Lib.hid (own_paths (by have := HI.out.o; rw [List.length_map] at this; exact this))
        have HD : Hid (G.heap.size ≤ D' ∧ W.heap[D']? = some (.deferred (some []))) := Lib.hid ⟨hD, hK⟩
        have WG : Hid (w1.heap.size ≤ G.heap.size) := Lib.hid BG.out.1.size
        have SO := Lib.hid (sort_paths HH.out.hm HI.out.b WG.out HO.out LP.out)
        have k7 : W.cell? ⟨m, 0, none⟩ = some (.slice a ps.length c) := by have := HI.out.x; rw [List.length_map] at this; rw [cell_of_row _ _ _ _ _ _ this]; rfl
        clear hD hS hi hK hps hz
        gi_wp2_with fail
        refine ⟨trivial, (callsIn_wide.2 SO.out).mono ?_⟩
        rintro e w5 ⟨rfl, S, hp, hr, hrow, hg⟩
        have nm : ∀ y, y < G.heap.size → (Value.slice a ps.length c).ownBlock ≠ some y := fun y hy e => by have := (HO.out.lt y e).1; omega
        have b5 : Below w1.heap.size w1 w5 := HI.out.b.trans ((Below.refl _ W).grown hg HI.out.b.size (fun k e => by have := (HO.out.lt k e).1; have := WG.out; omega))
        have S5 : Hid (S.Perm ps ∧ RisP S ∧ Row kPt w5 (.slice a ps.length c) S ∧ Below w1.heap.size w1 w5 ∧ w5.heap[D']? = some (.deferred (some [])) ∧ G.heap.size ≤ w5.heap.size) := Lib.hid ⟨hp, hr, hrow, b5, (hg.block D' (lt_of_some HD.out.2) (fun e => by
          obtain ⟨cs, mm, q⟩ := HO.out.ty D' e.symm
          rw [HD.out.2] at q
          simp at q)).trans HD.out.2, Nat.le_trans HI.out.gs hg.size⟩
        have k8 : w5.cell? ⟨m, 0, none⟩ = some (.slice a ps.length c) := by
          have e : w5.heap[m]? = W.heap[m]? := hg.block m (lt_of_some HI.out.x) (fun e => nm m HI.out.le.2 e.symm)
          have := HI.out.x
          rw [List.length_map] at this
          rw [cell_of_row _ _ _ _ _ _ (e.trans this)]; rfl
        have LS : Hid (S.length < 100000000) := Lib.hid (by rw [hp.length_eq]; exact LP.out)
        have HG := Lib.hid (highest_any (.slice a ps.length c) S w5 (HH.out.hm.below b5) hrow LS.out)
        clear hp hr hrow hg b5 k7 SO
        gi_wp2_with fail
        refine ⟨trivial, (callsIn_wide.2 HG.out).mono ?_⟩
        rintro e w6 ⟨v6, rfl, ho, hb⟩
        have S6 : Hid (OwnR kPt w5.heap.size w6 v6 (hiF S) ∧ Below w5.heap.size w5 w6) := Lib.hid ⟨ho, hb⟩
        have d6 : w6.heap[D']? = some (.deferred (some [])) := (hb.block D' (lt_of_some S5.out.2.2.2.2.1)).trans S5.out.2.2.2.2.1
        have D6 := Lib.hid d6
        clear ho hb k8 HG d6
        gi_wp2
        refine ⟨by simp, .inl ⟨_, _, rfl, run_takeDeferred D6.out, ?_⟩⟩
        have kd : Kept (fun y => y = D') w6 (w6.putObj D' (.deferred none)) := ⟨rfl, rfl, rfl, by simp [World.putObj], fun k _ hn => World.putObj_heap_other hn⟩
        have lD := lt_of_some S5.out.2.2.2.2.1
        have b6 : Below w1.heap.size w1 w6 := S5.out.2.2.2.1.trans (S6.out.2.mono S5.out.2.2.2.1.size)
        refine ⟨_, results_tmp rfl _ _ _, v6, hiF S, rfl, (S6.out.1.kept kd (fun k e q => by have := (S6.out.1.lt k e).1; omega)).mono S5.out.2.2.2.1.size, Or.inr ⟨NB.out, rc_of PS.out.2 PS.out.1 S5.out.1 S5.out.2.1⟩, b6.trans (kd.below b6.size (fun x e => by have := HD.out.1; have := WG.out; omega))⟩
      case stop => rintro D' c' pre W _ _ h _; exact h.elim
  · have ge : (u.toList == [114, 111, 111, 116]) = false := by
      have q := teq_no hs
      rw [show rootT.toList = [114, 111, 111, 116] by rw [ByteArray.toList_eq]; rfl] at q
      exact q
    have NB : Hid (NoR u v) := Lib.hid (fun h => absurd h.1 hs)
    clear hs
    gi_wp2_with fail
    refine ⟨trivial, ?_⟩
    gi_wp2_with fail
    obtain ⟨Y3, hY3⟩ : ∃ Y, Y = w.alloc (.cells #[.slice none 0 0] 32) := ⟨_, rfl⟩
    obtain ⟨m, hm⟩ : ∃ m, m = w.heap.size := ⟨_, rfl⟩
    rw [← hY3, ← hm]
    have BY : Hid (Below w.heap.size w Y3 ∧ Y3.heap.size = m + 1 ∧ Y3.heap[m]? = some (.cells #[.slice none 0 0] 32 (0, 0)) ∧ m = w.heap.size) := Lib.hid (by
      rw [hY3, hm]
      exact ⟨(Below.refl _ _).alloc (Nat.le_refl _) _, by simp, heap_alloc_new _ _, rfl⟩)
    clear hY3 hm
    refine ⟨trivial, (callsIn_wide.2 (giving_any t u v Y3)).mono ?_⟩
    rintro e w2 ⟨rfl, rfl⟩
    unfold gF
    obtain ⟨cy, hcy⟩ : ∃ cy, cy = Y3.heap.size := ⟨_, rfl⟩
    obtain ⟨G, hG⟩ : ∃ G, G = gW Y3 t u v := ⟨_, rfl⟩
    rw [← hG, ← hcy]
    have GG : Hid (Below Y3.heap.size Y3 G ∧ G.heap.size = cy + 3 ∧ cy = m + 1 ∧ (G.cell? ⟨cy, 0, none⟩ = some (.pointer (some ⟨t, 0, none⟩)) ∧ G.cell? ⟨cy + 1, 0, none⟩ = some (.string u) ∧ G.cell? ⟨cy + 1 + 1, 0, none⟩ = some (.int .i64 v))) := Lib.hid (by
      rw [hG, hcy]
      exact ⟨gW_below _ _ _ _, gW_size _ _ _ _, BY.out.2.1, gW_cells _ _ _ _⟩)
    clear hG hcy
    have BG : Hid (Below w.heap.size w G ∧ Tb G t b nn D ∧ m = w.heap.size ∧ t < w.heap.size ∧ b < w.heap.size) := Lib.hid (by
      have b1 : Below w.heap.size w G := BY.out.1.trans (GG.out.1.mono BY.out.1.size)
      exact ⟨b1, HH.out.tb.below b1, BY.out.2.2.2, lt_of_some HH.out.tb.t, HH.out.tb.m.lt⟩)
    have I0 : Hid (([] : List Bd).length ≤ Maps.size D ∧ ∃ a c, Ry w m G.heap.size a c (([] : List Bd).map (·.p)) G) := Lib.hid (by
      refine ⟨Nat.zero_le _, none, 0, (GG.out.1.block _ (lt_of_some BY.out.2.2.1)).trans BY.out.2.2.1, OwnR.nil _ _ _, BG.out.1, Nat.le_refl _, ?_⟩
      have q1 := BG.out.2.2.1
      have q2 := GG.out.2.1
      have q3 := GG.out.2.2.1
      omega)
    gi_wp2_with fail
    refine wpIn_rangeFunc_ownH (α := Bd) rfl (by decide) (gf := 40) (lb := #[.pointer (some ⟨cy, 0, none⟩), .pointer (some ⟨cy + 1, 0, none⟩), .pointer (some ⟨cy + 1 + 1, 0, none⟩)]) rfl trivial (enters_of Tryz.func40 (by kernel_rfl) rfl)
      (giv1 7 (by decide) t b nn cy (cy + 1) (cy + 1 + 1) D u v G BG.out.2.1 GG.out.2.2.2.1 GG.out.2.2.2.2.1 GG.out.2.2.2.2.2) (fun h k => ⟨h.1.trans k.1, fun y hy => (k.2 y hy).trans (h.2 y hy)⟩) ?hKb (Below.refl _ _) (fun _ => rfl)
      (fun pre W => pre.length ≤ Maps.size D ∧ ∃ a c, Ry w m G.heap.size a c (pre.map (·.p)) W) (fun _ _ _ => False) ?hI (fun _ _ _ _ _ hs _ _ => hs) I0.out
      (fun x a' W => ∃ Bx, G.heap.size ≤ Bx ∧ W.heap[Bx]? = some (.cells #[.string x.p, .string x.n, .string x.s, .int .i64 x.v] 26 (0, 0)) ∧ a' = { tmps := #[.pointer (some ⟨t, 0, none⟩), .string u, .int .i64 v, undef, undef, undef, .slice none 0 0, .pointer (some ⟨m, 0, none⟩), .pointer (some ⟨Bx, 0, none⟩), .string u, .bool false, .bool false, undef, undef, .bool false, undef, .pointer (some ⟨t, 0, none⟩), .string u, .int .i64 v, .func (.func 40) #[] #[.pointer (some ⟨cy, 0, none⟩), .pointer (some ⟨cy + 1, 0, none⟩), .pointer (some ⟨cy + 1 + 1, 0, none⟩)], x.val, undef, undef, undef, undef, undef, undef, undef, undef, undef], defers := [] }) ?hAx ?assign ?body ?done ?stop
    case hKb =>
      intro W l o o' hl ho hc hw
      have q := BG.out
      have q2 := GG.out.2.1
      have q3 := GG.out.2.2.1
      refine ⟨⟨by simp [World.putObj], fun k ob hk hwk => ?_⟩, fun y hy => World.putObj_heap_other (by omega)⟩
      by_cases e : k = l
      · rw [e, ho] at hk
        simp only [Option.some.injEq] at hk
        rw [hk, hwk] at hw
        simp at hw
      · exact (World.putObj_heap_other e).trans hk
    case hI =>
      rintro pre W W' row ⟨hz, a, c, hs⟩ hg hr
      exact ⟨hz, a, c, hs.grown (by have := BG.out.1.size; omega) hg hr⟩
    case hAx =>
      rintro x a' _ W W' row ⟨Bx, h1, h2, h3⟩ hg hr
      exact ⟨Bx, h1, cells_same hg hr h2, h3⟩
    case assign =>
      rintro l pre ⟨xp, xn, xs, xv⟩ W K ⟨hz, a, c, hi⟩ hK
      unfold Bd.val
      have HK := Lib.hid hK
      have HI := Lib.hid hi
      clear hK hi
      gi_wp2
      have bl : Below W.heap.size W (W.alloc (.cells #[.string xp, .string xn, .string xs, .int .i64 xv] 26)) := (Below.refl _ W).alloc (Nat.le_refl _) _
      have q := BG.out
      have q2 := GG.out.2.1
      have q3 := HI.out.gs
      have q4 := GG.out.2.2.1
      refine HK.out _ _ ((KeepsOthers.alloc _ _).from _) ⟨KeepsWalks.alloc _ _, fun y hy => bl.block y ?_⟩ ⟨hz, a, c, HI.out.below bl⟩ ⟨W.heap.size, q3, by rw [heap_alloc_new], rfl⟩
      have := q.1.size
      omega
    case body =>
      rintro l pre ⟨xp, xn, xs, xv⟩ a' W hl ⟨r, hr⟩ ⟨_, a, c, hi⟩ ⟨Bx, hBx, bX, rfl⟩ hlt
      have HI := Lib.hid hi
      have HX : Hid (W.heap[Bx]? = some (.cells #[.string xp, .string xn, .string xs, .int .i64 xv] 26 (0, 0))) := Lib.hid bX
      obtain ⟨ys, hys⟩ : ∃ ys, ys = pre.map (·.p) := ⟨_, rfl⟩
      have YS : Hid (ys ++ [xp] = (pre ++ [(⟨xp, xn, xs, xv⟩ : Bd)]).map (·.p)) := Lib.hid (by rw [hys, List.map_append]; rfl)
      have LN : Hid (ys.length < 100000000) := Lib.hid (by rw [hys, List.length_map]; have := SZ.out; omega)
      have PL : Hid ((pre ++ [(⟨xp, xn, xs, xv⟩ : Bd)]).length ≤ Maps.size D) := Lib.hid (by simp; omega)
      rw [← hys] at HI
      clear hi bX hl hr hlt hys
      have k7 : W.cell? ⟨m, 0, none⟩ = some (.slice a ys.length c) := by rw [cell_of_row _ _ _ _ _ _ HI.out.x]; rfl
      have x0 : W.cell? ⟨Bx, 0, none⟩ = some (.string xp) := by rw [cell_of_row _ _ _ _ _ _ HX.out]; rfl
      unfold Bd.val
      have O := Lib.hid HI.out.o
      have BZ : Hid (G.heap.size ≤ W.heap.size) := Lib.hid HI.out.gs
      gi_wp2_with (first
        | (gi_at_builtin; refine app_rowIn okS (gg := W.heap.size) rfl _ _ rfl rfl O.out BZ.out xp ?hgg rfl rfl LN.out ?_)
        | gi_in)
      case hgg => simp
      intro v' w4 h1 h2
      obtain ⟨a', c', rfl⟩ := h1.slice
      obtain ⟨s1, s2⟩ := HI.out.step h2 h1
      have S4 := Lib.hid (And.intro s1 s2)
      have fz : w4.frozen? ⟨m, 0, none⟩ = false := by
        have nm : (Value.slice a ys.length c).ownBlock ≠ some m := fun e => by have := (O.out.lt m e).1; have := HI.out.le; omega
        exact frozen_of_row _ _ _ _ _ ((h2.block m (lt_of_some HI.out.x) (fun e => nm e.symm)).trans HI.out.x)
      have cz : w4.cell? ⟨m, 0, none⟩ = some (.slice a ys.length c) := by
        have nm : (Value.slice a ys.length c).ownBlock ≠ some m := fun e => by have := (O.out.lt m e).1; have := HI.out.le; omega
        rw [cell_of_row _ _ _ _ _ _ ((h2.block m (lt_of_some HI.out.x) (fun e => nm e.symm)).trans HI.out.x)]; rfl
      have END : Hid (KeepsFrom G.heap.size W (w4.setCell ⟨m, 0, none⟩ (.slice a' (ys ++ [xp]).length c')) ∧ Kg t cy (cy + 1) (cy + 1 + 1) W (w4.setCell ⟨m, 0, none⟩ (.slice a' (ys ++ [xp]).length c')) ∧ (pre ++ [(⟨xp, xn, xs, xv⟩ : Bd)]).length ≤ Maps.size D ∧ ∃ a c, Ry w m G.heap.size a c ((pre ++ [(⟨xp, xn, xs, xv⟩ : Bd)]).map (·.p)) (w4.setCell ⟨m, 0, none⟩ (.slice a' (ys ++ [xp]).length c'))) := Lib.hid (by
        have q := BG.out
        have q2 := GG.out.2.1
        have q4 := GG.out.2.2.1
        obtain ⟨e1, e2⟩ := ry_keeps (t := t) (c1 := cy) (c2 := cy + 1) (c3 := cy + 1 + 1) HI.out s2 (by omega) (by omega)
        exact ⟨e1, e2, PL.out, a', c', by rw [← YS.out]; exact s1⟩)
      clear h1 h2 s1 s2
      rw [show (ys ++ [xp]).length = ys.length + 1 by simp] at END
      gi_wp2
      exact END.out
    case done =>
      rintro D' ys W hD hS ⟨hz, a, c, hi⟩ hK
      obtain ⟨ps, hps⟩ := asPaths (ys.map (·.p)) (fun x hx => by obtain ⟨y, hy, rfl⟩ := List.mem_map.1 hx; exact VV.out y ((hS y).1 hy).1)
      have PS : Hid (ps.map (·.1) = ys.map (·.p) ∧ (∀ x, x ∈ ys ↔ InD D x ∧ isB x.s x.v u v = true)) := Lib.hid ⟨hps, hS⟩
      have LP : Hid (ps.length < 100000000) := Lib.hid (by have e := congrArg List.length hps; rw [List.length_map, List.length_map] at e; have := SZ.out; omega)
      have HI : Hid (Ry w m G.heap.size a c (ps.map (·.1)) W) := Lib.hid (by rw [hps]; exact hi)
      have HO : Hid (OwnR kPt G.heap.size W (.slice a ps.length c) ps) := Lib.hid (own_paths (by have := HI.out.o; rw [List.length_map] at this; exact this))
      have HD : Hid (G.heap.size ≤ D' ∧ W.heap[D']? = some (.deferred (some []))) := Lib.hid ⟨hD, hK⟩
      have WG : Hid (w.heap.size ≤ G.heap.size) := Lib.hid BG.out.1.size
      have SO := Lib.hid (sort_paths HH.out.hm HI.out.b WG.out HO.out LP.out)
      have k7 : W.cell? ⟨m, 0, none⟩ = some (.slice a ps.length c) := by have := HI.out.x; rw [List.length_map] at this; rw [cell_of_row _ _ _ _ _ _ this]; rfl
      clear hD hS hi hK hps hz
      gi_wp2_with fail
      refine ⟨trivial, (callsIn_wide.2 SO.out).mono ?_⟩
      rintro e w5 ⟨rfl, S, hp, hr, hrow, hg⟩
      have nm : ∀ y, y < G.heap.size → (Value.slice a ps.length c).ownBlock ≠ some y := fun y hy e => by have := (HO.out.lt y e).1; omega
      have b5 : Below w.heap.size w w5 := HI.out.b.trans ((Below.refl _ W).grown hg HI.out.b.size (fun k e => by have := (HO.out.lt k e).1; have := WG.out; omega))
      have S5 : Hid (S.Perm ps ∧ RisP S ∧ Row kPt w5 (.slice a ps.length c) S ∧ Below w.heap.size w w5 ∧ w5.heap[D']? = some (.deferred (some [])) ∧ G.heap.size ≤ w5.heap.size) := Lib.hid ⟨hp, hr, hrow, b5, (hg.block D' (lt_of_some HD.out.2) (fun e => by
        obtain ⟨cs, mm, q⟩ := HO.out.ty D' e.symm
        rw [HD.out.2] at q
        simp at q)).trans HD.out.2, Nat.le_trans HI.out.gs hg.size⟩
      have k8 : w5.cell? ⟨m, 0, none⟩ = some (.slice a ps.length c) := by
        have e : w5.heap[m]? = W.heap[m]? := hg.block m (lt_of_some HI.out.x) (fun e => nm m HI.out.le.2 e.symm)
        have := HI.out.x
        rw [List.length_map] at this
        rw [cell_of_row _ _ _ _ _ _ (e.trans this)]; rfl
      have LS : Hid (S.length < 100000000) := Lib.hid (by rw [hp.length_eq]; exact LP.out)
      have HG := Lib.hid (highest_any (.slice a ps.length c) S w5 (HH.out.hm.below b5) hrow LS.out)
      clear hp hr hrow hg b5 k7 SO
      gi_wp2_with fail
      refine ⟨trivial, (callsIn_wide.2 HG.out).mono ?_⟩
      rintro e w6 ⟨v6, rfl, ho, hb⟩
      have S6 : Hid (OwnR kPt w5.heap.size w6 v6 (hiF S) ∧ Below w5.heap.size w5 w6) := Lib.hid ⟨ho, hb⟩
      have d6 : w6.heap[D']? = some (.deferred (some [])) := (hb.block D' (lt_of_some S5.out.2.2.2.2.1)).trans S5.out.2.2.2.2.1
      have D6 := Lib.hid d6
      clear ho hb k8 HG d6
      gi_wp2
      refine ⟨by simp, .inl ⟨_, _, rfl, run_takeDeferred D6.out, ?_⟩⟩
      have kd : Kept (fun y => y = D') w6 (w6.putObj D' (.deferred none)) := ⟨rfl, rfl, rfl, by simp [World.putObj], fun k _ hn => World.putObj_heap_other hn⟩
      have lD := lt_of_some S5.out.2.2.2.2.1
      have b6 : Below w.heap.size w w6 := S5.out.2.2.2.1.trans (S6.out.2.mono S5.out.2.2.2.1.size)
      refine ⟨_, results_tmp rfl _ _ _, v6, hiF S, rfl, (S6.out.1.kept kd (fun k e q => by have := (S6.out.1.lt k e).1; omega)).mono S5.out.2.2.2.1.size, Or.inr ⟨NB.out, rc_of PS.out.2 PS.out.1 S5.out.1 S5.out.2.1⟩, b6.trans (kd.below b6.size (fun x e => by have := HD.out.1; have := WG.out; omega))⟩
    case stop => rintro D' c' pre W _ _ h _; exact h.elim
end Ac
end Go.Proofs.YtdhnpgciclbfeaaGreatDoor
end S8
