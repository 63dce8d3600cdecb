/-
  AkQ, AkR, AkS, AkT, AkU, AkW, joined.
-/
import Derived.Test.YthdofbjijpghfaaGreatDoorAkO
import Derived.Deep.RegionHeld3
section S0
namespace Go.Proofs.YthdofbjijpghfaaGreatDoor
open Go.RowKit Go.Sort
namespace Ac
variable {w w' : World} {t b n r B c : Nat} {a : Option Addr} {D D' : DataW Unit} {M M' : List Bv}
structure Pr (w : World) (t b n r : Nat) (a : Option Addr) (c : Nat) (D : DataW Unit) (M : List Bv) : Prop where
  ta : Ta w t b n D
  rt : ∃ B, B ≤ w.heap.size ∧ Rt w r B a c M
  dm : Dm D M
  iv : Iv D
  ln : M.length ≤ n
  lo : 0 < r
theorem Ta.keptF {F : Nat → Prop} (H : Ta w t b n D) (hk : Kept F w w') (ht : ¬ F t) (hb : ¬ F b) (hg : ¬ F 0) : Ta w' t b n D := by
  refine ⟨H.tb.kept hk ht hb, ?_⟩
  obtain ⟨m, hc⟩ := H.hm
  exact ⟨m, (World.cell?_of_block (hk.block _ (block_lt_of_cell hc) hg)).trans hc⟩
theorem ne_br (H : Ta w t b n D) (R : Rt w r B a c M) : r ≠ b := fun e => by
  obtain ⟨es, k, hb⟩ := H.tb.map
  have := R.x
  rw [e, hb] at this
  simp at this
theorem ne_tr (H : Ta w t b n D) (R : Rt w r B a c M) : t ≠ r := fun e => by
  have h1 := H.tb.t
  have h2 := R.x
  rw [e, h2] at h1
  simp at h1
theorem ne_row (H : Ta w t b n D) (R : Rt w r B a c M) {k : Nat} (hk : (Value.slice a M.length c).ownBlock = some k) : b ≠ k ∧ t ≠ k ∧ r < k := by
  obtain ⟨cs, m, h⟩ := R.o.ty k hk
  refine ⟨fun e => ?_, fun e => ?_, by have := R.lt; have := (R.o.lt k hk).1; omega⟩
  · obtain ⟨es, q, hb⟩ := H.tb.map
    rw [e, h] at hb
    simp at hb
  · have h1 := H.tb.t
    rw [e, h] at h1
    simp only [Option.some.injEq, Obj.cells.injEq] at h1
    exact absurd h1.2.1 (by decide)
/-- The map is turned alone. -/
theorem Rt.keptB (R : Rt w r B a c M) (H : Ta w t b n D) (hk : Kept (fun y => y = b) w w') : Rt w' r B a c M :=
  ⟨(hk.block r (lt_of_some R.x) (ne_br H R)).trans R.x, R.o.kept hk (fun _ e f => (ne_row H R e).1 f.symm), R.lt⟩
/-- The document's table is turned, or its row. -/
theorem Ta.keptR (H : Ta w t b n D) (R : Rt w r B a c M) (hg : 0 < r) (hk : Kept (fun y => y = r ∨ (Value.slice a M.length c).ownBlock = some y) w w') : Ta w' t b n D := by
  refine H.keptF hk (fun e => ?_) (fun e => ?_) (fun e => ?_)
  · rcases e with e | e
    · exact ne_tr H R e
    · exact (ne_row H R e).2.1 rfl
  · rcases e with e | e
    · exact ne_br H R e.symm
    · exact (ne_row H R e).1 rfl
  · rcases e with e | e
    · omega
    · have := (ne_row H R e).2.2
      omega
/-- What the document's Set does. -/
def SxQ (w : World) (r : Nat) (a : Option Addr) (c : Nat) (M : List Bv) (x : Bd) (e : Ending) (w' : World) : Prop :=
  ∃ (k : Int) (M' : List Bv) (a' : Option Addr) (c' : Nat), e = .returned (.int .i64 k) ∧ StP M x k M' ∧ (∃ B', B' ≤ w'.heap.size ∧ Rt w' r B' a' c' M') ∧ Kept (fun y => y = r ∨ (Value.slice a M.length c).ownBlock = some y) w w' ∧ (∀ q, (Value.slice a' M'.length c').ownBlock = some q → (Value.slice a M.length c).ownBlock = some q ∨ w.heap.size ≤ q)
theorem refSet_ex (x : Bd) (w : World) (r B : Nat) (a : Option Addr) (c : Nat) (M : List Bv) (H : Rt w r B a c M) (hB : B ≤ w.heap.size) (hl : M.length ≤ 900000) (hp : x.p.size ≤ 1048576) (hs : ∀ y ∈ M, y.1.p.size ≤ 1048576) :
    Calls Tryz.prog 11 #[.pointer (some ⟨r, 0, none⟩), x.val] w (SxQ w r a c M x) := by
  by_cases hh : bdS x = true ∧ hasV M x.p x.n
  · refine (refSet_old x w r B a c M H hl hp hh.1 hh.2).mono ?_
    rintro e w' ⟨rfl, hv, j, hj, e1, e2, hR, hK⟩
    exact ⟨0, _, a, c, rfl, Or.inr (Or.inl ⟨hh.1, rfl, hv, j, hj, e1, e2, rfl⟩), ⟨B, Nat.le_trans hB hK.size, hR⟩, hK.mono (fun y _ e => Or.inr e), fun q hq => Or.inl (by rw [List.length_set] at hq; exact hq)⟩
  · have no : bdS x = true → ¬ hasV M x.p x.n := fun e f => hh ⟨e, f⟩
    refine (refSet_new x w r B a c M H hB hl hp no hs).mono ?_
    rintro e w' ⟨k, rfl, q⟩
    rcases q with ⟨s, rfl, hb⟩ | ⟨s, h16, rfl, hb⟩ | ⟨s, h16, rfl, hv, a', c', hR, hK⟩
    · exact ⟨130, M, a, c, rfl, Or.inl ⟨s, rfl, rfl⟩, ⟨B, Nat.le_trans hB hb.size, H.below hb⟩, Below.kept hb _, fun q hq => Or.inl hq⟩
    · exact ⟨194, M, a, c, rfl, Or.inr (Or.inr (Or.inl ⟨s, no s, h16, rfl, rfl⟩)), ⟨B, Nat.le_trans hB hb.size, H.below hb⟩, Below.kept hb _, fun q hq => Or.inl hq⟩
    · exact ⟨0, _, a', c', rfl, Or.inr (Or.inr (Or.inr ⟨s, no s, h16, rfl, hv, rfl⟩)), ⟨w.heap.size, hK.size, hR⟩, hK.mono (fun y _ e => Or.inl e), fun q hq => Or.inr (hR.o.lt q hq).1⟩
theorem stp_len {x : Bd} {k : Int} (h : StP M x k M') : M'.length ≤ M.length + 1 := by
  rcases h with ⟨_, _, rfl⟩ | ⟨_, _, _, _, _, _, _, rfl⟩ | ⟨_, _, _, _, rfl⟩ | ⟨_, _, _, _, _, rfl⟩
  · omega
  · rw [List.length_set]; omega
  · omega
  · rw [insB_len]; omega
set_option maxHeartbeats 4000000 in
set_option maxRecDepth 100000 in
theorem sameTexts_yes (v u : Value) (l : List Pt) (w : World) (hv : Row kPt w v l) (hu : Row kPt w u l) :
    Calls Tryz.prog 20 #[v, u] w fun e w' => e = .returned (.bool true) ∧ Below w.heap.size w w' := by
  have V : Aside (Row kPt w v l ∧ Row kPt w u l) := ⟨hv, hu⟩
  obtain ⟨a, cap, rfl, hlc, hcm⟩ := hv.len
  obtain ⟨a', cap', rfl, hlc', hcm'⟩ := hu.len
  unfold maxLen at hcm hcm'
  clear hv hu
  go_enter Tryz.func20, Tryz.ntmps20
  go_wp2_with fail
  go_loopg [5] l.length (fun g si wr => ∃ (k : Nat), k ≤ l.length ∧ g = l.length - k ∧ si = .int .i64 k ∧ Below w.heap.size w wr)
  case atStart => exact ⟨0, Nat.zero_le _, rfl, rfl, Below.refl _ _⟩
  case round =>
    obtain ⟨k, hk, hg, rfl, hb⟩ := hrel
    have R : Aside (gk = l.length - k ∧ Below w.heap.size w wr) := ⟨hg, hb⟩
    clear hg hb
    by_cases hlt : k < l.length
    · have at1 : ∀ {b : Option Addr} {cc : Nat}, Row kPt wr (.slice b l.length cc) l → ∃ bb off, b = some ⟨bb, off, none⟩ ∧ wr.cell? ⟨bb, off + k, none⟩ = some (.string (l.getD k Pt.z).1) := fun H => by
        obtain ⟨b2, o2, e, pc⟩ := H.at k hlt
        have q := pc 0 _ rfl
        have e2 : o2 + k * kPt.k + 0 = o2 + k := by show o2 + k * 1 + 0 = o2 + k; omega
        rw [e2] at q
        exact ⟨b2, o2, e, q⟩
      obtain ⟨b, off, rfl, p0⟩ := at1 (V.out.1.below R.out.2)
      obtain ⟨b', off', rfl, q0⟩ := at1 (V.out.2.below R.out.2)
      obtain ⟨x, hx⟩ : ∃ x, x = (l.getD k Pt.z).1 := ⟨_, rfl⟩
      rw [← hx] at p0 q0
      clear hx at1
      have g1 : (x.toList == x.toList) = true := beq_self_eq_true _
      have g2 : (x.toList != x.toList) = false := bne_self_eq_false _
      have hlt' : (k : Int) < (l.length : Int) := by omega
      go_wp2_with fail
      go_quiet (fail)
      go_wp2_with fail
      go_roundg (l.length - (k + 1))
      case measure => have := R.out.1; omega
      case rel => exact ⟨k + 1, by omega, rfl, by go_num, R.out.2.trans ((below_drawn wr _).mono R.out.2.size)⟩
    · go_wp2_with fail
      go_ret
      exact ⟨rfl, R.out.2⟩
end Ac
end Go.Proofs.YthdofbjijpghfaaGreatDoor
end S0

section S1
namespace Go.Proofs.YthdofbjijpghfaaGreatDoor
open Go.RowKit Go.Sort
namespace Ac
variable {w w' : World} {t b n r B c : Nat} {a : Option Addr} {D D' : DataW Unit} {M M' : List Bv}
/-- What a step leaves. -/
def PlS (w : World) (t b n r : Nat) (a : Option Addr) (c : Nat) (M : List Bv) (w' : World) : Prop :=
  ∃ (D' : DataW Unit) (M' : List Bv) (a' : Option Addr) (c' : Nat), Pr w' t b (n + 1) r a' c' D' M' ∧ Kept (fun y => y = b ∨ y = r ∨ (Value.slice a M.length c).ownBlock = some y) w w' ∧ (∀ q, (Value.slice a' M'.length c').ownBlock = some q → (Value.slice a M.length c).ownBlock = some q ∨ w.heap.size ≤ q)
theorem Pr.below (h : Pr w t b n r a c D M) (hb : Below w.heap.size w w') : Pr w' t b n r a c D M := by
  obtain ⟨B, hB, hR⟩ := h.rt
  exact ⟨h.ta.below hb, ⟨B, Nat.le_trans hB hb.size, hR.below hb⟩, h.dm, h.iv, h.ln, h.lo⟩
theorem Pr.more (h : Pr w t b n r a c D M) : Pr w t b (n + 1) r a c D M := ⟨h.ta.more (by omega), h.rt, h.dm, h.iv, by have := h.ln; omega, h.lo⟩
theorem Pr.same (h : Pr w t b n r a c D M) (hb : Below w.heap.size w w') : PlS w t b n r a c M w' :=
  ⟨D, M, a, c, (h.below hb).more, Below.kept hb _, fun _ hq => Or.inl hq⟩
/-- The program's call, then the document's. -/
theorem Pr.two {w1 w2 : World} (h : Pr w t b n r a c D M) (hT : Ta w1 t b (n + 1) D') (hk : Kept (fun y => y = b) w w1) {B' : Nat} {a' : Option Addr} {c' : Nat} (hB : B' ≤ w2.heap.size) (hR : Rt w2 r B' a' c' M') (hk2 : Kept (fun y => y = r ∨ (Value.slice a M.length c).ownBlock = some y) w1 w2)
    (fr : ∀ q, (Value.slice a' M'.length c').ownBlock = some q → (Value.slice a M.length c).ownBlock = some q ∨ w1.heap.size ≤ q) (dm : Dm D' M') (iv : Iv D') (ln : M'.length ≤ M.length + 1) : PlS w t b n r a c M w2 := by
  obtain ⟨B, hB0, hR0⟩ := h.rt
  have R1 := hR0.keptB h.ta hk
  refine ⟨D', M', a', c', ⟨hT.keptR R1 h.lo hk2, ⟨B', hB, hR⟩, dm, iv, by have := h.ln; omega, h.lo⟩, (hk.mono (fun y _ e => Or.inl e)).trans (hk2.mono (fun y _ e => Or.inr e)) (fun _ _ e => e), fun q hq => (fr q hq).imp id (fun z => Nat.le_trans hk.size z)⟩
def PlQ (w : World) (t b n r : Nat) (a : Option Addr) (c : Nat) (M : List Bv) (e : Ending) (w' : World) : Prop := e = .returned (.bool true) ∧ PlS w t b n r a c M w'
theorem Pr.after (h : Pr w t b n r a c D M) {w1 W : World} (hk : Kept (fun y => y = b) w w1) (hW : Below w1.heap.size w1 W) : ∃ B, B ≤ W.heap.size ∧ Rt W r B a c M := by
  obtain ⟨B, hB, hR⟩ := h.rt
  exact ⟨B, Nat.le_trans hB (Nat.le_trans hk.size hW.size), (hR.keptB h.ta hk).below hW⟩
theorem set_two (h : Pr w t b n r a c D M) (hn : M.length ≤ 900000) (x : Bd) (hp : x.p.size ≤ 1048576) {w1 : World} {k : Int} (h1 : Ta w1 t b (n + 1) D' ∧ Kept (fun y => y = b) w w1 ∧ Se D x k D') (W : World) (hW : Below w1.heap.size w1 W) :
    Calls Tryz.prog 11 #[.pointer (some ⟨r, 0, none⟩), x.val] W fun e w2 => e = .returned (.int .i64 k) ∧ PlS w t b n r a c M w2 := by
  obtain ⟨hT, hK, hS⟩ := h1
  obtain ⟨B, hB, hR⟩ := h.after hK hW
  refine (refSet_ex x W r B a c M hR hB hn hp (h.dm.sizes h.iv)).mono ?_
  rintro e w2 ⟨k', M', a', c', rfl, hP, ⟨B', hB', hR'⟩, hK', fr⟩
  have REL := set_rel h.dm h.ta hS hP
  exact ⟨by rw [REL.1], h.two (hT.below hW) (hK.trans (Below.kept hW _) (fun _ _ e => e)) hB' hR' hK' fr REL.2 (h.iv.set h.ta hS) (stp_len hP)⟩
theorem drop_two (h : Pr w t b n r a c D M) (hn : M.length ≤ 900000) {p q : ByteArray} (hp : p.size ≤ 1048576) (hp2 : p.size ≤ maxLen) (hq : q.size ≤ maxLen) {w1 : World} {k : Int} (h1 : Ta w1 t b n D' ∧ Kept (fun y => y = b) w w1 ∧ Dr D p q k D') (W : World) (hW : Below w1.heap.size w1 W) :
    Calls Tryz.prog 13 #[.pointer (some ⟨r, 0, none⟩), .string p, .string q] W fun e w2 => e = .returned (.int .i64 k) ∧ PlS w t b n r a c M w2 := by
  obtain ⟨hT, hK, hS⟩ := h1
  obtain ⟨B, hB, hR⟩ := h.after hK hW
  refine (refDrop_any p q W r B a c M hR hB hn hp).mono ?_
  rintro e w2 ⟨k', rfl, hP⟩
  have REL := drop_rel h.dm h.ta hp2 hq hS
  have IV : Iv D' := h.iv.drop hp2 hq hS
  have TT : Ta W t b (n + 1) D' := (hT.below hW).more (by omega)
  have KK : Kept (fun y => y = b) w W := hK.trans (Below.kept hW _) (fun _ _ e => e)
  rcases hP with ⟨e0, rfl, hb⟩ | ⟨e0, rfl, a', c', hR', hK'⟩
  · have z := REL.1 e0
    exact ⟨by rw [z.1], h.two TT KK (Nat.le_trans hB hb.size) (hR.below hb) (Below.kept hb _) (fun _ hq => Or.inl hq) z.2 IV (by omega)⟩
  · have z := REL.2 e0
    exact ⟨by rw [z.1], h.two TT KK hK'.size hR' (hK'.mono (fun y _ e => Or.inl e)) (fun _ hq => Or.inr (hR'.o.lt _ hq).1) z.2 IV (by have := List.length_filter_le (kpB p q false) M; omega)⟩
theorem leave_two (h : Pr w t b n r a c D M) (hn : M.length ≤ 900000) {p : ByteArray} {w1 : World} {k : Nat} (h1 : Ta w1 t b n D' ∧ Kept (fun y => y = b) w w1 ∧ Lv D p D' (fun _ => false) k) (W : World) (hW : Below w1.heap.size w1 W) :
    Calls Tryz.prog 15 #[.pointer (some ⟨r, 0, none⟩), .string p] W fun e w2 => e = .returned (.int .i64 (k : Int)) ∧ PlS w t b n r a c M w2 := by
  obtain ⟨hT, hK, hS⟩ := h1
  obtain ⟨B, hB, hR⟩ := h.after hK hW
  refine (refLeave_any p W r B a c M hR hB hn).mono ?_
  rintro e w2 ⟨a', c', rfl, hR', hK'⟩
  have REL := leave_rel h.dm ⟨#[]⟩ hS
  have IV : Iv D' := h.iv.leave (p := p) (fun x => by rw [hS.m x]; simp)
  exact ⟨by rw [REL.1], h.two ((hT.below hW).more (by omega)) (hK.trans (Below.kept hW _) (fun _ _ e => e)) hK'.size hR' (hK'.mono (fun y _ e => Or.inl e)) (fun _ hq => Or.inr (hR'.o.lt _ hq).1) REL.2 IV (by have := List.length_filter_le (kpB p ⟨#[]⟩ true) M; omega)⟩
end Ac
end Go.Proofs.YthdofbjijpghfaaGreatDoor
end S1

section S2
namespace Go.Proofs.YthdofbjijpghfaaGreatDoor
open Go.RowKit Go.Sort
namespace Ac
variable {w w' : World} {t b n r B c : Nat} {a : Option Addr} {D D' : DataW Unit} {M M' : List Bv}
theorem PlS.drew {W : World} (h : PlS w t b n r a c M W) : PlS w t b n r a c M W.drew := by
  obtain ⟨D', M', a', c', h1, h2, h3⟩ := h
  have hd : Below W.heap.size W W.drew := (Below.refl _ W).drew
  exact ⟨D', M', a', c', h1.below hd, h2.trans (Below.kept hd _) (fun _ _ e => e), h3⟩
set_option maxHeartbeats 8000000 in
set_option maxRecDepth 100000 in
theorem plays_change (o : Sp) (w : World) (t b n r : Nat) (a : Option Addr) (c : Nat) (D : DataW Unit) (M : List Bv) (H : Pr w t b n r a c D M) (hn : n ≤ 900000) (hf : o.Fit) (hz : o.b.p.size ≤ 1048576 ∧ o.p.size ≤ 1048576) (hk : o.kind = 1 ∨ o.kind = 2 ∨ o.kind = 3) :
    Calls Tryz.prog 6 #[.pointer (some ⟨t, 0, none⟩), .pointer (some ⟨r, 0, none⟩), .agg o.cells.toArray] w (PlQ w t b n r a c M) := by
  obtain ⟨two, kind, verb, ⟨bp, bn, bs, bv⟩, p, q, s⟩ := o
  unfold Sp.cells
  simp only at hk hz ⊢
  obtain ⟨g3, hg3⟩ : ∃ g, g = w.heap.size := ⟨_, rfl⟩
  obtain ⟨X, hX⟩ : ∃ X, X = w.alloc (.cells #[.bool two, .int .i64 kind, .int .i64 verb, .string bp, .string bn, .string bs, .int .i64 bv, .string p, .string q, .string s] 30) := ⟨_, rfl⟩
  have AX : Hid (Below w.heap.size w X ∧ X.heap[g3]? = some (.cells #[.bool two, .int .i64 kind, .int .i64 verb, .string bp, .string bn, .string bs, .int .i64 bv, .string p, .string q, .string s] 30 (0, 0))) := Lib.hid ⟨by rw [hX]; exact (Below.refl _ _).alloc (Nat.le_refl _) _, by rw [hX, hg3, heap_alloc_new]⟩
  have HX := Lib.hid (H.below AX.out.1)
  have gb : g3 ≠ b := by
    obtain ⟨es, k, hb⟩ := HX.out.ta.tb.map
    intro e
    rw [← e, AX.out.2] at hb
    simp at hb
  have CX : Hid (∀ W, Kept (fun y => y = b) X W → W.heap[g3]? = some (.cells #[.bool two, .int .i64 kind, .int .i64 verb, .string bp, .string bn, .string bs, .int .i64 bv, .string p, .string q, .string s] 30 (0, 0))) := Lib.hid (fun W hW => (hW.block g3 (lt_of_some AX.out.2) gb).trans AX.out.2)
  have CC : Hid (∀ W : World, W.heap[g3]? = some (.cells #[.bool two, .int .i64 kind, .int .i64 verb, .string bp, .string bn, .string bs, .int .i64 bv, .string p, .string q, .string s] 30 (0, 0)) → W.cell? ⟨g3, 1, none⟩ = some (.int .i64 kind) ∧ W.cell? ⟨g3, 3, none⟩ = some (.string bp) ∧ W.cell? ⟨g3, 4, none⟩ = some (.string bn) ∧ W.cell? ⟨g3, 5, none⟩ = some (.string bs) ∧ W.cell? ⟨g3, 6, none⟩ = some (.int .i64 bv) ∧ W.cell? ⟨g3, 7, none⟩ = some (.string p) ∧ W.cell? ⟨g3, 8, none⟩ = some (.string q)) := Lib.hid (fun W h => ⟨cell_of_row _ _ 1 _ _ _ h, cell_of_row _ _ 3 _ _ _ h, cell_of_row _ _ 4 _ _ _ h, cell_of_row _ _ 5 _ _ _ h, cell_of_row _ _ 6 _ _ _ h, cell_of_row _ _ 7 _ _ _ h, cell_of_row _ _ 8 _ _ _ h⟩)
  obtain ⟨c1, c3, c4, c5, c6, c7, c8⟩ := CC.out X AX.out.2
  obtain ⟨d1, d3, d4, d5, d6, d7, d8⟩ := CC.out X.drew AX.out.2
  have HN : Hid (M.length ≤ 900000) := Lib.hid (by have := H.ln; omega)
  have HZ : Hid (bp.size ≤ 1048576 ∧ p.size ≤ 1048576 ∧ p.size ≤ maxLen ∧ q.size ≤ maxLen) := Lib.hid ⟨hz.1, hz.2, by have := hf.p; unfold maxLen; simp only at this; omega, by have := hf.n; unfold maxLen; simp only at this; omega⟩
  have SZ := Lib.hid (H.dm.sizes H.iv)
  have FB := Lib.hid hf.b
  have NN := Lib.hid hn
  have hX' := hX.symm
  have hg3' := hg3.symm
  have FIN : Hid (∀ W, PlS X t b n r a c M W → PlS w t b n r a c M W) := Lib.hid (fun W ⟨D', M', a', c', h1, h2, h3⟩ => ⟨D', M', a', c', h1, (Below.kept AX.out.1 _).trans h2 (fun _ _ e => e), fun q hq => (h3 q hq).imp id (fun z => Nat.le_trans AX.out.1.size z)⟩)
  have CS : Hid (∀ W, PlS X t b n r a c M W → W.heap[g3]? = some (.cells #[.bool two, .int .i64 kind, .int .i64 verb, .string bp, .string bn, .string bs, .int .i64 bv, .string p, .string q, .string s] 30 (0, 0))) := Lib.hid (by
    rintro W ⟨D', M', a', c', -, hK, -⟩
    obtain ⟨B, hB, hR⟩ := HX.out.rt
    refine (hK.block g3 (lt_of_some AX.out.2) (fun e => ?_)).trans AX.out.2
    rcases e with e | e | e
    · exact gb e
    · have h := hR.x
      rw [← e, AX.out.2] at h
      simp only [Option.some.injEq, Obj.cells.injEq] at h
      exact absurd h.2.1 (by decide)
    · obtain ⟨cs, m, h⟩ := hR.o.ty g3 e
      rw [AX.out.2] at h
      simp only [Option.some.injEq, Obj.cells.injEq] at h
      exact absurd h.2.1 (by decide))
  clear hX hg3 H hn hf hz gb
  by_cases h1 : kind = 1
  · subst h1
    have ST : Hid (∀ W, Below X.heap.size X W → Calls Tryz.prog 10 #[.pointer (some ⟨t, 0, none⟩), Bd.val ⟨bp, bn, bs, bv⟩] W fun e w' => ∃ k D', e = .returned (.int .i64 k) ∧ Ta w' t b (n + 1) D' ∧ Kept (fun y => y = b) X w' ∧ Se D ⟨bp, bn, bs, bv⟩ k D') := Lib.hid (fun W hW => by
      refine (set_ex ⟨bp, bn, bs, bv⟩ W t b n D (HX.out.ta.below hW) NN.out FB.out).mono ?_
      rintro e w' ⟨k, D', rfl, hT, hK, hS⟩
      exact ⟨k, D', rfl, hT, (Below.kept hW _).trans hK (fun _ _ e => e), hS⟩)
    have DS : Hid (∀ (w1 : World) (k : Int) (D' : DataW Unit), (Ta w1 t b (n + 1) D' ∧ Kept (fun y => y = b) X w1 ∧ Se D ⟨bp, bn, bs, bv⟩ k D') → ∀ W, Below w1.heap.size w1 W → Calls Tryz.prog 11 #[.pointer (some ⟨r, 0, none⟩), Bd.val ⟨bp, bn, bs, bv⟩] W fun e w2 => e = .returned (.int .i64 k) ∧ PlS X t b n r a c M w2) := Lib.hid (fun _ _ _ h W hW => set_two HX.out HN.out _ HZ.out.1 h W hW)
    unfold Bd.val at ST DS
    simp only at ST DS
    clear hk
    go_enter Tryz.func6, Tryz.ntmps6
    go_wp2_with fail
    go_region_held3 (fun W : World => W.cell? ⟨g3, 3, none⟩ = some (.string bp) ∧ W.cell? ⟨g3, 4, none⟩ = some (.string bn) ∧ W.cell? ⟨g3, 5, none⟩ = some (.string bs) ∧ W.cell? ⟨g3, 6, none⟩ = some (.int .i64 bv)) (first | exact ⟨by assumption, by assumption, by assumption, by assumption⟩ | go_keep) (first
      | (go_at_call 10
         refine (ST.out _ (by first | exact Below.refl _ _ | exact (Below.refl _ _).drew)).mono ?_
         rintro e w1 ⟨k, D', rfl, h1⟩
         have R1 := Lib.hid h1
         obtain ⟨y1, y3, y4, y5, y6, y7, y8⟩ := CC.out w1 (CX.out w1 h1.2.1)
         obtain ⟨x1, x3, x4, x5, x6, x7, x8⟩ := CC.out w1.drew (CX.out w1 h1.2.1)
         clear h1)
      | (go_at_call 11
         refine (DS.out _ _ _ R1.out _ (by first | exact Below.refl _ _ | exact (Below.refl _ _).drew)).mono ?_
         rintro e w2 ⟨rfl, h2⟩
         have F2 := Lib.hid h2
         obtain ⟨v1, v3, v4, v5, v6, v7, v8⟩ := CC.out w2 (CS.out w2 h2)
         obtain ⟨t1, t3, t4, t5, t6, t7, t8⟩ := CC.out w2.drew (CS.out w2 h2)
         clear h2))
    all_goals
      go_wp2_with fail
      go_ret
      exact ⟨by simp, FIN.out _ (by first | exact F2.out | exact PlS.drew F2.out)⟩
  · have g1 : (kind == 1) = false := by rw [beq_eq_false_iff_ne]; exact h1
    by_cases h2 : kind = 2
    · subst h2
      have ST : Hid (∀ W, Below X.heap.size X W → Calls Tryz.prog 12 #[.pointer (some ⟨t, 0, none⟩), .string p, .string q] W fun e w' => ∃ k D', e = .returned (.int .i64 k) ∧ Ta w' t b n D' ∧ Kept (fun y => y = b) X w' ∧ Dr D p q k D') := Lib.hid (fun W hW => by
        refine (drop_ex p q W t b n D (HX.out.ta.below hW) HZ.out.2.2.1 HZ.out.2.2.2).mono ?_
        rintro e w' ⟨k, D', rfl, hT, hK, hS⟩
        exact ⟨k, D', rfl, hT, (Below.kept hW _).trans hK (fun _ _ e => e), hS⟩)
      have DS : Hid (∀ (w1 : World) (k : Int) (D' : DataW Unit), (Ta w1 t b n D' ∧ Kept (fun y => y = b) X w1 ∧ Dr D p q k D') → ∀ W, Below w1.heap.size w1 W → Calls Tryz.prog 13 #[.pointer (some ⟨r, 0, none⟩), .string p, .string q] W fun e w2 => e = .returned (.int .i64 k) ∧ PlS X t b n r a c M w2) := Lib.hid (fun _ _ _ h W hW => drop_two HX.out HN.out HZ.out.2.1 HZ.out.2.2.1 HZ.out.2.2.2 h W hW)
      clear hk h1
      go_enter Tryz.func6, Tryz.ntmps6
      go_wp2_with fail
      go_region_held3 (fun W : World => W.cell? ⟨g3, 7, none⟩ = some (.string p) ∧ W.cell? ⟨g3, 8, none⟩ = some (.string q)) (first | exact ⟨by assumption, by assumption⟩ | go_keep) (first
        | (go_at_call 12
           refine (ST.out _ (by first | exact Below.refl _ _ | exact (Below.refl _ _).drew)).mono ?_
           rintro e w1 ⟨k, D', rfl, h1⟩
           have R1 := Lib.hid h1
           obtain ⟨y1, y3, y4, y5, y6, y7, y8⟩ := CC.out w1 (CX.out w1 h1.2.1)
           obtain ⟨x1, x3, x4, x5, x6, x7, x8⟩ := CC.out w1.drew (CX.out w1 h1.2.1)
           clear h1)
        | (go_at_call 13
           refine (DS.out _ _ _ R1.out _ (by first | exact Below.refl _ _ | exact (Below.refl _ _).drew)).mono ?_
           rintro e w2 ⟨rfl, h2⟩
           have F2 := Lib.hid h2
           obtain ⟨v1, v3, v4, v5, v6, v7, v8⟩ := CC.out w2 (CS.out w2 h2)
           obtain ⟨t1, t3, t4, t5, t6, t7, t8⟩ := CC.out w2.drew (CS.out w2 h2)
           clear h2))
      all_goals
        go_wp2_with fail
        go_ret
        exact ⟨by simp, FIN.out _ (by first | exact F2.out | exact PlS.drew F2.out)⟩
    · have g2 : (kind == 2) = false := by rw [beq_eq_false_iff_ne]; exact h2
      have h3 : kind = 3 := by omega
      subst h3
      have ST : Hid (∀ W, Below X.heap.size X W → Calls Tryz.prog 14 #[.pointer (some ⟨t, 0, none⟩), .string p] W fun e w' => ∃ (k : Nat) (D' : DataW Unit), e = .returned (.int .i64 (k : Int)) ∧ Ta w' t b n D' ∧ Kept (fun y => y = b) X w' ∧ Lv D p D' (fun _ => false) k) := Lib.hid (fun W hW => by
        refine (leave_ex p W t b n D (HX.out.ta.below hW) (by have := NN.out; omega)).mono ?_
        rintro e w' ⟨k, D', rfl, hT, hK, hS⟩
        exact ⟨k, D', rfl, hT, (Below.kept hW _).trans hK (fun _ _ e => e), hS⟩)
      have DS : Hid (∀ (w1 : World) (k : Nat) (D' : DataW Unit), (Ta w1 t b n D' ∧ Kept (fun y => y = b) X w1 ∧ Lv D p D' (fun _ => false) k) → ∀ W, Below w1.heap.size w1 W → Calls Tryz.prog 15 #[.pointer (some ⟨r, 0, none⟩), .string p] W fun e w2 => e = .returned (.int .i64 (k : Int)) ∧ PlS X t b n r a c M w2) := Lib.hid (fun _ _ _ h W hW => leave_two HX.out HN.out h W hW)
      clear hk h1 h2
      go_enter Tryz.func6, Tryz.ntmps6
      go_wp2_with fail
      go_region_held3 (fun W : World => W.cell? ⟨g3, 7, none⟩ = some (.string p)) (first | exact (by assumption) | go_keep) (first
        | (go_at_call 14
           refine (ST.out _ (by first | exact Below.refl _ _ | exact (Below.refl _ _).drew)).mono ?_
           rintro e w1 ⟨k, D', rfl, h1⟩
           have R1 := Lib.hid h1
           obtain ⟨y1, y3, y4, y5, y6, y7, y8⟩ := CC.out w1 (CX.out w1 h1.2.1)
           obtain ⟨x1, x3, x4, x5, x6, x7, x8⟩ := CC.out w1.drew (CX.out w1 h1.2.1)
           clear h1)
        | (go_at_call 15
           refine (DS.out _ _ _ R1.out _ (by first | exact Below.refl _ _ | exact (Below.refl _ _).drew)).mono ?_
           rintro e w2 ⟨rfl, h2⟩
           have F2 := Lib.hid h2
           obtain ⟨v1, v3, v4, v5, v6, v7, v8⟩ := CC.out w2 (CS.out w2 h2)
           obtain ⟨t1, t3, t4, t5, t6, t7, t8⟩ := CC.out w2.drew (CS.out w2 h2)
           clear h2))
      all_goals
        go_wp2_with fail
        go_ret
        exact ⟨by simp, FIN.out _ (by first | exact F2.out | exact PlS.drew F2.out)⟩
end Ac
end Go.Proofs.YthdofbjijpghfaaGreatDoor
end S2

section S3
namespace Go.Proofs.YthdofbjijpghfaaGreatDoor
open Go.RowKit Go.Sort
namespace Ac
variable {w w' : World} {t b n r B c : Nat} {a : Option Addr} {D D' : DataW Unit} {M M' : List Bv}
set_option maxHeartbeats 8000000 in
set_option maxRecDepth 100000 in
theorem plays_look (o : Sp) (w : World) (t b n r : Nat) (a : Option Addr) (c : Nat) (D : DataW Unit) (M : List Bv) (H : Pr w t b n r a c D M) (hn : n ≤ 900000) (hf : o.Fit) (hz : o.b.p.size ≤ 1048576 ∧ o.p.size ≤ 1048576) (hk : ¬ (o.kind = 1 ∨ o.kind = 2 ∨ o.kind = 3)) :
    Calls Tryz.prog 6 #[.pointer (some ⟨t, 0, none⟩), .pointer (some ⟨r, 0, none⟩), .agg o.cells.toArray] w (PlQ w t b n r a c M) := by
  obtain ⟨two, kind, verb, ⟨bp, bn, bs, bv⟩, p, q, s⟩ := o
  unfold Sp.cells
  simp only at hk hz ⊢
  obtain ⟨g3, hg3⟩ : ∃ g, g = w.heap.size := ⟨_, rfl⟩
  obtain ⟨X, hX⟩ : ∃ X, X = w.alloc (.cells #[.bool two, .int .i64 kind, .int .i64 verb, .string bp, .string bn, .string bs, .int .i64 bv, .string p, .string q, .string s] 30) := ⟨_, rfl⟩
  have AX : Hid (Below w.heap.size w X ∧ X.heap[g3]? = some (.cells #[.bool two, .int .i64 kind, .int .i64 verb, .string bp, .string bn, .string bs, .int .i64 bv, .string p, .string q, .string s] 30 (0, 0))) := Lib.hid ⟨by rw [hX]; exact (Below.refl _ _).alloc (Nat.le_refl _) _, by rw [hX, hg3, heap_alloc_new]⟩
  have HX := Lib.hid (H.below AX.out.1)
  have CX : Hid (∀ W, Below X.heap.size X W → W.heap[g3]? = some (.cells #[.bool two, .int .i64 kind, .int .i64 verb, .string bp, .string bn, .string bs, .int .i64 bv, .string p, .string q, .string s] 30 (0, 0))) := Lib.hid (fun W hW => (hW.block g3 (lt_of_some AX.out.2)).trans AX.out.2)
  have CC : Hid (∀ W : World, W.heap[g3]? = some (.cells #[.bool two, .int .i64 kind, .int .i64 verb, .string bp, .string bn, .string bs, .int .i64 bv, .string p, .string q, .string s] 30 (0, 0)) → W.cell? ⟨g3, 1, none⟩ = some (.int .i64 kind) ∧ W.cell? ⟨g3, 2, none⟩ = some (.int .i64 verb) ∧ W.cell? ⟨g3, 7, none⟩ = some (.string p) ∧ W.cell? ⟨g3, 9, none⟩ = some (.string s)) := Lib.hid (fun W h => ⟨cell_of_row _ _ 1 _ _ _ h, cell_of_row _ _ 2 _ _ _ h, cell_of_row _ _ 7 _ _ _ h, cell_of_row _ _ 9 _ _ _ h⟩)
  obtain ⟨c1, c2, c7, c9⟩ := CC.out X AX.out.2
  obtain ⟨d1, d2, d7, d9⟩ := CC.out X.drew AX.out.2
  have HN : Hid (M.length ≤ 900000) := Lib.hid (by have := H.ln; omega)
  have HZ : Hid (bp.size ≤ 1048576 ∧ p.size ≤ 1048576 ∧ p.size ≤ maxLen ∧ q.size ≤ maxLen) := Lib.hid ⟨hz.1, hz.2, by have := hf.p; unfold maxLen; simp only at this; omega, by have := hf.n; unfold maxLen; simp only at this; omega⟩
  have SZ := Lib.hid (H.dm.sizes H.iv)
  have NN := Lib.hid hn
  have hX' := hX.symm
  have hg3' := hg3.symm
  have FIN : Hid (∀ W, Below X.heap.size X W → PlS w t b n r a c M W) := Lib.hid (fun W hW => H.same (AX.out.1.trans (hW.mono AX.out.1.size)))
  have PX : Hid (∀ W, Below X.heap.size X W → Pr W t b n r a c D M) := Lib.hid (fun W hW => HX.out.below hW)
  clear hX hg3 H hn hf hz
  have g1 : (kind == 1) = false := by rw [beq_eq_false_iff_ne]; exact fun e => hk (Or.inl e)
  have g2 : (kind == 2) = false := by rw [beq_eq_false_iff_ne]; exact fun e => hk (Or.inr (Or.inl e))
  have g3' : (kind == 3) = false := by rw [beq_eq_false_iff_ne]; exact fun e => hk (Or.inr (Or.inr e))
  clear hk
  by_cases h6 : kind = 6
  · subst h6
    have ST : Hid (∀ W, Below X.heap.size X W → Calls Tryz.prog 8 #[.pointer (some ⟨t, 0, none⟩)] W fun e w' => ∃ v, e = .returned v ∧ Row kBv w' v M ∧ Below X.heap.size X w') := Lib.hid (fun W hW => by
      have P := PX.out W hW
      refine (list_any W t b n D P.ta (by have := NN.out; omega) P.iv.vl).mono ?_
      rintro e w' ⟨v, S, rfl, hR, hL, hb⟩
      rw [P.dm.one hL] at hR
      exact ⟨v, rfl, hR, hW.trans (hb.mono hW.size)⟩)
    have DS : Hid (∀ W, Below X.heap.size X W → Calls Tryz.prog 9 #[.pointer (some ⟨r, 0, none⟩)] W fun e w' => ∃ v, e = .returned v ∧ Row kBv w' v M ∧ Below X.heap.size X w' ∧ Below W.heap.size W w') := Lib.hid (fun W hW => by
      obtain ⟨B, hB, hR⟩ := (PX.out W hW).rt
      refine (refList_any W r B a c M hR (by have := HN.out; omega)).mono ?_
      rintro e w' ⟨v, rfl, hR, hb⟩
      exact ⟨v, rfl, hR.row okBv, hW.trans (hb.mono hW.size), hb⟩)
    go_enter Tryz.func6, Tryz.ntmps6
    go_wp2_with fail
    refine (ST.out _ (by first | exact Below.refl _ _ | exact (Below.refl _ _).drew)).mono ?_
    rintro e w1 ⟨v1, rfl, hR1, hb1⟩
    have R1 := Lib.hid (And.intro hR1 hb1)
    obtain ⟨y1, y2, y7, y9⟩ := CC.out w1 (CX.out w1 hb1)
    clear hR1 hb1 ST
    go_wp2_with fail
    refine (DS.out _ R1.out.2).mono ?_
    rintro e w2 ⟨v2, rfl, hR2, hb2, hb2'⟩
    have R2 := Lib.hid (And.intro hR2 hb2)
    have SB := Lib.hid (sameBindings_yes v1 v2 M w2 (R1.out.1.below hb2') hR2)
    clear hR2 hb2 hb2' DS
    go_wp2_with fail
    refine SB.out.mono ?_
    rintro e w3 ⟨rfl, hb3⟩
    have B3 := Lib.hid (R2.out.2.trans (hb3.mono R2.out.2.size))
    clear hb3
    go_wp2_with fail
    go_ret
    exact ⟨rfl, FIN.out _ B3.out⟩
  · have g6 : (kind == 6) = false := by rw [beq_eq_false_iff_ne]; exact h6
    by_cases h5 : kind = 5
    · subst h5
      have ST : Hid (∀ W, Below X.heap.size X W → Calls Tryz.prog 21 #[.pointer (some ⟨t, 0, none⟩), .string s, .int .i64 verb] W fun e w' => ∃ v T, e = .returned v ∧ Row kPt w' v T ∧ RcT D s verb T ∧ Below X.heap.size X w') := Lib.hid (fun W hW => by
        have P := PX.out W hW
        refine (reach_any s verb W t b n D P.ta (by have := NN.out; omega) P.iv.vl).mono ?_
        rintro e w' ⟨v, T, rfl, hR, hL, hb⟩
        exact ⟨v, T, rfl, hR.row okPt, hL, hW.trans (hb.mono hW.size)⟩)
      have DS : Hid (∀ W, Below X.heap.size X W → Calls Tryz.prog 22 #[.pointer (some ⟨r, 0, none⟩), .string s, .int .i64 verb] W fun e w' => ∃ v T, e = .returned v ∧ Row kPt w' v T ∧ ReT M s verb T ∧ Below X.heap.size X w' ∧ Below W.heap.size W w') := Lib.hid (fun W hW => by
        obtain ⟨B, hB, hR⟩ := (PX.out W hW).rt
        refine (refReach_any s verb W r B a c M hR HN.out SZ.out).mono ?_
        rintro e w' ⟨v, T, rfl, hR, hT, hb⟩
        exact ⟨v, T, rfl, hR, hT, hW.trans (hb.mono hW.size), hb⟩)
      clear h6
      have SB : Hid (∀ (w2 : World) v1 v2 T, (Row kPt w2 v1 T ∧ Row kPt w2 v2 T ∧ Below X.heap.size X w2) → ∀ W, Below w2.heap.size w2 W → Calls Tryz.prog 20 #[v1, v2] W fun e w' => e = .returned (.bool true) ∧ Below X.heap.size X w') := Lib.hid (fun w2 v1 v2 T h W hW => by
        refine (sameTexts_yes v1 v2 T W (h.1.below hW) (h.2.1.below hW)).mono ?_
        rintro e w' ⟨rfl, hb⟩
        have hx := h.2.2.trans (hW.mono h.2.2.size)
        exact ⟨rfl, hx.trans (hb.mono hx.size)⟩)
      go_enter Tryz.func6, Tryz.ntmps6
      go_wp2_with fail
      go_region_held3 (fun W : World => W.cell? ⟨g3, 9, none⟩ = some (.string s) ∧ W.cell? ⟨g3, 2, none⟩ = some (.int .i64 verb)) (first | exact ⟨by assumption, by assumption⟩ | go_keep) (first
        | (go_at_call 21
           refine (ST.out _ (by first | exact Below.refl _ _ | exact (Below.refl _ _).drew)).mono ?_
           rintro e w1 ⟨v1, T1, rfl, hR1, hC1, hb1⟩
           have R1 := Lib.hid (And.intro hR1 (And.intro hC1 hb1))
           obtain ⟨y1, y2, y7, y9⟩ := CC.out w1 (CX.out w1 hb1)
           obtain ⟨x1, x2, x7, x9⟩ := CC.out w1.drew (CX.out w1 hb1)
           clear hR1 hC1 hb1)
        | (go_at_call 22
           refine (DS.out _ (by first | exact R1.out.2.2 | exact R1.out.2.2.drew)).mono ?_
           rintro e w2 ⟨v2, T2, rfl, hR2, hC2, hb2, hb3⟩
           have E := reach_rel HX.out.dm HX.out.iv R1.out.2.1 hC2
           subst E
           have R2 : Hid (Row kPt w2 v1 T1 ∧ Row kPt w2 v2 T1 ∧ Below X.heap.size X w2) := Lib.hid ⟨by first | exact R1.out.1.below hb3 | exact (R1.out.1.below (Below.refl _ w1).drew).below hb3, hR2, hb2⟩
           obtain ⟨z1, z2, z7, z9⟩ := CC.out w2 (CX.out w2 hb2)
           obtain ⟨t1, t2, t7, t9⟩ := CC.out w2.drew (CX.out w2 hb2)
           clear hR2 hC2 hb2 hb3)
        | (go_at_call 20
           refine (SB.out _ _ _ _ R2.out _ (by first | exact Below.refl _ _ | exact (Below.refl _ _).drew)).mono ?_
           rintro e w3 ⟨rfl, hb3⟩
           have B3 := Lib.hid hb3
           obtain ⟨i1, i2, i7, i9⟩ := CC.out w3 (CX.out w3 hb3)
           obtain ⟨j1, j2, j7, j9⟩ := CC.out w3.drew (CX.out w3 hb3)
           clear hb3))
      all_goals
        go_wp2_with fail
        go_ret
        exact ⟨rfl, FIN.out _ (by first | exact B3.out | exact B3.out.drew)⟩
    · have g5 : (kind == 5) = false := by rw [beq_eq_false_iff_ne]; exact h5
      by_cases h4 : kind = 4
      · subst h4
        have ST : Hid (∀ W, Below X.heap.size X W → Calls Tryz.prog 16 #[.pointer (some ⟨t, 0, none⟩), .string s, .int .i64 verb, .string p] W fun e w' => ∃ q : Bool × Bd, e = .returned (.tuple #[q.2.val, .bool q.1]) ∧ Ny D s verb p q ∧ Below X.heap.size X w') := Lib.hid (fun W hW => by
          refine (why_ex s verb p W t b n D (PX.out W hW).ta).mono ?_
          rintro e w' ⟨q, rfl, hq, hb⟩
          exact ⟨q, rfl, hq, hW.trans (hb.mono hW.size)⟩)
        have DS : Hid (∀ q, Ny D s verb p q → ∀ W, Below X.heap.size X W → Calls Tryz.prog 17 #[.pointer (some ⟨r, 0, none⟩), .string s, .int .i64 verb, .string p] W fun e w' => e = .returned (.tuple #[q.2.val, .bool q.1]) ∧ Below X.heap.size X w' ∧ Below W.heap.size W w') := Lib.hid (fun q hn W hW => by
          obtain ⟨B, hB, hR⟩ := (PX.out W hW).rt
          refine (refWhy_any s verb p W r B a c M hR HN.out HZ.out.2.1 SZ.out).mono ?_
          rintro e w' ⟨q', rfl, hq, hb⟩
          rw [why_rel HX.out.dm HX.out.iv hn hq]
          exact ⟨rfl, hW.trans (hb.mono hW.size), hb⟩)
        have MT : Hid (∀ W, Below X.heap.size X W → Calls Tryz.prog 18 #[.pointer (some ⟨t, 0, none⟩), .string s, .int .i64 verb, .string p] W fun e w' => ∃ q : Nat, e = .returned (.bool (decide (q = 1))) ∧ (q = 1 ↔ MayP D s verb p) ∧ Below X.heap.size X w' ∧ Below W.heap.size W w') := Lib.hid (fun W hW => by
          refine (may_any s verb p W t b n D (PX.out W hW).ta).mono ?_
          rintro e w' ⟨q, rfl, hq, hb⟩
          cases q with
          | true => exact ⟨1, rfl, ⟨fun _ => hq.1 rfl, fun _ => rfl⟩, hW.trans (hb.mono hW.size), hb⟩
          | false => exact ⟨0, rfl, ⟨fun e => absurd e (by decide), fun e => absurd (hq.2 e) (by decide)⟩, hW.trans (hb.mono hW.size), hb⟩)
        have MD : Hid (∀ q : Nat, (q = 1 ↔ MayP D s verb p) → ∀ W, Below X.heap.size X W → Calls Tryz.prog 19 #[.pointer (some ⟨r, 0, none⟩), .string s, .int .i64 verb, .string p] W fun e w' => e = .returned (.bool (decide (q = 1))) ∧ Below X.heap.size X w' ∧ Below W.heap.size W w') := Lib.hid (fun q hn W hW => by
          obtain ⟨B, hB, hR⟩ := (PX.out W hW).rt
          refine (refMay_any s verb p W r B a c M hR HN.out HZ.out.2.1 SZ.out).mono ?_
          rintro e w' ⟨q', rfl, hq, hb⟩
          rw [← may_rel HX.out.dm HX.out.iv (r := decide (q = 1)) (by rw [decide_eq_true_eq]; exact hn) hq]
          exact ⟨rfl, hW.trans (hb.mono hW.size), hb⟩)
        clear h5 h6
        go_enter Tryz.func6, Tryz.ntmps6
        go_wp2_with fail
        refine (ST.out _ (Below.refl _ _)).mono ?_
        rintro e w1 ⟨⟨fo, ⟨zp, zn, zs, zv⟩⟩, rfl, hq, hb1⟩
        have R1 := Lib.hid (And.intro hq hb1)
        have D1 := Lib.hid (fun W hW => DS.out _ R1.out.1 W hW)
        obtain ⟨ga, hga⟩ : ∃ g, g = w1.heap.size := ⟨_, rfl⟩
        obtain ⟨A, hA⟩ : ∃ A, A = w1.alloc (.cells #[.string zp, .string zn, .string zs, .int .i64 zv] 28) := ⟨_, rfl⟩
        have AA : Hid (Below X.heap.size X A ∧ A.heap[ga]? = some (.cells #[.string zp, .string zn, .string zs, .int .i64 zv] 28 (0, 0))) := Lib.hid ⟨by rw [hA]; exact hb1.alloc hb1.size _, by rw [hA, hga, heap_alloc_new]⟩
        obtain ⟨y1, y2, y7, y9⟩ := CC.out A (CX.out A AA.out.1)
        have hA' := hA.symm
        have hga' := hga.symm
        unfold Bd.val at D1 ⊢
        simp only at D1 ⊢
        clear hq hb1 ST DS hA hga
        go_wp2_with fail
        refine (D1.out _ AA.out.1).mono ?_
        rintro e w2 ⟨rfl, hb2, hb3⟩
        obtain ⟨gb, hgb⟩ : ∃ g, g = w2.heap.size := ⟨_, rfl⟩
        obtain ⟨C, hC⟩ : ∃ C, C = w2.alloc (.cells #[.string zp, .string zn, .string zs, .int .i64 zv] 28) := ⟨_, rfl⟩
        have BC : Hid (Below X.heap.size X C ∧ C.heap[ga]? = some (.cells #[.string zp, .string zn, .string zs, .int .i64 zv] 28 (0, 0)) ∧ C.heap[gb]? = some (.cells #[.string zp, .string zn, .string zs, .int .i64 zv] 28 (0, 0))) := Lib.hid ⟨by rw [hC]; exact hb2.alloc hb2.size _, by
          have h2 : w2.heap[ga]? = _ := (hb3.block ga (lt_of_some AA.out.2)).trans AA.out.2
          have hb4 : Below w2.heap.size w2 C := by rw [hC]; exact (Below.refl _ _).alloc (Nat.le_refl _) _
          exact (hb4.block ga (lt_of_some h2)).trans h2, by rw [hC, hgb, heap_alloc_new]⟩
        obtain ⟨u1, u2, u7, u9⟩ := CC.out C (CX.out C BC.out.1)
        have a0 : C.cell? ⟨ga, 0, none⟩ = some (.string zp) := cell_of_row _ _ 0 _ _ _ BC.out.2.1
        have a1 : C.cell? ⟨ga, 1, none⟩ = some (.string zn) := cell_of_row _ _ 1 _ _ _ BC.out.2.1
        have a2 : C.cell? ⟨ga, 2, none⟩ = some (.string zs) := cell_of_row _ _ 2 _ _ _ BC.out.2.1
        have a3 : C.cell? ⟨ga, 3, none⟩ = some (.int .i64 zv) := cell_of_row _ _ 3 _ _ _ BC.out.2.1
        have b0 : C.cell? ⟨gb, 0, none⟩ = some (.string zp) := cell_of_row _ _ 0 _ _ _ BC.out.2.2
        have b1 : C.cell? ⟨gb, 1, none⟩ = some (.string zn) := cell_of_row _ _ 1 _ _ _ BC.out.2.2
        have b2 : C.cell? ⟨gb, 2, none⟩ = some (.string zs) := cell_of_row _ _ 2 _ _ _ BC.out.2.2
        have b3 : C.cell? ⟨gb, 3, none⟩ = some (.int .i64 zv) := cell_of_row _ _ 3 _ _ _ BC.out.2.2
        have hC' := hC.symm
        have hgb' := hgb.symm
        clear hC hgb hb2 hb3 D1 y1 y2 y7 y9 hA' hga'
        have e0 : (zp.toList == zp.toList) = true := beq_self_eq_true _
        have e1 : (zn.toList == zn.toList) = true := beq_self_eq_true _
        have e2 : (zs.toList == zs.toList) = true := beq_self_eq_true _
        have e3 : (zv == zv) = true := beq_self_eq_true _
        have e4 : (fo == fo) = true := beq_self_eq_true _
        have CE : Hid (∀ W : World, Below C.heap.size C W → W.cell? ⟨ga, 0, none⟩ = some (.string zp) ∧ W.cell? ⟨ga, 1, none⟩ = some (.string zn) ∧ W.cell? ⟨ga, 2, none⟩ = some (.string zs) ∧ W.cell? ⟨ga, 3, none⟩ = some (.int .i64 zv) ∧ W.cell? ⟨gb, 0, none⟩ = some (.string zp) ∧ W.cell? ⟨gb, 1, none⟩ = some (.string zn) ∧ W.cell? ⟨gb, 2, none⟩ = some (.string zs) ∧ W.cell? ⟨gb, 3, none⟩ = some (.int .i64 zv)) := Lib.hid (fun W hW => by
          have ha := (hW.block ga (lt_of_some BC.out.2.1)).trans BC.out.2.1
          have hb := (hW.block gb (lt_of_some BC.out.2.2)).trans BC.out.2.2
          exact ⟨cell_of_row _ _ 0 _ _ _ ha, cell_of_row _ _ 1 _ _ _ ha, cell_of_row _ _ 2 _ _ _ ha, cell_of_row _ _ 3 _ _ _ ha, cell_of_row _ _ 0 _ _ _ hb, cell_of_row _ _ 1 _ _ _ hb, cell_of_row _ _ 2 _ _ _ hb, cell_of_row _ _ 3 _ _ _ hb⟩)
        obtain ⟨o0, o1, o2, o3, o4, o5, o6, o7⟩ := CE.out C.drew (Below.refl _ _).drew
        obtain ⟨t1, t2, t7, t9⟩ := CC.out C.drew (CX.out C BC.out.1)
        have XB := Lib.hid BC.out.1
        have MT' : Hid (∀ W, Below C.heap.size C W → Calls Tryz.prog 18 #[.pointer (some ⟨t, 0, none⟩), .string s, .int .i64 verb, .string p] W fun e w' => ∃ q : Nat, e = .returned (.bool (decide (q = 1))) ∧ (q = 1 ↔ MayP D s verb p) ∧ Below C.heap.size C w') := Lib.hid (fun W hW => by
          refine (MT.out W (XB.out.trans (hW.mono XB.out.size))).mono ?_
          rintro e w' ⟨q, rfl, hq, _, hb⟩
          exact ⟨q, rfl, hq, hW.trans (hb.mono hW.size)⟩)
        have MD' : Hid (∀ q : Nat, (q = 1 ↔ MayP D s verb p) → ∀ W, Below C.heap.size C W → Calls Tryz.prog 19 #[.pointer (some ⟨r, 0, none⟩), .string s, .int .i64 verb, .string p] W fun e w' => e = .returned (.bool (decide (q = 1))) ∧ Below C.heap.size C w') := Lib.hid (fun q hn W hW => by
          refine (MD.out q hn W (XB.out.trans (hW.mono XB.out.size))).mono ?_
          rintro e w' ⟨rfl, _, hb⟩
          exact ⟨rfl, hW.trans (hb.mono hW.size)⟩)
        go_upto_region 11 with fail
        go_region_held3 (fun W : World => W.cell? ⟨g3, 9, none⟩ = some (.string s) ∧ W.cell? ⟨g3, 2, none⟩ = some (.int .i64 verb) ∧ W.cell? ⟨g3, 7, none⟩ = some (.string p) ∧ W.cell? ⟨ga, 0, none⟩ = some (.string zp) ∧ W.cell? ⟨ga, 1, none⟩ = some (.string zn) ∧ W.cell? ⟨ga, 2, none⟩ = some (.string zs) ∧ W.cell? ⟨ga, 3, none⟩ = some (.int .i64 zv) ∧ W.cell? ⟨gb, 0, none⟩ = some (.string zp) ∧ W.cell? ⟨gb, 1, none⟩ = some (.string zn) ∧ W.cell? ⟨gb, 2, none⟩ = some (.string zs) ∧ W.cell? ⟨gb, 3, none⟩ = some (.int .i64 zv)) (first | exact ⟨by assumption, by assumption, by assumption, by assumption, by assumption, by assumption, by assumption, by assumption, by assumption, by assumption, by assumption⟩ | go_keep) (first
          | (go_at_call 18
             refine (MT'.out _ (by first | exact Below.refl _ _ | exact (Below.refl _ _).drew)).mono ?_
             rintro e w4 ⟨mm, rfl, hm1, hb4⟩
             have R4 := Lib.hid (And.intro hm1 hb4)
             have hx4 := XB.out.trans (hb4.mono XB.out.size)
             obtain ⟨i1, i2, i7, i9⟩ := CC.out w4 (CX.out w4 hx4)
             obtain ⟨j1, j2, j7, j9⟩ := CC.out w4.drew (CX.out w4 hx4)
             obtain ⟨m0, m1, m2, m3, m4, m5, m6, m7⟩ := CE.out w4 hb4
             obtain ⟨n0, n1, n2, n3, n4, n5, n6, n7⟩ := CE.out w4.drew hb4.drew
             clear hx4
             clear hm1 hb4)
          | (go_at_call 19
             refine (MD'.out _ R4.out.1 _ (by first | exact R4.out.2 | exact R4.out.2.drew)).mono ?_
             rintro e w5 ⟨rfl, hb5⟩
             have hx5 := XB.out.trans (hb5.mono XB.out.size)
             have B3 := Lib.hid hx5
             obtain ⟨k1, k2, k7, k9⟩ := CC.out w5 (CX.out w5 hx5)
             obtain ⟨l1, l2, l7, l9⟩ := CC.out w5.drew (CX.out w5 hx5)
             obtain ⟨v0, v1, v2, v3, v4, v5, v6, v7⟩ := CE.out w5 hb5
             obtain ⟨z0, z1, z2, z3, z4, z5, z6, z7⟩ := CE.out w5.drew hb5.drew
             clear hx5
             have e5 : (decide (mm = 1) == decide (mm = 1)) = true := beq_self_eq_true _
             clear hb5))
        all_goals
          go_wp2_with fail
          go_ret
          exact ⟨by simp, FIN.out _ (by first | exact B3.out | exact B3.out.drew)⟩
      · have g4 : (kind == 4) = false := by rw [beq_eq_false_iff_ne]; exact h4
        go_enter Tryz.func6, Tryz.ntmps6
        go_wp2_with fail
        go_ret
        exact ⟨rfl, FIN.out _ (Below.refl _ _)⟩
end Ac
end Go.Proofs.YthdofbjijpghfaaGreatDoor
end S3

section S4
namespace Go.Proofs.YthdofbjijpghfaaGreatDoor
open Go.RowKit Go.Sort
namespace Ac
variable {w w' : World} {t b n r c t2 b2 n2 r2 c2 : Nat} {a a2 : Option Addr} {D D2 : DataW Unit} {M M2 : List Bv}
theorem ne_tb (H : Ta w t b n D) (H2 : Ta w t2 b2 n2 D2) : t2 ≠ b := fun e => by
  obtain ⟨es, k, hb⟩ := H.tb.map
  have h := H2.tb.t
  rw [e, hb] at h
  simp at h
theorem ne_gb (H : Ta w t b n D) : 0 ≠ b := fun e => by
  obtain ⟨m, hc⟩ := H.hm
  obtain ⟨es, k, hb⟩ := H.tb.map
  have e' : w.heap[0]? = some (.map es k) := by rw [← hb]; exact congrArg (fun x => w.heap[x]?) e
  simp [World.cell?, e'] at hc
theorem ne_rk {B B2 : Nat} (R : Rt w r B a c M) (R2 : Rt w r2 B2 a2 c2 M2) {k : Nat} (hk : (Value.slice a M.length c).ownBlock = some k) : r2 ≠ k := fun e => by
  obtain ⟨cs, m, h⟩ := R.o.ty k hk
  have h2 := R2.x
  rw [e, h] at h2
  simp only [Option.some.injEq, Obj.cells.injEq] at h2
  exact absurd h2.2.1 (by decide)
theorem Pr.other (hx : Pr w t b n r a c D M) (hy : Pr w t2 b2 n2 r2 a2 c2 D2 M2) (b12 : b ≠ b2) (r12 : r ≠ r2) (k12 : ∀ q, (Value.slice a M.length c).ownBlock = some q → (Value.slice a2 M2.length c2).ownBlock ≠ some q)
    (hK : Kept (fun y => y = b ∨ y = r ∨ (Value.slice a M.length c).ownBlock = some y) w w') : Pr w' t2 b2 n2 r2 a2 c2 D2 M2 := by
  obtain ⟨B, hB, hR⟩ := hx.rt
  obtain ⟨B2, hB2, hR2⟩ := hy.rt
  refine ⟨hy.ta.keptF hK ?_ ?_ ?_, ⟨B2, Nat.le_trans hB2 hK.size, ⟨(hK.block r2 (lt_of_some hR2.x) ?_).trans hR2.x, hR2.o.kept hK ?_, hR2.lt⟩⟩, hy.dm, hy.iv, hy.ln, hy.lo⟩
  · rintro (e | e | e)
    · exact ne_tb hx.ta hy.ta e
    · exact ne_tr hy.ta hR e
    · exact (ne_row hy.ta hR e).2.1 rfl
  · rintro (e | e | e)
    · exact b12 e.symm
    · exact ne_br hy.ta hR e.symm
    · exact (ne_row hy.ta hR e).1 rfl
  · rintro (e | e | e)
    · exact ne_gb hx.ta e
    · have := hx.lo; omega
    · have := (ne_row hx.ta hR e).2.2
      have := hx.lo
      omega
  · rintro (e | e | e)
    · exact ne_br hx.ta hR2 e
    · exact r12 e.symm
    · exact ne_rk hR hR2 e rfl
  · rintro q hq (e | e | e)
    · exact (ne_row hx.ta hR2 hq).1 e.symm
    · exact ne_rk hR2 hR hq e.symm
    · exact k12 q e hq
/-- Two pairs, apart. -/
structure Tw (w : World) (t b r t2 b2 r2 n : Nat) (a : Option Addr) (c : Nat) (D : DataW Unit) (M : List Bv) (a2 : Option Addr) (c2 : Nat) (D2 : DataW Unit) (M2 : List Bv) : Prop where
  x : Pr w t b n r a c D M
  y : Pr w t2 b2 n r2 a2 c2 D2 M2
  b : b ≠ b2
  r : r ≠ r2
  k : ∀ q, (Value.slice a M.length c).ownBlock = some q → (Value.slice a2 M2.length c2).ownBlock ≠ some q
theorem row_lt (h : Pr w t b n r a c D M) {q : Nat} (hq : (Value.slice a M.length c).ownBlock = some q) : q < w.heap.size := by
  obtain ⟨B, _, hR⟩ := h.rt
  exact (hR.o.lt q hq).2
theorem Tw.one (h : Tw w t b r t2 b2 r2 n a c D M a2 c2 D2 M2) (hs : PlS w t b n r a c M w') : ∃ a' c' D' M', Tw w' t b r t2 b2 r2 (n + 1) a' c' D' M' a2 c2 D2 M2 := by
  obtain ⟨D', M', a', c', h1, hK, fr⟩ := hs
  refine ⟨a', c', D', M', h1, (h.x.other h.y h.b h.r h.k hK).more, h.b, h.r, fun q hq hq2 => ?_⟩
  rcases fr q hq with e | e
  · exact h.k q e hq2
  · have := row_lt h.y hq2
    omega
theorem Tw.two (h : Tw w t b r t2 b2 r2 n a c D M a2 c2 D2 M2) (hs : PlS w t2 b2 n r2 a2 c2 M2 w') : ∃ a' c' D' M', Tw w' t b r t2 b2 r2 (n + 1) a c D M a' c' D' M' := by
  obtain ⟨D', M', a', c', h1, hK, fr⟩ := hs
  refine ⟨a', c', D', M', (h.y.other h.x (fun e => h.b e.symm) (fun e => h.r e.symm) (fun q hq hq2 => h.k q hq2 hq) hK).more, h1, h.b, h.r, fun q hq hq2 => ?_⟩
  rcases fr q hq2 with e | e
  · exact h.k q hq e
  · have := row_lt h.x hq
    omega
/-- plays, of every step. -/
theorem plays_any (o : Sp) (w : World) (H : Pr w t b n r a c D M) (hn : n ≤ 900000) (hf : o.Fit) (hz : o.b.p.size ≤ 1048576 ∧ o.p.size ≤ 1048576) :
    Calls Tryz.prog 6 #[.pointer (some ⟨t, 0, none⟩), .pointer (some ⟨r, 0, none⟩), .agg o.cells.toArray] w (PlQ w t b n r a c M) := by
  by_cases hk : o.kind = 1 ∨ o.kind = 2 ∨ o.kind = 3
  · exact plays_change o w t b n r a c D M H hn hf hz hk
  · exact plays_look o w t b n r a c D M H hn hf hz hk
end Ac
end Go.Proofs.YthdofbjijpghfaaGreatDoor
end S4

section S5
namespace Go.Proofs.YthdofbjijpghfaaGreatDoor
open Go.RowKit Go.Sort
namespace Ac
def kSp : Kd Sp := ⟨Sp.cells, 10, 30, 22, 128, ⟨false, 0, 0, Bd.z, ⟨#[]⟩, ⟨#[]⟩, ⟨#[]⟩⟩⟩
theorem sp_at {w : World} {a : Option Addr} {n c : Nat} {l : List Sp} (H : Row kSp w (.slice a n c) l) (k : Nat) (hk : k < l.length) : ∃ b off, a = some ⟨b, off, none⟩ ∧ ∀ j y, ((l.getD k kSp.z).cells)[j]? = some y → w.cell? ⟨b, off + k * 10 + j, none⟩ = some y := H.at k hk
/-- Two pairs, all of them behind the world that was there, which is as it was. -/
structure Tx (w : World) (t b r t2 b2 r2 n : Nat) (W : World) : Prop where
  tw : ∃ a c D M a2 c2 D2 M2, Tw W t b r t2 b2 r2 n a c D M a2 c2 D2 M2
  bl : Below w.heap.size w W
  b1 : w.heap.size ≤ b
  r1 : w.heap.size ≤ r
  b2 : w.heap.size ≤ b2
  r2 : w.heap.size ≤ r2
variable {w W w' : World} {t b r t2 b2 r2 n : Nat}
theorem pls_below {a : Option Addr} {c : Nat} {D : DataW Unit} {M : List Bv} (hP : Pr W t b n r a c D M) (hs : PlS W t b n r a c M w') (hB : Below w.heap.size w W) (hb : w.heap.size ≤ b) (hr : w.heap.size ≤ r) : Below w.heap.size w w' := by
  obtain ⟨_, _, _, _, _, hK, _⟩ := hs
  obtain ⟨B, _, hR⟩ := hP.rt
  refine hB.trans (hK.below hB.size ?_)
  rintro y (rfl | rfl | hy)
  · exact hb
  · exact hr
  · have := (ne_row hP.ta hR hy).2.2
    omega
theorem Tx.one (h : Tx w t b r t2 b2 r2 n W) (o : Sp) (hn : n ≤ 900000) (hf : o.Fit) (hz : o.b.p.size ≤ 1048576 ∧ o.p.size ≤ 1048576) :
    Calls Tryz.prog 6 #[.pointer (some ⟨t, 0, none⟩), .pointer (some ⟨r, 0, none⟩), .agg o.cells.toArray] W fun e w' => e = .returned (.bool true) ∧ Tx w t b r t2 b2 r2 (n + 1) w' := by
  obtain ⟨⟨a, c, D, M, a2, c2, D2, M2, hT⟩, hB, h1, h2, h3, h4⟩ := h
  refine (plays_any o W hT.x hn hf hz).mono ?_
  rintro e w' ⟨rfl, hs⟩
  obtain ⟨a', c', D', M', hT'⟩ := hT.one hs
  exact ⟨rfl, ⟨a', c', D', M', a2, c2, D2, M2, hT'⟩, pls_below hT.x hs hB h1 h2, h1, h2, h3, h4⟩
theorem Tx.two (h : Tx w t b r t2 b2 r2 n W) (o : Sp) (hn : n ≤ 900000) (hf : o.Fit) (hz : o.b.p.size ≤ 1048576 ∧ o.p.size ≤ 1048576) :
    Calls Tryz.prog 6 #[.pointer (some ⟨t2, 0, none⟩), .pointer (some ⟨r2, 0, none⟩), .agg o.cells.toArray] W fun e w' => e = .returned (.bool true) ∧ Tx w t b r t2 b2 r2 (n + 1) w' := by
  obtain ⟨⟨a, c, D, M, a2, c2, D2, M2, hT⟩, hB, h1, h2, h3, h4⟩ := h
  refine (plays_any o W hT.y hn hf hz).mono ?_
  rintro e w' ⟨rfl, hs⟩
  obtain ⟨a', c', D', M', hT'⟩ := hT.two hs
  exact ⟨rfl, ⟨a, c, D, M, a', c', D', M', hT'⟩, pls_below hT.y hs hB h3 h4, h1, h2, h3, h4⟩
/-- Four makings. -/
theorem Tx.start {w1 w2 : World} (hm : L.HasM w) (h1 : Tb w1 t b 0 (.map [])) (l1 : w.heap.size ≤ b) (k1 : Below w.heap.size w w1) (h2 : Tb w2 t2 b2 0 (.map [])) (l2 : w1.heap.size ≤ b2) (k2 : Below w1.heap.size w1 w2) :
    Tx w t b w2.heap.size t2 b2 (w2.heap.size + 1) 0 ((w2.alloc (.cells #[.slice none 0 0] 40)).alloc (.cells #[.slice none 0 0] 40)) := by
  obtain ⟨X, hX⟩ : ∃ X, X = w2.alloc (.cells #[.slice none 0 0] 40) := ⟨_, rfl⟩
  have sX : X.heap.size = w2.heap.size + 1 := by rw [hX, World.size_alloc]
  have R1 : Rt X w2.heap.size (w2.heap.size + 1) none 0 [] := by rw [hX]; exact Rt.start w2
  have bX : Below w2.heap.size w2 X := by rw [hX]; exact (Below.refl _ _).alloc (Nat.le_refl _) _
  rw [← hX, ← sX]
  obtain ⟨Y, hY⟩ : ∃ Y, Y = X.alloc (.cells #[.slice none 0 0] 40) := ⟨_, rfl⟩
  have sY : Y.heap.size = X.heap.size + 1 := by rw [hY, World.size_alloc]
  have R2 : Rt Y X.heap.size (X.heap.size + 1) none 0 [] := by rw [hY]; exact Rt.start X
  have bY : Below X.heap.size X Y := by rw [hY]; exact (Below.refl _ _).alloc (Nat.le_refl _) _
  rw [← hY]
  have k2s := k2.size
  have k1s := k1.size
  have kX : Below w2.heap.size w2 Y := bX.trans (bY.mono (by omega))
  have k3 : Below w1.heap.size w1 Y := k2.trans (kX.mono k2s)
  have kW : Below w.heap.size w Y := k1.trans (k3.mono k1s)
  have hb := h1.m.lt
  have hM : L.HasM Y := hm.below kW
  obtain ⟨m, hc⟩ := hm
  have hg := block_lt_of_cell hc
  simp only at hg
  have lo : 0 < w.heap.size := hg
  refine ⟨⟨none, 0, .map [], [], none, 0, .map [], [], ⟨⟨h1.below k3, hM⟩, ⟨w2.heap.size + 1, by omega, R1.below bY⟩, Dm.start, Iv.new, by simp, by omega⟩, ⟨⟨h2.below kX, hM⟩, ⟨X.heap.size + 1, by omega, R2⟩, Dm.start, Iv.new, by simp, by omega⟩, by omega, by omega, fun q hq => by simp [Value.ownBlock] at hq⟩, kW, l1, by omega, by omega, by omega⟩
/-- Both lists of a pair. -/
theorem Tx.lists (h : Tx w t b r t2 b2 r2 n W) (hn : n ≤ 1000000) : ∃ M M2 : List Bv, M.length ≤ 1000000 ∧ M2.length ≤ 1000000 ∧
    (∀ w1, Below W.heap.size W w1 → Calls Tryz.prog 8 #[.pointer (some ⟨t, 0, none⟩)] w1 fun e w' => ∃ v, e = .returned v ∧ Row kBv w' v M ∧ Below w1.heap.size w1 w' ∧ Below W.heap.size W w') ∧
    (∀ w1, Below W.heap.size W w1 → Calls Tryz.prog 9 #[.pointer (some ⟨r, 0, none⟩)] w1 fun e w' => ∃ v, e = .returned v ∧ Row kBv w' v M ∧ Below w1.heap.size w1 w' ∧ Below W.heap.size W w') ∧
    (∀ w1, Below W.heap.size W w1 → Calls Tryz.prog 8 #[.pointer (some ⟨t2, 0, none⟩)] w1 fun e w' => ∃ v, e = .returned v ∧ Row kBv w' v M2 ∧ Below w1.heap.size w1 w' ∧ Below W.heap.size W w') ∧
    (∀ w1, Below W.heap.size W w1 → Calls Tryz.prog 9 #[.pointer (some ⟨r2, 0, none⟩)] w1 fun e w' => ∃ v, e = .returned v ∧ Row kBv w' v M2 ∧ Below w1.heap.size w1 w' ∧ Below W.heap.size W w') := by
  obtain ⟨⟨a, c, D, M, a2, c2, D2, M2, hT⟩, _, _, _, _, _⟩ := h
  have ONE : ∀ {t b r : Nat} {a : Option Addr} {c : Nat} {D : DataW Unit} {M : List Bv}, Pr W t b n r a c D M → ∀ w1, Below W.heap.size W w1 → Calls Tryz.prog 8 #[.pointer (some ⟨t, 0, none⟩)] w1 fun e w' => ∃ v, e = .returned v ∧ Row kBv w' v M ∧ Below w1.heap.size w1 w' ∧ Below W.heap.size W w' := by
    intro t b r a c D M P w1 h1
    refine (list_any w1 t b n D (P.ta.below h1) hn P.iv.vl).mono ?_
    rintro e w' ⟨v, S, rfl, hR, hL, hb⟩
    rw [P.dm.one hL] at hR
    exact ⟨v, rfl, hR, hb, h1.trans (hb.mono h1.size)⟩
  have TWO : ∀ {t b r : Nat} {a : Option Addr} {c : Nat} {D : DataW Unit} {M : List Bv}, Pr W t b n r a c D M → ∀ w1, Below W.heap.size W w1 → Calls Tryz.prog 9 #[.pointer (some ⟨r, 0, none⟩)] w1 fun e w' => ∃ v, e = .returned v ∧ Row kBv w' v M ∧ Below w1.heap.size w1 w' ∧ Below W.heap.size W w' := by
    intro t b r a c D M P w1 h1
    obtain ⟨B, hB, hR⟩ := (P.below h1).rt
    refine (refList_any w1 r B a c M hR (by have := P.ln; omega)).mono ?_
    rintro e w' ⟨v, rfl, hR, hb⟩
    exact ⟨v, rfl, hR.row okBv, hb, h1.trans (hb.mono h1.size)⟩
  exact ⟨M, M2, by have := hT.x.ln; omega, by have := hT.y.ln; omega, ONE hT.x, TWO hT.x, ONE hT.y, TWO hT.y⟩
end Ac
end Go.Proofs.YthdofbjijpghfaaGreatDoor
end S5
