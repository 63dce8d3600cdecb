/-
  strings.Clone; lay.
-/
import Derived.Test.YtlbnmafopfljcaaDoorAcT
import Derived.Deep.RegionHeld3
import Derived.Deep.RegionLaw
import Derived.Deep.CutRange
namespace Go.Proofs.YtlbnmafopfljcaaDoor
open Go.RowKit
namespace Ac
theorem clone_any (s : ByteArray) (w : World) (h : s.size ≤ 140737488355328) : Calls Tryd.prog 21 #[.string s] w fun e w' => e = .returned (.string s) ∧ Below w.heap.size w w' := by
  have C := Lib.hid (Tryd.stringslite_Clone s w (by omega))
  clear h
  go_enter Tryd.func21, Tryd.ntmps21
  go_wp2_with fail
  refine C.out.mono ?_
  rintro e w1 ⟨rfl, hb⟩
  have B := Lib.hid hb
  clear hb C
  go_wp2_with fail
  go_ret
  exact ⟨rfl, B.out⟩
theorem cellA {W : World} {a : Addr} {v : Value} (h : W.cell? a = some v) (o : Obj) : (W.alloc o).cell? a = some v := (((Below.refl _ W).alloc (Nat.le_refl _) o).cell (block_lt_of_cell h)).trans h
theorem bal {B : Nat} {w W : World} (h : Below B w W) (hB : B ≤ w.heap.size) (o : Obj) : Below B w (W.alloc o) := h.alloc (Nat.le_trans hB h.size) o
/-- A place's block, made since w. -/
def Pl (B : Nat) (W : World) (g : Nat) (p q : ByteArray) : Prop := B ≤ g ∧ W.heap[g]? = some (.cells #[.string p, .string q] 46 (0, 0))
theorem Pl.call {B : Nat} {W W' : World} {g : Nat} {p q : ByteArray} (h : Pl B W g p q) (hb : Below W.heap.size W W') : Pl B W' g p q := ⟨h.1, (hb.block g (lt_of_some h.2)).trans h.2⟩
theorem Pl.made {B : Nat} {W : World} (hB : B ≤ W.heap.size) (p q : ByteArray) : Pl B (W.alloc (.cells #[.string p, .string q] 46)) W.heap.size p q := ⟨hB, by rw [heap_alloc_new]⟩
theorem Pl.facts {B : Nat} {W : World} {g : Nat} {p q : ByteArray} (h : Pl B W g p q) : W.cell? ⟨g, 0, none⟩ = some (.string p) ∧ W.cell? ⟨g, 1, none⟩ = some (.string q) ∧ W.frozen? ⟨g, 0, none⟩ = false ∧ W.frozen? ⟨g, 1, none⟩ = false :=
  ⟨by rw [cell_of_row _ _ _ _ _ _ h.2]; rfl, by rw [cell_of_row _ _ _ _ _ _ h.2]; rfl, frozen_of_row _ _ _ _ _ h.2, frozen_of_row _ _ _ _ _ h.2⟩
theorem Pl.set {B : Nat} {W : World} {g : Nat} {p q p' q' : ByteArray} (h : Pl B W g p q) : Pl B ((W.setCell ⟨g, 0, none⟩ (.string p')).setCell ⟨g, 1, none⟩ (.string q')) g p' q' := by
  refine ⟨h.1, ?_⟩
  rw [heap_setCell_same _ _ _ _ _ _ (heap_setCell_same _ _ _ _ _ _ h.2)]
  rfl
theorem Pl.other {B : Nat} {W : World} {g g3 i : Nat} {p q : ByteArray} {a c v : Value} (h : Pl B W g p q) (hg : g3 < B) (hc : W.cell? ⟨g3, i, none⟩ = some v) : ((W.setCell ⟨g, 0, none⟩ a).setCell ⟨g, 1, none⟩ c).cell? ⟨g3, i, none⟩ = some v := by
  have hne : g3 ≠ g := by have := h.1; omega
  rw [World.cell?_of_block (Below.heap_setCell _ _ _ _ hne), World.cell?_of_block (Below.heap_setCell _ _ _ _ hne)]
  exact hc
set_option maxHeartbeats 8000000 in
set_option maxRecDepth 100000 in
theorem lay_any (x : Bd) (w : World) (t b n : Nat) (D : DataW Unit) (H : Tb w t b n D) (hn : n ≤ 1000000) (hf : x.Fit) :
    Calls Tryd.prog 12 #[.pointer (some ⟨t, 0, none⟩), x.val] w fun e w' => e = .returned (.tuple #[]) ∧ Tb w' t b (n + 1) (D.put (kl x.p x.n) (eR x.s x.v)) ∧ Kept (fun y => y = b) w w' := by
  obtain ⟨p, q, s, v⟩ := x
  have FI := Lib.hid hf
  have H' := Lib.hid H
  have NN := Lib.hid hn
  unfold Bd.val
  simp only
  obtain ⟨g3, hg3⟩ : ∃ g, g = w.heap.size := ⟨_, rfl⟩
  obtain ⟨X, hX⟩ : ∃ X, X = w.alloc (.cells #[.string p, .string q, .string s, .int .i64 v] 36) := ⟨_, rfl⟩
  have AX : Hid (Below w.heap.size w X ∧ X.heap[g3]? = some (.cells #[.string p, .string q, .string s, .int .i64 v] 36 (0, 0)) ∧ X.heap.size = w.heap.size + 1) := Lib.hid ⟨by rw [hX]; exact (Below.refl _ w).alloc (Nat.le_refl _) _, by rw [hX, hg3, heap_alloc_new], by rw [hX]; simp⟩
  have c0 : X.cell? ⟨g3, 0, none⟩ = some (.string p) := by rw [cell_of_row _ _ _ _ _ _ AX.out.2.1]; rfl
  have c1 : X.cell? ⟨g3, 1, none⟩ = some (.string q) := by rw [cell_of_row _ _ _ _ _ _ AX.out.2.1]; rfl
  have CL : Hid (∀ r W, (r = p ∨ r = q) → Calls Tryd.prog 21 #[.string r] W fun e w' => e = .returned (.string r) ∧ Below W.heap.size W w') := Lib.hid fun r W h => clone_any r W (h.elim (fun e => by rw [e]; exact hf.s.1) (fun e => by rw [e]; exact hf.s.2.1))
  have G3 : Hid (g3 < X.heap.size) := Lib.hid (lt_of_some AX.out.2.1)
  have BD : Hid (Below X.heap.size X X.drew) := Lib.hid ((Below.refl _ X).drew)
  have d0 : X.drew.cell? ⟨g3, 0, none⟩ = some (.string p) := c0
  have d1 : X.drew.cell? ⟨g3, 1, none⟩ = some (.string q) := c1
  have hX' := hX.symm
  have hg3' := hg3.symm
  clear hX hg3 hf H hn
  go_enter Tryd.func12, Tryd.ntmps12
  go_wp2_with fail
  go_cut [4] from 5 to 11 (fun s4 wx => ∃ g4, s4 = .pointer (some ⟨g4, 0, none⟩) ∧ Hid (Pl X.heap.size wx g4 p q ∧ Below X.heap.size X wx))
  case first =>
    have d2 := cellA d0 (Obj.cells #[.string ⟨#[]⟩, .string ⟨#[]⟩] 46)
    have d3 := cellA d1 (Obj.cells #[.string ⟨#[]⟩, .string ⟨#[]⟩] 46)
    have M1 : True := trivial
    go_region_held3 (fun W : World => W.cell? ⟨g3, 0, none⟩ = some (.string p) ∧ W.cell? ⟨g3, 1, none⟩ = some (.string q)) (first | (constructor <;> assumption) | (constructor <;> first | exact LM.out.other G3.out (by assumption)) | go_keep) (first
      | (go_at_call 21
         clear M1
         refine (CL.out _ _ (by first | exact Or.inl rfl | exact Or.inr rfl)).mono ?_
         rintro e x6 ⟨rfl, hb6⟩
         have Q6 : Hid (Below X.heap.size X x6) := Lib.hid (by first | exact BD.out.trans (hb6.mono BD.out.size) | exact (bal BD.out (Nat.le_refl _) _).trans (hb6.mono (bal BD.out (Nat.le_refl _) _).size))
         have z0 : x6.cell? ⟨g3, 0, none⟩ = some (.string p) := (Q6.out.cell (block_lt_of_cell c0)).trans c0
         have z1 : x6.cell? ⟨g3, 1, none⟩ = some (.string q) := (Q6.out.cell (block_lt_of_cell c1)).trans c1
         have z2 := cellA z0 (Obj.cells #[.string ⟨#[]⟩, .string ⟨#[]⟩] 46)
         have z3 := cellA z1 (Obj.cells #[.string ⟨#[]⟩, .string ⟨#[]⟩] 46)
         first
           | (have LL : Hid (Pl X.heap.size x6 X.heap.size ⟨#[]⟩ ⟨#[]⟩) := Lib.hid ((Pl.made (W := X.drew) (Nat.le_refl _) _ _).call hb6))
           | skip
         clear hb6)
      | (go_at_call 21
         refine (CL.out _ _ (by first | exact Or.inl rfl | exact Or.inr rfl)).mono ?_
         rintro e x7 ⟨rfl, hb7⟩
         have Q7 : Hid (Below X.heap.size X x7) := Lib.hid (by first | exact Q6.out.trans (hb7.mono Q6.out.size) | exact (bal Q6.out (Nat.le_refl _) _).trans (hb7.mono (bal Q6.out (Nat.le_refl _) _).size))
         have y0 : x7.cell? ⟨g3, 0, none⟩ = some (.string p) := (Q7.out.cell (block_lt_of_cell c0)).trans c0
         have y1 : x7.cell? ⟨g3, 1, none⟩ = some (.string q) := (Q7.out.cell (block_lt_of_cell c1)).trans c1
         have y2 := cellA y0 (Obj.cells #[.string ⟨#[]⟩, .string ⟨#[]⟩] 46)
         have y3 := cellA y1 (Obj.cells #[.string ⟨#[]⟩, .string ⟨#[]⟩] 46)
         first
           | (have LM := Lib.hid (LL.out.call hb7); obtain ⟨k0, k1, k2, k3⟩ := LM.out.facts)
           | (have LM : Hid (Pl X.heap.size x7 x6.heap.size ⟨#[]⟩ ⟨#[]⟩) := Lib.hid ((Pl.made (W := x6) Q6.out.size _ _).call hb7); obtain ⟨k0, k1, k2, k3⟩ := LM.out.facts)
           | skip
         clear hb7))
    all_goals
      go_wp2_with fail
      go_meet
      first
        | exact ⟨_, rfl, Lib.hid ⟨Pl.made Q7.out.size _ _, bal Q7.out (Nat.le_refl _) _⟩⟩
        | exact ⟨_, rfl, Lib.hid ⟨LM.out.set, (Q7.out.setCell (p := ⟨_, 0, none⟩) LM.out.1 _).setCell (p := ⟨_, 1, none⟩) LM.out.1 _⟩⟩
  case rest =>
    obtain ⟨g4, rfl, PL⟩ := hcut
    have TC : Hid (Tb wc t b n D) := Lib.hid ((H'.out.below AX.out.1).below PL.out.2)
    have e0 : wc.cell? ⟨t, 0, none⟩ = some (.map (some b)) := TC.out.cell
    obtain ⟨e1, e2, -, -⟩ := PL.out.1.facts
    have e3 : wc.cell? ⟨g3, 2, none⟩ = some (.string s) := (PL.out.2.cell (p := ⟨g3, 2, none⟩) G3.out).trans (by rw [cell_of_row _ _ _ _ _ _ AX.out.2.1]; rfl)
    have e4 : wc.cell? ⟨g3, 3, none⟩ = some (.int .i64 v) := (PL.out.2.cell (p := ⟨g3, 3, none⟩) G3.out).trans (by rw [cell_of_row _ _ _ _ _ _ AX.out.2.1]; rfl)
    have CS : Hid (∀ W, Calls Tryd.prog 21 #[.string s] W fun e w' => e = .returned (.string s) ∧ Below W.heap.size W w') := Lib.hid fun W => clone_any s W FI.out.s.2.2
    have KY := Lib.hid (key_mk p q (by have := FI.out.s.1; unfold maxLen; simp only at this; omega) (by have := FI.out.s.2.1; unfold maxLen; simp only at this; omega))
    have BC : Hid (Below wc.heap.size wc wc.drew) := Lib.hid ((Below.refl _ wc).drew)
    have f0 : wc.drew.cell? ⟨t, 0, none⟩ = some (.map (some b)) := e0
    have f1 : wc.drew.cell? ⟨g4, 0, none⟩ = some (.string p) := e1
    have f2 : wc.drew.cell? ⟨g4, 1, none⟩ = some (.string q) := e2
    have f3 : wc.drew.cell? ⟨g3, 2, none⟩ = some (.string s) := e3
    have f4 : wc.drew.cell? ⟨g3, 3, none⟩ = some (.int .i64 v) := e4
    go_wp2_with fail
    go_region_held3 (fun W : World => W.cell? ⟨t, 0, none⟩ = some (.map (some b)) ∧ W.cell? ⟨g4, 0, none⟩ = some (.string p) ∧ W.cell? ⟨g4, 1, none⟩ = some (.string q) ∧ W.cell? ⟨g3, 2, none⟩ = some (.string s) ∧ W.cell? ⟨g3, 3, none⟩ = some (.int .i64 v)) (first | exact ⟨by assumption, by assumption, by assumption, by assumption, by assumption⟩ | go_keep) (first
      | (go_at_call 21
         refine (CS.out _).mono ?_
         rintro e x6 ⟨rfl, hb6⟩
         have Q6 : Hid (Below wc.heap.size wc x6) := Lib.hid (BC.out.trans (hb6.mono BC.out.size))
         have T6 : Hid (Tb x6 t b n D) := Lib.hid (TC.out.below Q6.out)
         have z0 : x6.cell? ⟨t, 0, none⟩ = some (.map (some b)) := (Q6.out.cell (block_lt_of_cell e0)).trans e0
         have z1 : x6.cell? ⟨g4, 0, none⟩ = some (.string p) := (Q6.out.cell (block_lt_of_cell e1)).trans e1
         have z2 : x6.cell? ⟨g4, 1, none⟩ = some (.string q) := (Q6.out.cell (block_lt_of_cell e2)).trans e2
         have z3 : x6.cell? ⟨g3, 2, none⟩ = some (.string s) := (Q6.out.cell (block_lt_of_cell e3)).trans e3
         have z4 : x6.cell? ⟨g3, 3, none⟩ = some (.int .i64 v) := (Q6.out.cell (block_lt_of_cell e4)).trans e4
         obtain ⟨x7, hrun, o7, gr7⟩ := T6.out.m.update K Tryd.underlying42 (by have := NN.out; unfold maxLen; omega) KY.out (rR_mk s v)
         unfold pv rv at hrun
         have KP : Hid (∀ (g i : Nat) (y : Value), x6.cell? ⟨g, i, none⟩ = some y → x7.cell? ⟨g, i, none⟩ = some y) := Lib.hid (fun g i y h => by
           have hne : g ≠ b := fun e => by
             obtain ⟨es, clock, hb, _⟩ := T6.out.m
             rw [e] at h
             simp [World.cell?, hb] at h
           rw [World.cell?_of_block (gr7.block g (block_lt_of_cell h) (fun e => hne (Option.some.inj e)))]
           exact h)
         have u0 := KP.out _ _ _ z0
         have u1 := KP.out _ _ _ z1
         have u2 := KP.out _ _ _ z2
         have u3 := KP.out _ _ _ z3
         have u4 := KP.out _ _ _ z4
         have W7 : Hid (Tb x7 t b (n + 1) (D.put (kl p q) (eR s v)) ∧ Kept (fun y => y = b) x6 x7) := Lib.hid ⟨⟨(gr7.block t (lt_of_some T6.out.t) (fun e => T6.out.ne (Option.some.inj e))).trans T6.out.t, o7⟩, (grown_kept gr7).mono (fun y _ e => Option.some.inj e)⟩
         clear hb6 o7 gr7))
    all_goals
      go_wp2_with fail
      go_end0
      refine ⟨rfl, W7.out.1, ?_⟩
      have b1 := AX.out.1.trans ((PL.out.2.trans (Q6.out.mono PL.out.2.size)).mono AX.out.1.size)
      exact (Below.kept b1 _).trans W7.out.2 (fun _ _ e => e)
end Ac
end Go.Proofs.YtlbnmafopfljcaaDoor
