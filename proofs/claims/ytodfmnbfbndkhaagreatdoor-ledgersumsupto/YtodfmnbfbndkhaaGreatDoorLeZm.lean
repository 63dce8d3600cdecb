/-
  LeZa, LeZ, LeOb, LeOf, LeOr, LeOq, joined.
-/
import Derived.Test.YtodfmnbfbndkhaaGreatDoorLeXm
import Derived.Test.YtodfmnbfbndkhaaGreatDoorScN
section S0
namespace Go.Proofs.YtodfmnbfbndkhaaGreatDoor
open Go.RowKit Go.Sort
namespace Le
theorem row_kq {α : Type} {K : Kd α} {w W : World} {v : Value} {xs : List α} (H : Row K w v xs) (h : Kq w W) : Row K W v xs := by
  obtain ⟨a, cap, e, h1, h2, h0, h3⟩ := H
  refine ⟨a, cap, e, h1, h2, h0, fun k hk => ?_⟩
  obtain ⟨b, off, ea, hc⟩ := h3 k hk
  exact ⟨b, off, ea, fun j y hy => h.cell (hc j y hy)⟩
theorem pts_kq {w W : World} {v : Value} {l : List Pt} (H : Pts w v l) (h : Kq w W) : Pts W v l := by
  obtain ⟨rs, h1, h2, h3⟩ := H
  exact ⟨rs, row_kq h1 h, h2, fun k hk => ⟨(h3 k hk).1, row_kq (h3 k hk).2.1 h, row_kq (h3 k hk).2.2 h⟩⟩
theorem ob_kq {w W : World} {ls ps : Value} {o : Ob} (H : ObV w ls ps o) (h : Kq w W) : ObV W ls ps o := ⟨row_kq H.l h, pts_kq H.p h⟩
theorem gl_kq {w W : World} (H : Gl w) (h : Kq w W) : Gl W :=
  ⟨by obtain ⟨m, hm⟩ := H.hm; exact ⟨m, h.cell hm⟩, fun k hk => ⟨h.cell (H.nm k hk).1, h.cell (H.nm k hk).2⟩⟩
theorem Kq.of {w W : World} (h : Below w.heap.size w W) : Kq w W := ⟨h.size, fun _ _ _ _ e => (h.block _ (lt_of_some e)).trans e⟩
theorem Kq.trans {a b c : World} (h : Kq a b) (k : Kq b c) : Kq a c := ⟨Nat.le_trans h.sz k.sz, fun y cs ty fr e => k.bk y cs ty fr (h.bk y cs ty fr e)⟩
/-- A ledger of the law's own. -/
structure Lv (w W : World) (t b n : Nat) (D : DataW Unit) (f : Ky → Int) : Prop where
  ld : Ld W t b n D
  rep : Rep D f
  vf : VF f
  bel : Below w.heap.size w W
  t0 : w.heap.size ≤ t
  b0 : w.heap.size ≤ b
  gl : Gl W
variable {w W W' : World} {t b n : Nat} {D : DataW Unit} {f : Ky → Int}
theorem Lv.below (h : Lv w W t b n D f) (hb : Below W.heap.size W W') : Lv w W' t b n D f :=
  ⟨h.ld.below hb, h.rep, h.vf, h.bel.trans (hb.mono h.bel.size), h.t0, h.b0, h.gl.below hb⟩
theorem Lv.kq (h : Lv w W t b n D f) (hk : Kept (fun y => y = b) W W') : Kq W W' := by
  obtain ⟨es, ck, hm, _⟩ := h.ld.m
  exact ⟨hk.size, (kp_map hm hk).2⟩
theorem Lv.turn (h : Lv w W t b n D f) {n' : Nat} {D' : DataW Unit} {f' : Ky → Int} (hl : Ld W' t b n' D') (hr : Rep D' f') (hv : VF f') (hk : Kept (fun y => y = b) W W') : Lv w W' t b n' D' f' :=
  ⟨hl, hr, hv, h.bel.trans (hk.below h.bel.size (fun x e => by rw [e]; exact h.b0)), h.t0, h.b0, gl_kq h.gl (h.kq hk)⟩
theorem charge_lv (o : Ob) (ls ps : Value) (H : Lv w W t b n D f) (hv : ObV W ls ps o) (hz : PSz o.ps) (hp : o.p.size ≤ 140737488355328) (hn : n ≤ 100000000000000) :
    Calls Tryz.prog 11 #[.pointer (some ⟨t, 0, none⟩), o.val ls ps] W fun e W' => ∃ D' n', e = .returned (.int .i64 (mvE true f o)) ∧ Lv w W' t b n' D' (mvF true f o) ∧ Kq W W' ∧ n' ≤ n + (shR o).length := by
  refine (charge_any o ls ps W t b n D f H.ld H.rep H.gl hv hz hp (fun _ => shOk_any o hz) hn).mono ?_
  rintro e W' ⟨D', n', rfl, h2, h3, h4, h5⟩
  exact ⟨D', n', rfl, H.turn h2 h3 (H.vf.mv hz) h4, H.kq h4, h5⟩
theorem release_lv (o : Ob) (ls ps : Value) (H : Lv w W t b n D f) (hv : ObV W ls ps o) (hz : PSz o.ps) (hp : o.p.size ≤ 140737488355328) (hn : n ≤ 100000000000000) :
    Calls Tryz.prog 14 #[.pointer (some ⟨t, 0, none⟩), o.val ls ps] W fun e W' => ∃ D' n', e = .returned (.int .i64 (mvE false f o)) ∧ Lv w W' t b n' D' (mvF false f o) ∧ Kq W W' ∧ n' ≤ n + (shR o).length := by
  refine (release_any o ls ps W t b n D f H.ld H.rep H.gl hv hz hp (fun _ => shOk_any o hz) hn).mono ?_
  rintro e W' ⟨D', n', rfl, h2, h3, h4, h5⟩
  exact ⟨D', n', rfl, H.turn h2 h3 (H.vf.mv hz) h4, H.kq h4, h5⟩
theorem rows_lv (H : Lv w W t b n D f) (hn : n ≤ 2000000000000) :
    Calls Tryz.prog 12 #[.pointer (some ⟨t, 0, none⟩)] W fun e W' => ∃ v S, e = .returned v ∧ Row kUse W' v S ∧ Li D S ∧ Below W.heap.size W W' :=
  rows_any W t b n D H.ld hn (vl_of H.rep H.vf)
/-- The laws' first object in memory. -/
def dZ (w : World) : World := ((w.alloc (.cells #[.string ⟨#[99, 112, 117]⟩, .int .i64 500] 37)).alloc (.cells #[.string ⟨#[112]⟩, .slice (some ⟨w.heap.size, 0, none⟩) 1 1, .slice none 0 0] 35)).alloc (.cells #[.string ⟨#[47, 97, 47, 98]⟩, .string ⟨#[]⟩, .slice none 0 0, .int .i64 0, .int .i64 0, .slice (some ⟨w.heap.size + 1, 0, none⟩) 1 1, .int .i64 0] 25)
theorem dZ_ok (w : World) : ObV (dZ w) (.slice none 0 0) (.slice (some ⟨w.heap.size + 1, 0, none⟩) 1 1) dO ∧ Below w.heap.size w (dZ w) ∧ (dZ w).heap[w.heap.size + 1 + 1]? = some (.cells #[.string ⟨#[47, 97, 47, 98]⟩, .string ⟨#[]⟩, .slice none 0 0, .int .i64 0, .int .i64 0, .slice (some ⟨w.heap.size + 1, 0, none⟩) 1 1, .int .i64 0] 25 (0, 0)) := by
  unfold dZ
  obtain ⟨X, hX⟩ : ∃ X, X = w.alloc (.cells #[.string ⟨#[99, 112, 117]⟩, .int .i64 500] 37) := ⟨_, rfl⟩
  rw [← hX]
  obtain ⟨Y, hY⟩ : ∃ Y, Y = X.alloc (.cells #[.string ⟨#[112]⟩, .slice (some ⟨w.heap.size, 0, none⟩) 1 1, .slice none 0 0] 35) := ⟨_, rfl⟩
  rw [← hY]
  have O1 : OwnR kAm w.heap.size X (.slice (some ⟨w.heap.size, 0, none⟩) 1 1) [⟨tCpu, 500⟩] := by rw [hX]; exact row_built w _ okAm rfl rfl (by decide)
  have XS : X.heap.size = w.heap.size + 1 := by rw [hX]; simp
  have YS : Y.heap.size = w.heap.size + 1 + 1 := by rw [hY]; simp [XS]
  have BY : Below X.heap.size X Y := by rw [hY]; exact (Below.refl _ X).alloc (Nat.le_refl _) _
  have O2 : OwnR kPt X.heap.size Y (.slice (some ⟨X.heap.size, 0, none⟩) 1 1) [⟨⟨#[112]⟩, ⟨some ⟨w.heap.size, 0, none⟩, 1, 1⟩, ⟨none, 0, 0⟩⟩] := by rw [hY]; exact row_built X _ okPt rfl rfl (by show 1 ≤ maxLen; decide)
  have OV : ObV Y (.slice none 0 0) (.slice (some ⟨w.heap.size + 1, 0, none⟩) 1 1) dO := by
    refine ⟨Row.nil _, ⟨_, by rw [← XS]; exact O2.row okPt, rfl, fun k hk => ?_⟩⟩
    have : k = 0 := by simp [dO, dP] at hk; omega
    subst this
    exact ⟨rfl, (O1.row okAm).below BY, Row.nil _⟩
  have BX : Below w.heap.size w X := by rw [hX]; exact (Below.refl _ w).alloc (Nat.le_refl _) _
  have BZ : ∀ o, Below Y.heap.size Y (Y.alloc o) := fun o => (Below.refl _ Y).alloc (Nat.le_refl _) _
  refine ⟨OV.below (BZ _), (BX.trans (BY.mono BX.size)).trans ((BZ _).mono (by omega)), ?_⟩
  have := heap_alloc_new Y (.cells #[.string ⟨#[47, 97, 47, 98]⟩, .string ⟨#[]⟩, .slice none 0 0, .int .i64 0, .int .i64 0, .slice (some ⟨w.heap.size + 1, 0, none⟩) 1 1, .int .i64 0] 25)
  rw [YS] at this
  exact this
end Le
end Go.Proofs.YtodfmnbfbndkhaaGreatDoor
end S0

section S1
namespace Go.Proofs.YtodfmnbfbndkhaaGreatDoor
open Go.RowKit Go.Sort
namespace Le
set_option maxHeartbeats 8000000 in
set_option maxRecDepth 100000 in
theorem lives_any (w : World) (G : Gl w) : Calls Tryz.prog 9 #[] w fun e w' => ∃ t b n D, e = .returned (.pointer (some ⟨t, 0, none⟩)) ∧ Lv w w' t b n D (fun _ => 0) ∧ n ≤ 48 := by
  have NW := Lib.hid (new_any w)
  have GG := Lib.hid G
  clear G
  go_enter Tryz.func9, Tryz.ntmps9
  go_wp2_with fail
  refine NW.out.mono ?_
  rintro e w1 ⟨t, b, rfl, h1, h2, h3, h4⟩
  have L1 : Hid (Lv w w1 t b 0 (.map []) (fun _ => 0)) := Lib.hid ⟨h1, Rep.nil, VF.nil, h4, h2, h3, GG.out.below h4⟩
  clear h1 h2 h3 h4 NW GG
  have OB := Lib.hid (dZ_ok w1)
  have L2 := Lib.hid (L1.out.below OB.out.2.1)
  have CH : Hid (Calls Tryz.prog 11 #[.pointer (some ⟨t, 0, none⟩), .agg #[.string ⟨#[47, 97, 47, 98]⟩, .string ⟨#[]⟩, .slice none 0 0, .int .i64 0, .int .i64 0, .slice (some ⟨w1.heap.size + 1, 0, none⟩) 1 1, .int .i64 0]] (((w1.alloc (.cells #[.string ⟨#[99, 112, 117]⟩, .int .i64 500] 37)).alloc (.cells #[.string ⟨#[112]⟩, .slice (some ⟨w1.heap.size, 0, none⟩) 1 1, .slice none 0 0] 35)).alloc (.cells #[.string ⟨#[47, 97, 47, 98]⟩, .string ⟨#[]⟩, .slice none 0 0, .int .i64 0, .int .i64 0, .slice (some ⟨w1.heap.size + 1, 0, none⟩) 1 1, .int .i64 0] 25)) fun e W' => ∃ D' n', e = .returned (.int .i64 0) ∧ Lv w W' t b n' D' dF ∧ Kq (dZ w1) W' ∧ n' ≤ 24) := Lib.hid (by
    have q := charge_lv dO _ _ L2.out OB.out.1 d_sz (by decide) (by decide)
    rw [d_mv, d_len] at q
    refine Calls.mono q ?_
    rintro e W' ⟨D', n', rfl, h2, h3, h4⟩
    exact ⟨D', n', rfl, h2, h3, by omega⟩)
  go_wp2_with fail
  refine CH.out.mono ?_
  rintro e w2 ⟨D2, n2, rfl, h2, h3, h4⟩
  have L3 := Lib.hid (And.intro h2 (And.intro h3 h4))
  clear h2 h3 h4 CH L2
  have US : Hid (Calls Tryz.prog 18 #[.pointer (some ⟨t, 0, none⟩), .string ⟨#[47, 97]⟩, .agg #[.int .i64 0, .int .i64 0], .string ⟨#[114, 101, 113, 117, 101, 115, 116, 115, 46, 99, 112, 117]⟩] w2 fun e w' => e = .returned (.int .i64 500) ∧ Below w2.heap.size w2 w') := Lib.hid (by
    have q := used_any (w := w2) ⟨⟨#[47, 97]⟩, 0, 0, tRc⟩ L3.out.1.ld L3.out.1.rep ⟨(by decide : (⟨#[47, 97]⟩ : ByteArray).size ≤ maxLen), (by decide : tRc.size ≤ maxLen), (by decide : In6 0), (by decide : In6 0)⟩
    rw [d_used] at q
    exact q)
  go_wp2_with fail
  refine US.out.mono ?_
  rintro e w3 ⟨rfl, hb⟩
  have L4 := Lib.hid (And.intro (L3.out.1.below hb) (And.intro (L3.out.2.1.below hb) L3.out.2.2))
  clear hb US L3
  have RW := Lib.hid (rows_lv L4.out.1 (by have := L4.out.2.2; omega))
  go_wp2_with fail
  refine RW.out.mono ?_
  rintro e w4 ⟨v, S, rfl, h1, h2, hb⟩
  obtain ⟨a, c, rfl, _, _⟩ := h1.len
  have hl := d_rows h2 L4.out.1.rep
  rw [hl]
  have L5 := Lib.hid (And.intro (L4.out.1.below hb) (And.intro (L4.out.2.1.below hb) L4.out.2.2))
  clear h1 h2 hb hl RW L4
  have CN : Hid (Calls Tryz.prog 19 #[.pointer (some ⟨t, 0, none⟩), .string ⟨#[47]⟩] w4 fun e w' => e = .returned (.int .i64 1) ∧ Below w4.heap.size w4 w') := Lib.hid (by
    have q := count_any (w := w4) ⟨#[47]⟩ L5.out.1.ld L5.out.1.rep (by decide)
    rw [d_count] at q
    exact q)
  go_wp2_with fail
  refine CN.out.mono ?_
  rintro e w5 ⟨rfl, hb⟩
  have L6 := Lib.hid (And.intro (L5.out.1.below hb) (And.intro (L5.out.2.1.below hb) L5.out.2.2))
  clear hb CN L5
  obtain ⟨g, hg⟩ : ∃ g, g = w1.heap.size + 1 + 1 := ⟨_, rfl⟩
  have hb : w5.heap[g]? = some (.cells #[.string ⟨#[47, 97, 47, 98]⟩, .string ⟨#[]⟩, .slice none 0 0, .int .i64 0, .int .i64 0, .slice (some ⟨w1.heap.size + 1, 0, none⟩) 1 1, .int .i64 0] 25 (0, 0)) := by rw [hg]; exact L6.out.2.1.bk _ _ _ _ OB.out.2.2
  rw [← hg]
  have a0 : w5.cell? ⟨g, 0, none⟩ = some (.string ⟨#[47, 97, 47, 98]⟩) := by rw [cell_of_row _ _ _ _ _ _ hb]; rfl
  have a1 : w5.cell? ⟨g, 1, none⟩ = some (.string ⟨#[]⟩) := by rw [cell_of_row _ _ _ _ _ _ hb]; rfl
  have a2 : w5.cell? ⟨g, 2, none⟩ = some (.slice none 0 0) := by rw [cell_of_row _ _ _ _ _ _ hb]; rfl
  have a3 : w5.cell? ⟨g, 3, none⟩ = some (.int .i64 0) := by rw [cell_of_row _ _ _ _ _ _ hb]; rfl
  have a4 : w5.cell? ⟨g, 4, none⟩ = some (.int .i64 0) := by rw [cell_of_row _ _ _ _ _ _ hb]; rfl
  have a5 : w5.cell? ⟨g, 5, none⟩ = some (.slice (some ⟨w1.heap.size + 1, 0, none⟩) 1 1) := by rw [cell_of_row _ _ _ _ _ _ hb]; rfl
  have a6 : w5.cell? ⟨g, 6, none⟩ = some (.int .i64 0) := by rw [cell_of_row _ _ _ _ _ _ hb]; rfl
  have CR : Hid (Calls Tryz.prog 14 #[.pointer (some ⟨t, 0, none⟩), .agg #[.string ⟨#[47, 97, 47, 98]⟩, .string ⟨#[]⟩, .slice none 0 0, .int .i64 0, .int .i64 0, .slice (some ⟨w1.heap.size + 1, 0, none⟩) 1 1, .int .i64 0]] w5 fun e W' => ∃ D' n', e = .returned (.int .i64 0) ∧ Lv w W' t b n' D' (fun _ => 0) ∧ n' ≤ 48) := Lib.hid (by
    have q := release_lv dO _ _ L6.out.1 (ob_kq OB.out.1 L6.out.2.1) d_sz (by decide) (by have := L6.out.2.2; omega)
    rw [d_back.1, d_back.2, d_len] at q
    refine Calls.mono q ?_
    rintro e W' ⟨D', n', rfl, h2, h3, h4⟩
    exact ⟨D', n', rfl, h2, by have := L6.out.2.2; omega⟩)
  clear hb hg
  go_wp2_with fail
  refine CR.out.mono ?_
  rintro e w6 ⟨D6, n6, rfl, h2, h3⟩
  have L7 := Lib.hid (And.intro h2 h3)
  clear h2 h3 CR a0 a1 a2 a3 a4 a5 a6 L6 OB L1
  have RW := Lib.hid (rows_lv L7.out.1 (by have := L7.out.2; omega))
  go_wp2_with fail
  refine RW.out.mono ?_
  rintro e w7 ⟨v, S2, rfl, h1, h2, hb⟩
  have hn := rows_none h2 L7.out.1.rep
  subst hn
  obtain ⟨a2, c2, rfl, _, _⟩ := h1.len
  have L8 := Lib.hid (And.intro (L7.out.1.below hb) L7.out.2)
  clear h1 h2 hb RW L7
  go_wp2_with fail
  go_ret
  exact ⟨t, b, n6, D6, rfl, L8.out.1, L8.out.2⟩
end Le
end Go.Proofs.YtodfmnbfbndkhaaGreatDoor
end S1

section S2
namespace Go.Proofs.YtodfmnbfbndkhaaGreatDoor
open Go.RowKit Go.Sort
namespace Le
/-- An object with its two lists as they lie in memory. -/
abbrev Rb := Ob × Sl × Sl
def Rb.c (x : Rb) : List Value := [.string x.1.p, .string x.1.n, x.2.1.v, .int .i64 x.1.pr, .int .i64 x.1.dl, x.2.2.v, .int .i64 x.1.ver]
def kOb : Kd Rb := ⟨Rb.c, 7, 25, 46, 104, ⟨⟨⟨#[]⟩, ⟨#[]⟩, [], 0, 0, [], 0⟩, ⟨none, 0, 0⟩, ⟨none, 0, 0⟩⟩⟩
theorem okOb : kOb.Ok := ⟨fun _ => rfl, by decide, fun x u hu => by simp only [kOb, Rb.c, List.mem_cons, List.not_mem_nil, or_false] at hu; rcases hu with rfl | rfl | rfl | rfl | rfl | rfl | rfl <;> rfl, Tryz.underlying46, ⟨_, (by kernel_rfl : (Tryz.prog.info? 25).map (fun i => (i.zero, i.size, i.bytes)) = some (some (.agg #[.string ⟨#[]⟩, .string ⟨#[]⟩, .slice none 0 0, .int .i64 0, .int .i64 0, .slice none 0 0, .int .i64 0]), 7, 104)), rfl⟩, by decide⟩
theorem val_c (x : Rb) : x.1.val x.2.1.v x.2.2.v = .agg (Rb.c x).toArray := rfl
/-- The slice holds the objects. -/
structure ObsAt (w : World) (v : Value) (rs : List Rb) : Prop where
  r : Row kOb w v rs
  o : ∀ x ∈ rs, ObV w x.2.1.v x.2.2.v x.1
theorem ObsAt.kq {w W : World} {v : Value} {rs : List Rb} (H : ObsAt w v rs) (h : Kq w W) : ObsAt W v rs := ⟨row_kq H.r h, fun x hx => ob_kq (H.o x hx) h⟩
theorem ObsAt.below {w W : World} {v : Value} {rs : List Rb} (H : ObsAt w v rs) (h : Below w.heap.size w W) : ObsAt W v rs := H.kq (Kq.of h)
/-- The sums behind a list of charges. -/
noncomputable def chF (l : List Ob) : Ky → Int := l.foldl (fun f o => mvF true f o) (fun _ => 0)
/-- All of them are charged. -/
def chOk (l : List Ob) : Prop := ∀ i (h : i < l.length), mvE true (chF (l.take i)) l[i] = 0
/-- Sizes that are borne. -/
structure OzL (rs : List Rb) : Prop where
  z : ∀ x ∈ rs, PSz x.1.ps
  p : ∀ x ∈ rs, x.1.p.size ≤ 140737488355328
  s : ∀ x ∈ rs, OSz x.1
theorem chF_snoc (l : List Ob) (i : Nat) (h : i < l.length) : chF (l.take (i + 1)) = mvF true (chF (l.take i)) l[i] := by
  unfold chF
  rw [List.take_add_one, List.getElem?_eq_getElem h, List.foldl_append]
  rfl
/-- What stands under a place among objects. -/
noncomputable def tot (l : List Ob) (x : Ky) : Int := match l with
  | [] => 0
  | o :: r => shv (shR o) x + tot r x
theorem tot_snoc (l : List Ob) (o : Ob) (x : Ky) : tot (l ++ [o]) x = tot l x + shv (shR o) x := by
  induction l with
  | nil => simp [tot]
  | cons a r ih => rw [List.cons_append, tot, tot, ih]; omega
theorem chF_tot {l : List Ob} (hz : ∀ o ∈ l, PSz o.ps) (h : chOk l) : ∀ i, i ≤ l.length → ∀ x, chF (l.take i) x = tot (l.take i) x
  | 0, _, x => by simp [chF, tot]
  | i + 1, hi, x => by
    have hl : i < l.length := hi
    have e : l.take (i + 1) = l.take i ++ [l[i]] := by rw [List.take_add_one, List.getElem?_eq_getElem hl]; rfl
    rw [chF_snoc l i hl, mv_at (hz _ (List.getElem_mem hl)) (h i hl), chF_tot hz h i (by omega), e, tot_snoc]
    unfold sg
    simp
theorem sh_len (o : Ob) (hz : PSz o.ps) : (shR o).length ≤ 144000000 := by
  obtain ⟨l1, _⟩ := lineP_size o.p
  obtain ⟨_, c2, _⟩ := canS_nodup o
  obtain ⟨u1, _⟩ := uses_ok hz
  unfold shR
  rw [shL_len]
  have q1 : (canS o).length * (usesL o.ps).length ≤ 4 * 4000000 := Nat.mul_le_mul c2 u1
  have q2 : (lineP o.p).length * ((canS o).length * (usesL o.ps).length) ≤ 9 * (4 * 4000000) := Nat.mul_le_mul l1 q1
  omega
end Le
end Go.Proofs.YtodfmnbfbndkhaaGreatDoor
end S2

section S3
namespace Go.Proofs.YtodfmnbfbndkhaaGreatDoor
open Go.RowKit Go.Sort
namespace Le
set_option maxHeartbeats 8000000 in
set_option maxRecDepth 100000 in
theorem of_yes (w : World) (v : Value) (rs : List Rb) (G : Gl w) (HO : ObsAt w v rs) (OZ : OzL rs) (ok : chOk (rs.map (·.1))) (hm : rs.length ≤ 100000) :
    Calls Tryz.prog 23 #[v] w fun e w' => ∃ t b n D, e = .returned (.tuple #[.pointer (some ⟨t, 0, none⟩), .int .i64 0]) ∧ Lv w w' t b n D (chF (rs.map (·.1))) ∧ n ≤ rs.length * 144000000 := by
  have NW := Lib.hid (new_any w)
  have GG := Lib.hid G
  have OB := Lib.hid HO
  have HZ := Lib.hid OZ
  have CK := Lib.hid ok
  obtain ⟨va, vc, rfl, hlc, hcm⟩ := HO.r.len
  unfold maxLen at hcm
  obtain ⟨m, hmm⟩ : ∃ m, m = rs.length := ⟨_, rfl⟩
  rw [← hmm] at OB hm hlc ⊢
  have M := Lib.hid hmm
  clear G HO OZ ok hmm
  go_enter Tryz.func23, Tryz.ntmps23
  go_wp2_with fail
  refine NW.out.mono ?_
  rintro e w1 ⟨t, b, rfl, h1, h2, h3, h4⟩
  have L1 : Hid (Lv w w1 t b 0 (.map []) (fun _ => 0)) := Lib.hid ⟨h1, Rep.nil, VF.nil, h4, h2, h3, GG.out.below h4⟩
  have O1 := Lib.hid (OB.out.below h4)
  clear h1 h2 h3 h4 NW GG OB
  go_wp2_with fail
  go_loopg [11] m (fun g si wr => ∃ (k : Nat), k ≤ m ∧ g = m - k ∧ si = .int .i64 k ∧ Hid (∃ n D, Lv w wr t b n D (chF ((rs.map (·.1)).take k)) ∧ n ≤ k * 144000000 ∧ ObsAt wr (.slice va m vc) rs))
  case atStart => exact ⟨0, Nat.zero_le _, rfl, rfl, Lib.hid ⟨0, _, L1.out, by omega, O1.out⟩⟩
  case round =>
    obtain ⟨k, hk, hg, rfl, R⟩ := hrel
    have G : Hid (gk = m - k) := Lib.hid hg
    clear hg
    by_cases hlt : k < m
    · obtain ⟨n, D, hR⟩ := R.out
      have R1 := Lib.hid hR
      have hkl : k < rs.length := by rw [← M.out]; exact hlt
      have hlt' : (k : Int) < (m : Int) := by omega
      obtain ⟨bb, off, rfl, pc⟩ := R1.out.2.2.r.at k hkl
      have OM := Lib.hid (List.getElem_mem hkl)
      have ex : rs.getD k kOb.z = rs[k] := by rw [List.getD_eq_getElem?_getD, List.getElem?_eq_getElem hkl]; rfl
      rw [ex] at pc
      have OV := Lib.hid (R1.out.2.2.o _ OM.out)
      have SZ := Lib.hid (And.intro (HZ.out.z _ OM.out) (HZ.out.p _ OM.out))
      have CE : Hid (mvE true (chF ((rs.map (·.1)).take k)) (rs[k]).1 = 0 ∧ chF ((rs.map (·.1)).take (k + 1)) = mvF true (chF ((rs.map (·.1)).take k)) (rs[k]).1) := Lib.hid (by
        have hl : k < (rs.map (·.1)).length := by rw [List.length_map]; exact hkl
        have q := CK.out k hl
        have q2 := chF_snoc (rs.map (·.1)) k hl
        rw [List.getElem_map] at q q2
        exact ⟨q, q2⟩)
      obtain ⟨x, hx⟩ : ∃ x, x = rs[k] := ⟨_, rfl⟩
      rw [← hx] at pc OV SZ CE
      clear hx OM ex hR R
      obtain ⟨⟨op, on, ols, opr, odl, ops, over⟩, ⟨la, ln, lc⟩, ⟨pa, pn, pcc⟩⟩ := x
      have c0 : wr.cell? ⟨bb, off + k * 7, none⟩ = some (.string op) := pc 0 _ rfl
      have c1 : wr.cell? ⟨bb, off + k * 7 + 1, none⟩ = some (.string on) := pc 1 _ rfl
      have c2 : wr.cell? ⟨bb, off + k * 7 + 2, none⟩ = some (.slice la ln lc) := pc 2 _ rfl
      have c3 : wr.cell? ⟨bb, off + k * 7 + 3, none⟩ = some (.int .i64 opr) := pc 3 _ rfl
      have c4 : wr.cell? ⟨bb, off + k * 7 + 4, none⟩ = some (.int .i64 odl) := pc 4 _ rfl
      have c5 : wr.cell? ⟨bb, off + k * 7 + 5, none⟩ = some (.slice pa pn pcc) := pc 5 _ rfl
      have c6 : wr.cell? ⟨bb, off + k * 7 + 6, none⟩ = some (.int .i64 over) := pc 6 _ rfl
      have CH : Hid (∀ W, Below wr.heap.size wr W → Calls Tryz.prog 11 #[.pointer (some ⟨t, 0, none⟩), .agg #[.string op, .string on, .slice la ln lc, .int .i64 opr, .int .i64 odl, .slice pa pn pcc, .int .i64 over]] W fun e W' => e = .returned (.int .i64 0) ∧ Hid (∃ n D, Lv w W' t b n D (chF ((rs.map (·.1)).take (k + 1))) ∧ n ≤ (k + 1) * 144000000 ∧ ObsAt W' (.slice (some ⟨bb, off, none⟩) m vc) rs)) := Lib.hid fun W hb => by
        have q := charge_lv ⟨op, on, ols, opr, odl, ops, over⟩ (.slice la ln lc) (.slice pa pn pcc) (R1.out.1.below hb) (OV.out.below hb) SZ.out.1 SZ.out.2 (by have := R1.out.2.1; have := hm; omega)
        refine Calls.mono q ?_
        rintro e W' ⟨D', n', rfl, h2, h3, h4⟩
        rw [CE.out.1]
        refine ⟨rfl, Lib.hid ⟨n', D', by rw [CE.out.2]; exact h2, ?_, R1.out.2.2.kq ((Kq.of hb).trans h3)⟩⟩
        have := sh_len ⟨op, on, ols, opr, odl, ops, over⟩ SZ.out.1
        have := R1.out.2.1
        omega
      have BA : Hid (∀ o, Below wr.heap.size wr (wr.alloc o)) := Lib.hid fun o => (Below.refl _ wr).alloc (Nat.le_refl _) _
      clear pc
      go_wp2_with fail
      refine (CH.out _ (BA.out _)).mono ?_
      rintro e w5 ⟨rfl, F⟩
      clear CH BA c0 c1 c2 c3 c4 c5 c6 OV SZ CE R1
      go_wp2_with fail
      go_roundg (m - (k + 1))
      case measure => have := G.out; omega
      case rel => exact ⟨k + 1, by omega, rfl, by go_num, F⟩
    · go_wp2_with fail
      go_ret2
      obtain ⟨n, D, h1, h2, _⟩ := R.out
      have e : (rs.map (·.1)).take k = rs.map (·.1) := List.take_of_length_le (by rw [List.length_map]; have := M.out; omega)
      rw [e] at h1
      exact ⟨t, b, n, D, rfl, h1, by rw [show k = m by omega] at h2; exact h2⟩
end Le
end Go.Proofs.YtodfmnbfbndkhaaGreatDoor
end S3

section S4
namespace Go.Proofs.YtodfmnbfbndkhaaGreatDoor
open Go.RowKit Go.Sort
namespace Le
/-- What stands under a place among the objects that are marked. -/
noncomputable def ssum : List Ob → List Bool → Ky → Int
  | o :: os, b :: bs, x => (if b then shv (shR o) x else 0) + ssum os bs x
  | _, _, _ => 0
def cntT : List Bool → Nat
  | [] => 0
  | b :: bs => (if b then 1 else 0) + cntT bs
theorem ssum_set : ∀ (os : List Ob) (bs : List Bool) (k : Nat) (h : k < os.length), k < bs.length → bs.getD k true = false → ∀ x, ssum os (bs.set k true) x = ssum os bs x + shv (shR os[k]) x
  | o :: os, b :: bs, 0, _, _, hb, x => by
    have hb' : b = false := by simpa using hb
    subst hb'
    simp [ssum]
    omega
  | o :: os, b :: bs, k + 1, h1, h2, hb, x => by
    have ih := ssum_set os bs k (by simpa using h1) (by simpa using h2) (by simpa using hb) x
    simp only [List.set_cons_succ, ssum, List.getElem_cons_succ]
    rw [ih]
    omega
theorem cnt_set : ∀ (bs : List Bool) (k : Nat), k < bs.length → bs.getD k true = false → cntT (bs.set k true) = cntT bs + 1
  | b :: bs, 0, _, hb => by
    have hb' : b = false := by simpa using hb
    subst hb'
    simp [cntT]
    omega
  | b :: bs, k + 1, h2, hb => by
    have ih := cnt_set bs k (by simpa using h2) (by simpa using hb)
    simp only [List.set_cons_succ, cntT]
    rw [ih]
    omega
theorem cnt_le : ∀ bs : List Bool, cntT bs ≤ bs.length
  | [] => Nat.le_refl _
  | b :: bs => by
    have := cnt_le bs
    rw [cntT, List.length_cons]
    split <;> omega
theorem ssum_all : ∀ (os : List Ob) (bs : List Bool), os.length = bs.length → cntT bs = bs.length → ∀ x, ssum os bs x = tot os x
  | [], [], _, _, x => rfl
  | o :: os, b :: bs, hl, hc, x => by
    have := cnt_le bs
    rw [cntT, List.length_cons] at hc
    have hb : b = true := by
      cases b
      · simp at hc; omega
      · rfl
    subst hb
    rw [ssum, tot, ssum_all os bs (by simpa using hl) (by simp at hc; omega) x]
    rfl
theorem ssum_none : ∀ (os : List Ob) (m : Nat) (x : Ky), ssum os (List.replicate m false) x = 0
  | [], m, x => by cases m <;> rfl
  | o :: os, 0, x => rfl
  | o :: os, m + 1, x => by
    rw [List.replicate_succ, ssum, ssum_none os m x]
    rfl
theorem cnt_none : ∀ m : Nat, cntT (List.replicate m false) = 0
  | 0 => rfl
  | m + 1 => by rw [List.replicate_succ, cntT, cnt_none m]; rfl
theorem pre_no (h : ByteArray) (l : List Am) (c : UInt8) (hc : h.data.toList.head? = some c) (hn : c ≠ 99) : tCnt.data.toList ∉ (pre h l).map Prod.fst := by
  intro q
  unfold pre at q
  simp only [List.map_map, List.mem_map, Function.comp] at q
  obtain ⟨a, _, e⟩ := q
  cases hd : h.data.toList with
  | nil => rw [hd] at hc; simp at hc
  | cons y r =>
    rw [hd] at hc e
    simp only [List.head?_cons, Option.some.injEq] at hc
    have := congrArg List.head? e
    simp only [List.cons_append, List.head?_cons, tCnt, Option.some.injEq] at this
    exact hn (by rw [← hc]; exact this)
theorem count_tot (ps : List Pt) : Tot (obEs ps) tCnt.data.toList = 1000 := by
  unfold obEs
  rw [Tot, if_pos (show (tCount.data.toList, (1000 : Int)).fst = tCnt.data.toList from rfl), Tot_none]
  · rfl
  · intro q
    obtain ⟨e, he, hq⟩ := List.mem_map.1 q
    obtain ⟨p, _, hp⟩ := List.mem_flatMap.1 he
    unfold ptEs at hp
    rcases List.mem_append.1 hp with hp | hp
    · exact pre_no tReq p.r 114 rfl (by decide) (by rw [← hq]; exact List.mem_map.2 ⟨e, hp, rfl⟩)
    · exact pre_no tLim p.l 108 rfl (by decide) (by rw [← hq]; exact List.mem_map.2 ⟨e, hp, rfl⟩)
theorem count_use {ps : List Pt} (h : usesE ps = 0) : (⟨tCnt, 1000⟩ : Am) ∈ usesL ps := by
  unfold usesE at h
  unfold usesL
  split at h
  · exact absurd h (by decide)
  · rename_i h1
    rw [if_neg h1]
    split at h
    · exact absurd h (by decide)
    · rename_i h2
      rw [if_neg h2]
      unfold outL
      refine List.mem_map.2 ⟨tCnt.data.toList, (mem_nms _ _).2 (by unfold obEs; simp [tCnt, tCount]), ?_⟩
      rw [count_tot]
theorem root_in {p : ByteArray} (h : L.splitE p = 0) : (⟨#[47]⟩ : ByteArray) ∈ lineP p := by
  unfold lineP
  cases hs : L.splitO p with
  | none => rw [splitE_no hs] at h; exact absurd h (by decide)
  | some ts =>
    show _ ∈ L.lineOf ts
    unfold L.lineOf L.lineTo
    refine List.mem_map.2 ⟨ts.length, List.mem_range.2 (by omega), ?_⟩
    rw [Nat.sub_self, List.take_zero]
    rfl
theorem root_one {o : Ob} (hz : PSz o.ps) (h : shE o = 0) : shv (shR o) ⟨⟨#[47]⟩, 0, 0, tCnt⟩ = 1000 := by
  unfold shE at h
  split at h
  · exact absurd h (by decide)
  · rename_i n
    have hm : (⟨⟨#[47]⟩, 0, 0, tCnt⟩, 1000) ∈ shR o := mem_shL.2 ⟨_, root_in (by simpa using n), (0, 0), by simp [canS], ⟨tCnt, 1000⟩, count_use h, rfl⟩
    exact shv_mem (shOk_any o hz).nd hm
theorem root_tot : ∀ {l : List Ob}, (∀ o ∈ l, PSz o.ps ∧ shE o = 0) → tot l ⟨⟨#[47]⟩, 0, 0, tCnt⟩ = 1000 * (l.length : Int)
  | [], _ => rfl
  | o :: r, h => by
    rw [tot, root_one (h o (by simp)).1 (h o (by simp)).2, root_tot (fun x hx => h x (by simp [hx])), List.length_cons]
    omega
end Le
end Go.Proofs.YtodfmnbfbndkhaaGreatDoor
end S4

section S5
namespace Go.Proofs.YtodfmnbfbndkhaaGreatDoor
open Go.RowKit Go.Sort
namespace Le
def kIn : Kd Int := ⟨fun x => [.int .i64 x], 1, 3, 157, 8, 0⟩
theorem own_kq {α : Type} {K : Kd α} {B : Nat} {w W : World} {v : Value} {l : List α} (H : OwnR K B w v l) (h : Kq w W) : OwnR K B W v l := by
  obtain ⟨h1, h2 | ⟨g, cap, cur, hv, hB, hg', hr⟩⟩ := H
  · exact ⟨h1, .inl h2⟩
  · exact ⟨h1, .inr ⟨g, cap, cur, hv, hB, h.bk _ _ _ _ hg', hr⟩⟩
theorem owo_kq {B : Nat} {w W : World} {lv pv : Value} {o : Ob} (H : OwO B w lv pv o) (h : Kq w W) : OwO B W lv pv o := by
  obtain ⟨h1, rs, h2, h3⟩ := H
  exact ⟨own_kq h1 h, rs, own_kq h2 h, h3.1, fun k hk => ⟨(h3.2 k hk).1, own_kq (h3.2 k hk).2.1 h, own_kq (h3.2 k hk).2.2 h⟩⟩
theorem owo_far {B g : Nat} {w W : World} {lv pv : Value} {o : Ob} (H : OwO B w lv pv o) (hg : w.grownBy W (some g)) (hB : g < B) : OwO B W lv pv o := by
  obtain ⟨h1, rs, h2, h3⟩ := H
  exact ⟨h1.far hg hB, rs, h2.far hg hB, h3.far hg hB⟩
theorem owo_mono {B C : Nat} {w : World} {lv pv : Value} {o : Ob} (H : OwO C w lv pv o) (hB : B ≤ C) : OwO B w lv pv o := by
  obtain ⟨h1, rs, h2, h3⟩ := H
  exact OwO.mk h1 h2 h3 hB
theorem owo_row {B B' : Nat} {w W : World} {lv pv v : Value} {o : Ob} {rs' : List Rb} (H : OwO B w lv pv o) (R : OwnR kOb B' w v rs') (hg : w.grownBy W v.ownBlock) : OwO B W lv pv o := by
  obtain ⟨h1, rs, h2, h3⟩ := H
  exact ⟨h1.grownO hg (fun j e => h1.apart R (by decide) j e), rs, h2.grownO hg (fun j e => h2.apart R (by decide) j e), h3.1, fun k hk => ⟨(h3.2 k hk).1, (h3.2 k hk).2.1.grownO hg (fun j e => (h3.2 k hk).2.1.apart R (by decide) j e), (h3.2 k hk).2.2.grownO hg (fun j e => (h3.2 k hk).2.2.apart R (by decide) j e)⟩⟩
/-- Objects of the law's own. -/
structure LsAt (B : Nat) (w : World) (v : Value) (rs : List Rb) : Prop where
  r : OwnR kOb B w v rs
  o : ∀ x ∈ rs, OwO B w x.2.1.v x.2.2.v x.1
variable {B : Nat} {w W : World} {v : Value} {rs : List Rb}
theorem LsAt.obs (H : LsAt B w v rs) : ObsAt w v rs := ⟨H.r.row okOb, fun x hx => (H.o x hx).obv⟩
theorem LsAt.kq (H : LsAt B w v rs) (h : Kq w W) : LsAt B W v rs := ⟨own_kq H.r h, fun x hx => owo_kq (H.o x hx) h⟩
theorem LsAt.below (H : LsAt B w v rs) (h : Below w.heap.size w W) : LsAt B W v rs := H.kq (Kq.of h)
theorem LsAt.far {g : Nat} (H : LsAt B w v rs) (hg : w.grownBy W (some g)) (hB : g < B) : LsAt B W v rs := ⟨H.r.far hg hB, fun x hx => owo_far (H.o x hx) hg hB⟩
theorem LsAt.snoc {v' : Value} {x : Rb} (H : LsAt B w v rs) (hx : OwO B w x.2.1.v x.2.2.v x.1) (hg : w.grownBy W v.ownBlock) (hr : OwnR kOb B W v' (rs ++ [x])) : LsAt B W v' (rs ++ [x]) := by
  refine ⟨hr, fun y hy => ?_⟩
  rcases List.mem_append.1 hy with q | q
  · exact owo_row (H.o y q) H.r hg
  · rw [List.mem_singleton.1 q]
    exact owo_row hx H.r hg
theorem LsAt.nil : LsAt B w (.slice none 0 0) [] := ⟨OwnR.nil _ _ _, fun x hx => by simp at hx⟩
/-- The marks at g. -/
def Sn (w : World) (g : Nat) (bs : List Bool) : Prop := w.heap[g]? = some (.cells (bs.map Value.bool).toArray 4 (0, 0))
variable {g : Nat} {bs : List Bool}
theorem Sn.at (H : Sn w g bs) {k : Nat} (h : k < bs.length) : w.cell? ⟨g, k, none⟩ = some (.bool (bs.getD k false)) := by
  rw [cell_of_row _ _ _ _ _ _ H]
  simp [h]
theorem Sn.free (H : Sn w g bs) (k : Nat) : w.frozen? ⟨g, k, none⟩ = false := frozen_row H k
theorem Sn.below (H : Sn w g bs) (h : Below w.heap.size w W) : Sn W g bs := (h.block _ (lt_of_some H)).trans H
theorem Sn.kq (H : Sn w g bs) (h : Kq w W) : Sn W g bs := h.bk _ _ _ _ H
theorem set_grown (w : World) (g k : Nat) (u : Value) : w.grownBy (w.setCell ⟨g, k, none⟩ u) (some g) := ⟨rfl, rfl, rfl, by simp [World.setCell], fun j _ hn => Below.heap_setCell _ _ _ _ (fun e => hn (by rw [e]))⟩
theorem Sn.set (H : Sn w g bs) (k : Nat) : Sn (w.setCell ⟨g, k, none⟩ (.bool true)) g (bs.set k true) := by
  unfold Sn
  rw [heap_setCell_same _ _ _ _ _ _ H]
  simp [List.map_set]
theorem Sn.row {B : Nat} {v : Value} (H : Sn w g bs) (R : OwnR kOb B w v rs) (hg : w.grownBy W v.ownBlock) : Sn W g bs := by
  refine (hg.block g (lt_of_some H) (fun e => ?_)).trans H
  obtain ⟨cs, m, h⟩ := R.ty g e.symm
  rw [H] at h
  simp [kOb] at h
variable {t b n : Nat} {D : DataW Unit} {f : Ky → Int} {w0 : World}
/-- A ledger beside a row that is written. -/
theorem Lv.far (h : Lv w0 w t b n D f) (hg : w.grownBy W (some g)) (hb : w0.heap.size ≤ g) (ht : t ≠ g) (hm : b ≠ g) (G : Gl w0) : Lv w0 W t b n D f := by
  have k : Kept (fun y => some y = some g) w W := grown_kept hg
  have bl : Below w0.heap.size w0 W := h.bel.grown hg h.bel.size (fun j e => by cases e; exact hb)
  exact ⟨h.ld.kept k (fun e => ht (Option.some.inj e)) (fun e => hm (Option.some.inj e)), h.rep, h.vf, bl, h.t0, h.b0, G.below bl⟩
theorem Lv.sn (h : Lv w0 w t b n D f) (H : Sn w g bs) : t ≠ g ∧ b ≠ g := by
  constructor
  · intro e
    have q := h.ld.t
    rw [e, H] at q
    simp at q
  · intro e
    obtain ⟨es, c, q, _⟩ := h.ld.m
    rw [e, H] at q
    simp at q
theorem Lv.row {B : Nat} {v : Value} (h : Lv w0 w t b n D f) (R : OwnR kOb B w v rs) (hB : w0.heap.size ≤ B) (hg : w.grownBy W v.ownBlock) (G : Gl w0) : Lv w0 W t b n D f := by
  have k : Kept (fun y => some y = v.ownBlock) w W := grown_kept hg
  have bl : Below w0.heap.size w0 W := h.bel.grown hg h.bel.size (fun j e => by have := (R.lt j e).1; omega)
  refine ⟨h.ld.kept k (fun e => ?_) (fun e => ?_), h.rep, h.vf, bl, h.t0, h.b0, G.below bl⟩
  · obtain ⟨cs, m, q⟩ := R.ty t e.symm
    have q2 := h.ld.t
    rw [q] at q2
    simp [kOb] at q2
  · obtain ⟨cs, m, q⟩ := R.ty b e.symm
    obtain ⟨es, c, q2, _⟩ := h.ld.m
    rw [q] at q2
    simp at q2
theorem info_bool : (Tryz.prog.info? 4).map (fun i => (i.zero, i.size, i.bytes)) = some (some (.bool false), 1, 1) := by kernel_rfl
theorem Lv.base {w1 : World} (h : Lv w1 w t b n D f) (hb : Below w0.heap.size w0 w1) : Lv w0 w t b n D f :=
  ⟨h.ld, h.rep, h.vf, hb.trans (h.bel.mono hb.size), Nat.le_trans hb.size h.t0, Nat.le_trans hb.size h.b0, h.gl⟩
theorem Lv.other {t2 b2 n2 : Nat} {D2 : DataW Unit} {f2 : Ky → Int} (h : Lv w0 w t b n D f) (h2 : Lv w0 w t2 b2 n2 D2 f2) (hk : Kept (fun y => y = b2) w W) (ne : b ≠ b2) : Lv w0 W t b n D f := by
  have q : Kq w W := h2.kq hk
  refine ⟨h.ld.kept hk (fun e => ?_) ne, h.rep, h.vf, h.bel.trans (hk.below h.bel.size (fun x e => by rw [e]; exact h2.b0)), h.t0, h.b0, gl_kq h.gl q⟩
  have a := h.ld.t
  obtain ⟨es, c, hm, _⟩ := h2.ld.m
  rw [e, hm] at a
  simp at a
theorem charge_lvk (o : Ob) (ls ps : Value) (H : Lv w0 w t b n D f) (hv : ObV w ls ps o) (hz : PSz o.ps) (hp : o.p.size ≤ 140737488355328) (hn : n ≤ 100000000000000) :
    Calls Tryz.prog 11 #[.pointer (some ⟨t, 0, none⟩), o.val ls ps] w fun e W' => ∃ D' n', e = .returned (.int .i64 (mvE true f o)) ∧ Lv w0 W' t b n' D' (mvF true f o) ∧ Kept (fun y => y = b) w W' ∧ n' ≤ n + (shR o).length := by
  refine (charge_any o ls ps w t b n D f H.ld H.rep H.gl hv hz hp (fun _ => shOk_any o hz) hn).mono ?_
  rintro e W' ⟨D', n', rfl, h2, h3, h4, h5⟩
  exact ⟨D', n', rfl, H.turn h2 h3 (H.vf.mv hz) h4, h4, h5⟩
/-- All that LedgerOrders holds amid its loop. -/
structure Bn (w0 : World) (ta ba tb bb g na nb : Nat) (Da Db : DataW Unit) (fa fb : Ky → Int) (sv : List Bool) (lv : Value) (ls : List Rb) (W : World) : Prop where
  a : Lv w0 W ta ba na Da fa
  b : Lv w0 W tb bb nb Db fb
  ne : ba ≠ bb
  s : Sn W g sv
  l : LsAt (g + 1) W lv ls
  g0 : w0.heap.size ≤ g
  gl : Gl w0
variable {ta ba tb bb na nb : Nat} {Da Db : DataW Unit} {fa fb : Ky → Int} {sv : List Bool} {lv : Value} {ls : List Rb}
theorem Bn.below (h : Bn w0 ta ba tb bb g na nb Da Db fa fb sv lv ls w) (hb : Below w.heap.size w W) : Bn w0 ta ba tb bb g na nb Da Db fa fb sv lv ls W :=
  ⟨h.a.below hb, h.b.below hb, h.ne, h.s.below hb, h.l.below hb, h.g0, h.gl⟩
theorem Bn.turnA (h : Bn w0 ta ba tb bb g na nb Da Db fa fb sv lv ls w) {n' : Nat} {D' : DataW Unit} {f' : Ky → Int} (hl : Lv w0 W ta ba n' D' f') (hk : Kept (fun y => y = ba) w W) : Bn w0 ta ba tb bb g n' nb D' Db f' fb sv lv ls W :=
  ⟨hl, h.b.other h.a hk (fun e => h.ne e.symm), h.ne, h.s.kq (h.a.kq hk), h.l.kq (h.a.kq hk), h.g0, h.gl⟩
theorem Bn.turnB (h : Bn w0 ta ba tb bb g na nb Da Db fa fb sv lv ls w) {n' : Nat} {D' : DataW Unit} {f' : Ky → Int} (hl : Lv w0 W tb bb n' D' f') (hk : Kept (fun y => y = bb) w W) : Bn w0 ta ba tb bb g na n' Da D' fa f' sv lv ls W :=
  ⟨h.a.other h.b hk h.ne, hl, h.ne, h.s.kq (h.b.kq hk), h.l.kq (h.b.kq hk), h.g0, h.gl⟩
theorem Bn.mark (h : Bn w0 ta ba tb bb g na nb Da Db fa fb sv lv ls w) (k : Nat) : Bn w0 ta ba tb bb g na nb Da Db fa fb (sv.set k true) lv ls (w.setCell ⟨g, k, none⟩ (.bool true)) := by
  have q := set_grown w g k (.bool true)
  have sa := h.a.sn h.s
  have sb := h.b.sn h.s
  exact ⟨h.a.far q h.g0 sa.1 sa.2 h.gl, h.b.far q h.g0 sb.1 sb.2 h.gl, h.ne, h.s.set k, h.l.far q (Nat.lt_succ_self _), h.g0, h.gl⟩
theorem Bn.app (h : Bn w0 ta ba tb bb g na nb Da Db fa fb sv lv ls w) {v' : Value} {x : Rb} (hx : OwO (g + 1) w x.2.1.v x.2.2.v x.1) (hr : OwnR kOb (g + 1) W v' (ls ++ [x])) (hg : w.grownBy W lv.ownBlock) : Bn w0 ta ba tb bb g na nb Da Db fa fb sv v' (ls ++ [x]) W :=
  ⟨h.a.row h.l.r (Nat.le_succ_of_le h.g0) hg h.gl, h.b.row h.l.r (Nat.le_succ_of_le h.g0) hg h.gl, h.ne, h.s.row h.l.r hg, h.l.snoc hx hg hr, h.g0, h.gl⟩
end Le
end Go.Proofs.YtodfmnbfbndkhaaGreatDoor
end S5
