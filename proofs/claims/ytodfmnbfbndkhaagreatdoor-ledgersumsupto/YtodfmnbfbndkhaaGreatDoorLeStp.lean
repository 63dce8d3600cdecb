/-
  The law's step on its book (tools/gstep.py).
-/
import Derived.Test.YtodfmnbfbndkhaaGreatDoorLeBm
import Derived.Deep.DeepCutAuto
import Derived.Deep.CutBlock
namespace Go.Proofs.YtodfmnbfbndkhaaGreatDoor
open Go.RowKit Go.Sort
namespace Le
theorem seven (Y : World) (gr i : Nat) (v1 v2 v3 v4 v5 v6 : Value) (h1 : Y.cell? ⟨gr, i * 7 + 1, none⟩ = some v1) (h2 : Y.cell? ⟨gr, i * 7 + 2, none⟩ = some v2) (h3 : Y.cell? ⟨gr, i * 7 + 3, none⟩ = some v3) (h4 : Y.cell? ⟨gr, i * 7 + 4, none⟩ = some v4) (h5 : Y.cell? ⟨gr, i * 7 + 5, none⟩ = some v5) (h6 : Y.cell? ⟨gr, i * 7 + 6, none⟩ = some v6) (hf : ∀ j, Y.frozen? ⟨gr, j, none⟩ = false) :
    (∀ x0, (Y.setCell ⟨gr, i * 7, none⟩ x0).cell? ⟨gr, i * 7 + 1, none⟩ = some v1) ∧ (∀ x0 x1, ((Y.setCell ⟨gr, i * 7, none⟩ x0).setCell ⟨gr, i * 7 + 1, none⟩ x1).cell? ⟨gr, i * 7 + 2, none⟩ = some v2) ∧ (∀ x0 x1 x2, (((Y.setCell ⟨gr, i * 7, none⟩ x0).setCell ⟨gr, i * 7 + 1, none⟩ x1).setCell ⟨gr, i * 7 + 2, none⟩ x2).cell? ⟨gr, i * 7 + 3, none⟩ = some v3) ∧ (∀ x0 x1 x2 x3, ((((Y.setCell ⟨gr, i * 7, none⟩ x0).setCell ⟨gr, i * 7 + 1, none⟩ x1).setCell ⟨gr, i * 7 + 2, none⟩ x2).setCell ⟨gr, i * 7 + 3, none⟩ x3).cell? ⟨gr, i * 7 + 4, none⟩ = some v4) ∧ (∀ x0 x1 x2 x3 x4, (((((Y.setCell ⟨gr, i * 7, none⟩ x0).setCell ⟨gr, i * 7 + 1, none⟩ x1).setCell ⟨gr, i * 7 + 2, none⟩ x2).setCell ⟨gr, i * 7 + 3, none⟩ x3).setCell ⟨gr, i * 7 + 4, none⟩ x4).cell? ⟨gr, i * 7 + 5, none⟩ = some v5) ∧ (∀ x0 x1 x2 x3 x4 x5, ((((((Y.setCell ⟨gr, i * 7, none⟩ x0).setCell ⟨gr, i * 7 + 1, none⟩ x1).setCell ⟨gr, i * 7 + 2, none⟩ x2).setCell ⟨gr, i * 7 + 3, none⟩ x3).setCell ⟨gr, i * 7 + 4, none⟩ x4).setCell ⟨gr, i * 7 + 5, none⟩ x5).cell? ⟨gr, i * 7 + 6, none⟩ = some v6) ∧ (∀ x0, (Y.setCell ⟨gr, i * 7, none⟩ x0).frozen? ⟨gr, i * 7 + 1, none⟩ = false) ∧ (∀ x0 x1, ((Y.setCell ⟨gr, i * 7, none⟩ x0).setCell ⟨gr, i * 7 + 1, none⟩ x1).frozen? ⟨gr, i * 7 + 2, none⟩ = false) ∧ (∀ x0 x1 x2, (((Y.setCell ⟨gr, i * 7, none⟩ x0).setCell ⟨gr, i * 7 + 1, none⟩ x1).setCell ⟨gr, i * 7 + 2, none⟩ x2).frozen? ⟨gr, i * 7 + 3, none⟩ = false) ∧ (∀ x0 x1 x2 x3, ((((Y.setCell ⟨gr, i * 7, none⟩ x0).setCell ⟨gr, i * 7 + 1, none⟩ x1).setCell ⟨gr, i * 7 + 2, none⟩ x2).setCell ⟨gr, i * 7 + 3, none⟩ x3).frozen? ⟨gr, i * 7 + 4, none⟩ = false) ∧ (∀ x0 x1 x2 x3 x4, (((((Y.setCell ⟨gr, i * 7, none⟩ x0).setCell ⟨gr, i * 7 + 1, none⟩ x1).setCell ⟨gr, i * 7 + 2, none⟩ x2).setCell ⟨gr, i * 7 + 3, none⟩ x3).setCell ⟨gr, i * 7 + 4, none⟩ x4).frozen? ⟨gr, i * 7 + 5, none⟩ = false) ∧ (∀ x0 x1 x2 x3 x4 x5, ((((((Y.setCell ⟨gr, i * 7, none⟩ x0).setCell ⟨gr, i * 7 + 1, none⟩ x1).setCell ⟨gr, i * 7 + 2, none⟩ x2).setCell ⟨gr, i * 7 + 3, none⟩ x3).setCell ⟨gr, i * 7 + 4, none⟩ x4).setCell ⟨gr, i * 7 + 5, none⟩ x5).frozen? ⟨gr, i * 7 + 6, none⟩ = false) :=
  ⟨fun x0 => by rw [World.cell?_setCell_other _ ⟨gr, i * 7, none⟩ ⟨gr, i * 7 + 1, none⟩ _ (by intro e; injection e with e1 e2; omega)]; exact h1, fun x0 x1 => by rw [World.cell?_setCell_other _ ⟨gr, i * 7 + 1, none⟩ ⟨gr, i * 7 + 2, none⟩ _ (by intro e; injection e with e1 e2; omega), World.cell?_setCell_other _ ⟨gr, i * 7, none⟩ ⟨gr, i * 7 + 2, none⟩ _ (by intro e; injection e with e1 e2; omega)]; exact h2, fun x0 x1 x2 => by rw [World.cell?_setCell_other _ ⟨gr, i * 7 + 2, none⟩ ⟨gr, i * 7 + 3, none⟩ _ (by intro e; injection e with e1 e2; omega), World.cell?_setCell_other _ ⟨gr, i * 7 + 1, none⟩ ⟨gr, i * 7 + 3, none⟩ _ (by intro e; injection e with e1 e2; omega), World.cell?_setCell_other _ ⟨gr, i * 7, none⟩ ⟨gr, i * 7 + 3, none⟩ _ (by intro e; injection e with e1 e2; omega)]; exact h3, fun x0 x1 x2 x3 => by rw [World.cell?_setCell_other _ ⟨gr, i * 7 + 3, none⟩ ⟨gr, i * 7 + 4, none⟩ _ (by intro e; injection e with e1 e2; omega), World.cell?_setCell_other _ ⟨gr, i * 7 + 2, none⟩ ⟨gr, i * 7 + 4, none⟩ _ (by intro e; injection e with e1 e2; omega), World.cell?_setCell_other _ ⟨gr, i * 7 + 1, none⟩ ⟨gr, i * 7 + 4, none⟩ _ (by intro e; injection e with e1 e2; omega), World.cell?_setCell_other _ ⟨gr, i * 7, none⟩ ⟨gr, i * 7 + 4, none⟩ _ (by intro e; injection e with e1 e2; omega)]; exact h4, fun x0 x1 x2 x3 x4 => by rw [World.cell?_setCell_other _ ⟨gr, i * 7 + 4, none⟩ ⟨gr, i * 7 + 5, none⟩ _ (by intro e; injection e with e1 e2; omega), World.cell?_setCell_other _ ⟨gr, i * 7 + 3, none⟩ ⟨gr, i * 7 + 5, none⟩ _ (by intro e; injection e with e1 e2; omega), World.cell?_setCell_other _ ⟨gr, i * 7 + 2, none⟩ ⟨gr, i * 7 + 5, none⟩ _ (by intro e; injection e with e1 e2; omega), World.cell?_setCell_other _ ⟨gr, i * 7 + 1, none⟩ ⟨gr, i * 7 + 5, none⟩ _ (by intro e; injection e with e1 e2; omega), World.cell?_setCell_other _ ⟨gr, i * 7, none⟩ ⟨gr, i * 7 + 5, none⟩ _ (by intro e; injection e with e1 e2; omega)]; exact h5, fun x0 x1 x2 x3 x4 x5 => by rw [World.cell?_setCell_other _ ⟨gr, i * 7 + 5, none⟩ ⟨gr, i * 7 + 6, none⟩ _ (by intro e; injection e with e1 e2; omega), World.cell?_setCell_other _ ⟨gr, i * 7 + 4, none⟩ ⟨gr, i * 7 + 6, none⟩ _ (by intro e; injection e with e1 e2; omega), World.cell?_setCell_other _ ⟨gr, i * 7 + 3, none⟩ ⟨gr, i * 7 + 6, none⟩ _ (by intro e; injection e with e1 e2; omega), World.cell?_setCell_other _ ⟨gr, i * 7 + 2, none⟩ ⟨gr, i * 7 + 6, none⟩ _ (by intro e; injection e with e1 e2; omega), World.cell?_setCell_other _ ⟨gr, i * 7 + 1, none⟩ ⟨gr, i * 7 + 6, none⟩ _ (by intro e; injection e with e1 e2; omega), World.cell?_setCell_other _ ⟨gr, i * 7, none⟩ ⟨gr, i * 7 + 6, none⟩ _ (by intro e; injection e with e1 e2; omega)]; exact h6, fun x0 => by rw [World.frozen?_setCell]; exact hf _, fun x0 x1 => by rw [World.frozen?_setCell, World.frozen?_setCell]; exact hf _, fun x0 x1 x2 => by rw [World.frozen?_setCell, World.frozen?_setCell, World.frozen?_setCell]; exact hf _, fun x0 x1 x2 x3 => by rw [World.frozen?_setCell, World.frozen?_setCell, World.frozen?_setCell, World.frozen?_setCell]; exact hf _, fun x0 x1 x2 x3 x4 => by rw [World.frozen?_setCell, World.frozen?_setCell, World.frozen?_setCell, World.frozen?_setCell, World.frozen?_setCell]; exact hf _, fun x0 x1 x2 x3 x4 x5 => by rw [World.frozen?_setCell, World.frozen?_setCell, World.frozen?_setCell, World.frozen?_setCell, World.frozen?_setCell, World.frozen?_setCell]; exact hf _⟩

theorem stp_none {hs : List Ob} {k : Int} {o : Ob} (h : ¬ plc hs o < hs.length) (hl : hs.length < 40) (he : mvE true (tot hs) o = 0) : stp hs k o = hs ++ [o] := by
  unfold stp; rw [dif_neg h, if_pos ⟨hl, he⟩]
theorem stp_full {hs : List Ob} {k : Int} {o : Ob} (h : ¬ plc hs o < hs.length) (hl : ¬ hs.length < 40 ∨ mvE true (tot hs) o ≠ 0) : stp hs k o = hs := by
  unfold stp; rw [dif_neg h, if_neg (fun q => by rcases hl with z | z; exact z q.1; exact z q.2)]
theorem stp_del {hs : List Ob} {k : Int} {o : Ob} (h : plc hs o < hs.length) (hk : k = 2) : stp hs k o = hs.eraseIdx (plc hs o) := by
  unfold stp; rw [dif_pos h, if_pos hk]
theorem stp_chg {hs : List Ob} {k : Int} {o : Ob} (h : plc hs o < hs.length) (hk : k ≠ 2) (he : chE (tot hs) hs[plc hs o] o = 0) : stp hs k o = hs.set (plc hs o) o := by
  unfold stp; rw [dif_pos h, if_neg hk, if_pos he]
theorem stp_ref {hs : List Ob} {k : Int} {o : Ob} (h : plc hs o < hs.length) (hk : k ≠ 2) (he : chE (tot hs) hs[plc hs o] o ≠ 0) : stp hs k o = hs := by
  unfold stp; rw [dif_pos h, if_neg hk, if_neg he]
set_option maxHeartbeats 16000000 in
set_option maxRecDepth 100000 in
theorem step_any (two : Bool) (kind : Int) (op on : ByteArray) (ols : List (ByteArray × ByteArray)) (opr odl : Int) (ops : List Pt) (over : Int) (la : Option Addr) (ln lc : Nat) (pa : Option Addr) (pn pc : Nat) (zp zn : ByteArray) (za : Option Addr) (zb zc : Nat) (zpr zdl : Int) (zd : Option Addr) (ze zf : Nat) (zv sk sa : Int) (res : ByteArray)
    (w0 w : World) (bb t b n : Nat) (D : DataW Unit) (hva : Option Addr) (m hvc : Nat) (rs : List Rb) (H : Bk w0 bb t b n D (.slice hva m hvc) rs w) (hx : ObV w (.slice la ln lc) (.slice pa pn pc) ⟨op, on, ols, opr, odl, ops, over⟩) (hz : Ozz ⟨op, on, ols, opr, odl, ops, over⟩) (hn : n ≤ 1500000000000) :
    Calls Tryz.prog 15 #[.pointer (some ⟨bb, 0, none⟩), .agg #[.bool two, .int .i64 kind, .string op, .string on, .slice la ln lc, .int .i64 opr, .int .i64 odl, .slice pa pn pc, .int .i64 over, .string zp, .string zn, .slice za zb zc, .int .i64 zpr, .int .i64 zdl, .slice zd ze zf, .int .i64 zv, .int .i64 sk, .int .i64 sa, .string res]] w fun e W' => e = .returned (.bool true) ∧ StQ w0 w bb t b n (.slice hva m hvc) (stp (rs.map (·.1)) kind ⟨op, on, ols, opr, odl, ops, over⟩) 432000000 W' := by
  have HH := Lib.hid H
  have OV := Lib.hid hx
  have SZ := Lib.hid hz
  have NN := Lib.hid hn
  obtain ⟨hva2, hvc2, hhv, hvl, hvm⟩ := (H.m.ls.r.row okOb).len
  simp only [Value.slice.injEq] at hhv
  obtain ⟨rfl, hm, rfl⟩ := hhv
  obtain ⟨o, ho⟩ : ∃ o : Ob, o = ⟨op, on, ols, opr, odl, ops, over⟩ := ⟨_, rfl⟩
  have OWN : Hid (∀ W, Kq w W → Calls Tryz.prog 10 #[.agg #[.string op, .string on, .slice la ln lc, .int .i64 opr, .int .i64 odl, .slice pa pn pc, .int .i64 over]] W fun e w' => ∃ xa xc xb xd, e = .returned (.agg #[.string op, .string on, .slice xa ols.length xc, .int .i64 opr, .int .i64 odl, .slice xb ops.length xd, .int .i64 over]) ∧ Hid (OwO W.heap.size w' (.slice xa ols.length xc) (.slice xb ops.length xd) o ∧ Below W.heap.size W w')) := Lib.hid fun W hb => by
    have q := own_any ⟨op, on, ols, opr, odl, ops, over⟩ _ _ W (ob_kq OV.out hb) SZ.out.s
    refine Calls.mono q ?_
    rintro e w' ⟨xa, xc, ya, yc, rfl, h1, h2⟩
    exact ⟨xa, xc, ya, yc, rfl, Lib.hid ⟨by rw [ho]; exact h1, h2⟩⟩
  obtain ⟨nl, hnl⟩ : ∃ k, k = ols.length := ⟨_, rfl⟩
  obtain ⟨np, hnp⟩ : ∃ k, k = ops.length := ⟨_, rfl⟩
  have CHG : Hid (∀ (W : World) (nn : Nat) (DD : DataW Unit) (ff : Ky → Int) (E : Int) (xa : Option Addr) (xc : Nat) (xb : Option Addr) (xd : Nat), Bm w0 bb t b nn DD ff (.slice hva m hvc) rs W → nn ≤ 2000000000000 → ObV W (.slice xa nl xc) (.slice xb np xd) o → E = mvE true ff o → Calls Tryz.prog 11 #[.pointer (some ⟨t, 0, none⟩), .agg #[.string op, .string on, .slice xa nl xc, .int .i64 opr, .int .i64 odl, .slice xb np xd, .int .i64 over]] W fun e W' => e = .returned (.int .i64 E) ∧ Hid (∃ D' n', Bm w0 bb t b n' D' (mvF true ff o) (.slice hva m hvc) rs W' ∧ Kept (fun y => y = b) W W' ∧ n' ≤ nn + 144000000)) := Lib.hid fun W nn DD ff E xa xc xb xd hm hn hv1 hE => by
    have q := charge_lvk o _ _ hm.lv hv1 (by rw [ho]; exact SZ.out.z) (by rw [ho]; exact SZ.out.p) (by omega)
    have sl := sh_len o (by rw [ho]; exact SZ.out.z)
    rw [hE]
    rw [ho] at q ⊢
    rw [ho] at sl
    refine Calls.mono q ?_
    rintro e W' ⟨D', n', rfl, h2, h3, h4⟩
    exact ⟨rfl, Lib.hid ⟨D', n', hm.turn h2 h3, h3, by omega⟩⟩
  rw [← hnl, ← hnp] at OWN
  have NLP : Hid (nl = ols.length ∧ np = ops.length) := Lib.hid ⟨hnl, hnp⟩
  have PLC : Hid (∀ W, Below w.heap.size w W → Calls Tryz.prog 34 #[.slice hva m hvc, .agg #[.string op, .string on, .slice la ln lc, .int .i64 opr, .int .i64 odl, .slice pa pn pc, .int .i64 over]] W fun e w' => e = .returned (.int .i64 (plV (rs.map (·.1)) o)) ∧ Below W.heap.size W w') := Lib.hid fun W hb => by
    have q := place_any (.slice hva m hvc) rs ⟨op, on, ols, opr, odl, ops, over⟩ la ln lc pa pn pc W ((HH.out.m.ls.r.row okOb).below hb) (by have := HH.out.len; omega)
    rw [ho]
    exact q
  have OO : Hid (o = ⟨op, on, ols, opr, odl, ops, over⟩) := Lib.hid ho
  have OZ : Hid (Ozz o) := Lib.hid (by rw [ho]; exact hz)
  obtain ⟨hs, hhs⟩ : ∃ l, l = rs.map (·.1) := ⟨_, rfl⟩
  have HS := Lib.hid hhs
  have HM := Lib.hid hm
  rw [← ho, ← hhs]
  rw [← hhs] at PLC
  rw [← hm] at hvl
  obtain ⟨pv, hpv⟩ : ∃ v, v = plV hs o := ⟨_, rfl⟩
  have PV := Lib.hid hpv
  rw [← hpv] at PLC
  obtain ⟨g3, hg3⟩ : ∃ g, g = w.heap.size := ⟨_, rfl⟩
  obtain ⟨X, hX⟩ : ∃ X, X = w.alloc (.cells #[.bool two, .int .i64 kind, .string op, .string on, .slice la ln lc, .int .i64 opr, .int .i64 odl, .slice pa pn pc, .int .i64 over, .string zp, .string zn, .slice za zb zc, .int .i64 zpr, .int .i64 zdl, .slice zd ze zf, .int .i64 zv, .int .i64 sk, .int .i64 sa, .string res] 51) := ⟨_, rfl⟩
  have BX : Hid (Below w.heap.size w X ∧ X.heap[g3]? = some (.cells #[.bool two, .int .i64 kind, .string op, .string on, .slice la ln lc, .int .i64 opr, .int .i64 odl, .slice pa pn pc, .int .i64 over, .string zp, .string zn, .slice za zb zc, .int .i64 zpr, .int .i64 zdl, .slice zd ze zf, .int .i64 zv, .int .i64 sk, .int .i64 sa, .string res] 51 (0, 0))) := Lib.hid ⟨by rw [hX]; exact (Below.refl _ _).alloc (Nat.le_refl _) _, by rw [hX, hg3]; exact heap_alloc_new _ _⟩
  have KC : Hid (∀ (W : World) (nn : Nat) (DD : DataW Unit) (ff : Ky → Int), Bm w0 bb t b nn DD ff (.slice hva m hvc) rs W → Kq X W → W.cell? ⟨bb, 0, none⟩ = some (.pointer (some ⟨t, 0, none⟩)) ∧ W.cell? ⟨bb, 1, none⟩ = some (.slice hva m hvc) ∧ W.cell? ⟨g3, 1, none⟩ = some (.int .i64 kind) ∧ W.cell? ⟨g3, 2, none⟩ = some (.string op) ∧ W.cell? ⟨g3, 3, none⟩ = some (.string on) ∧ W.cell? ⟨g3, 4, none⟩ = some (.slice la ln lc) ∧ W.cell? ⟨g3, 5, none⟩ = some (.int .i64 opr) ∧ W.cell? ⟨g3, 6, none⟩ = some (.int .i64 odl) ∧ W.cell? ⟨g3, 7, none⟩ = some (.slice pa pn pc) ∧ W.cell? ⟨g3, 8, none⟩ = some (.int .i64 over)) := Lib.hid fun W nn DD ff h k => by
    have e := k.bk _ _ _ _ BX.out.2
    refine ⟨h.c0, h.c1, ?_, ?_, ?_, ?_, ?_, ?_, ?_, ?_⟩ <;> rw [cell_of_row _ _ _ _ _ _ e] <;> rfl
  have MX0 : Hid (Bm w0 bb t b n D (tot hs) (.slice hva m hvc) rs X) := Lib.hid (by rw [HS.out]; exact HH.out.m.below BX.out.1)
  have DR : Hid (∀ W : World, Below W.heap.size W W.drew) := Lib.hid fun W => (Below.refl _ W).drew
  have hX' := hX.symm
  have hg3' := hg3.symm
  have FA : Hid ((hs.length = m) ∧ m ≤ 40 ∧ Hs hs ∧ m ≤ hvc ∧ hvc ≤ maxLen) := Lib.hid ⟨by rw [hhs, List.length_map, hm], by rw [hm]; exact H.len, by rw [hhs]; exact H.hs, hvl, hvm⟩
  clear hX hg3 H hx hz hn ho hhs hm hpv hvl hvm hnl hnp
  obtain ⟨a0, a1, a2, a3, a4, a5, a6, a7, a8, a9⟩ := KC.out X _ _ _ MX0.out (Kq.of (Below.refl _ _))
  obtain ⟨d0, d1, d2, d3, d4, d5, d6, d7, d8, d9⟩ := KC.out X.drew _ _ _ (MX0.out.below (DR.out X)) (Kq.of (DR.out X))
  go_enter Tryz.func15, Tryz.ntmps15
  go_wp2_with fail
  go_region_held3 (fun W : World => W.cell? ⟨bb, 0, none⟩ = some (.pointer (some ⟨t, 0, none⟩)) ∧ W.cell? ⟨bb, 1, none⟩ = some (.slice hva m hvc) ∧ W.cell? ⟨g3, 1, none⟩ = some (.int .i64 kind) ∧ W.cell? ⟨g3, 2, none⟩ = some (.string op) ∧ W.cell? ⟨g3, 3, none⟩ = some (.string on) ∧ W.cell? ⟨g3, 4, none⟩ = some (.slice la ln lc) ∧ W.cell? ⟨g3, 5, none⟩ = some (.int .i64 opr) ∧ W.cell? ⟨g3, 6, none⟩ = some (.int .i64 odl) ∧ W.cell? ⟨g3, 7, none⟩ = some (.slice pa pn pc) ∧ W.cell? ⟨g3, 8, none⟩ = some (.int .i64 over)) (first | exact ⟨by assumption, by assumption, by assumption, by assumption, by assumption, by assumption, by assumption, by assumption, by assumption, by assumption⟩ | go_keep) (first
    | (go_at_call 34
       refine (PLC.out _ (BX.out.1.trans ((DR.out X).mono BX.out.1.size))).mono ?_
       rintro e y1 ⟨rfl, h1⟩
       have R1 : Hid (Below X.heap.size X y1) := Lib.hid ((DR.out X).trans h1)
       obtain ⟨b0, b1, b2, b3, b4, b5, b6, b7, b8, b9⟩ := KC.out y1 _ _ _ (MX0.out.below R1.out) (Kq.of R1.out)
       clear h1))
  have M1 := Lib.hid (MX0.out.below R1.out)
  clear a0 a1 a2 a3 a4 a5 a6 a7 a8 a9 d0 d1 d2 d3 d4 d5 d6 d7 d8 d9
  have RW := Lib.hid (rows_lv M1.out.lv (by have := NN.out; omega))
  go_wp2_with fail
  refine RW.out.mono ?_
  rintro e w2 ⟨vr, Sr, rfl, h1, h2, hb2⟩
  have A2 : Hid (Bm w0 bb t b n D (tot hs) (.slice hva m hvc) rs w2 ∧ Row kUse w2 vr Sr ∧ Li D Sr ∧ Kq X w2 ∧ Below w.heap.size w w2) := Lib.hid ⟨M1.out.below hb2, h1, h2, (Kq.of R1.out).trans (Kq.of hb2), BX.out.1.trans ((R1.out.trans (hb2.mono R1.out.size)).mono BX.out.1.size)⟩
  clear h1 h2 hb2 RW R1 M1 b0 b1 b2 b3 b4 b5 b6 b7 b8 b9
  go_upto_block 0 with fail
  go_cut [7] (fun s7 wx => ∃ e : Int, s7 = .int .i64 e ∧ Hid (StQ w0 w bb t b n (.slice hva m hvc) (stp hs kind o) 432000000 wx ∧ (e ≠ 0 → stp hs kind o = hs ∧ Row kUse wx vr Sr)))
  case first =>
    by_cases hp : plc hs o < hs.length
    case neg =>
      have e1 : pv = -1 := by rw [PV.out]; unfold plV; rw [if_neg hp]
      subst e1
      have NP := Lib.hid hp
      clear hp
      obtain ⟨a0, a1, a2, a3, a4, a5, a6, a7, a8, a9⟩ := KC.out w2 _ _ _ A2.out.1 A2.out.2.2.2.1
      have k1 : decide ((-1 : Int) < 0) = true := rfl
      by_cases h40 : m < 40
      case neg =>
        have k2 : decide ((m : Int) < 40) = false := decide_eq_false (by omega)
        have k3 : decide ((-1 : Int) ≥ 0) = false := rfl
        have FIN : Hid (StQ w0 w bb t b n (.slice hva m hvc) (stp hs kind o) 432000000 w2) := Lib.hid (by
          rw [stp_full NP.out (Or.inl (by rw [FA.out.1]; exact h40))]
          refine ⟨D, n, _, rs, ⟨by rw [← HS.out]; exact A2.out.1, HH.out.hs, HH.out.oz, HH.out.len⟩, HS.out.symm, by omega, Below.kept A2.out.2.2.2.2 _, fun _ e => Or.inl e⟩)
        go_wp2_with fail
        go_meet
        exact ⟨0, rfl, Lib.hid ⟨FIN.out, fun h => absurd rfl h⟩⟩
      case pos =>
        have k2 : decide ((m : Int) < 40) = true := decide_eq_true (by omega)
        obtain ⟨E, hE⟩ : ∃ E, E = mvE true (tot hs) o := ⟨_, rfl⟩
        have EE := Lib.hid hE
        clear hE
        obtain ⟨d0, d1, d2, d3, d4, d5, d6, d7, d8, d9⟩ := KC.out w2.drew _ _ _ (A2.out.1.below (DR.out w2)) (A2.out.2.2.2.1.trans (Kq.of (DR.out w2)))
        go_wp2_with fail
        go_region_held3 (fun W : World => W.cell? ⟨bb, 0, none⟩ = some (.pointer (some ⟨t, 0, none⟩)) ∧ W.cell? ⟨bb, 1, none⟩ = some (.slice hva m hvc) ∧ W.cell? ⟨g3, 1, none⟩ = some (.int .i64 kind) ∧ W.cell? ⟨g3, 2, none⟩ = some (.string op) ∧ W.cell? ⟨g3, 3, none⟩ = some (.string on) ∧ W.cell? ⟨g3, 4, none⟩ = some (.slice la ln lc) ∧ W.cell? ⟨g3, 5, none⟩ = some (.int .i64 opr) ∧ W.cell? ⟨g3, 6, none⟩ = some (.int .i64 odl) ∧ W.cell? ⟨g3, 7, none⟩ = some (.slice pa pn pc) ∧ W.cell? ⟨g3, 8, none⟩ = some (.int .i64 over)) (first | exact ⟨by assumption, by assumption, by assumption, by assumption, by assumption, by assumption, by assumption, by assumption, by assumption, by assumption⟩ | go_keep) (first
          | (go_at_call 10
             refine (OWN.out _ (Kq.of (A2.out.2.2.2.2.trans ((DR.out w2).mono A2.out.2.2.2.2.size)))).mono ?_
             rintro e y1 ⟨xa, xc, xb, xd, rfl, h1⟩
             have R1 := Lib.hid h1.out
             have B1 : Hid (Below w2.heap.size w2 y1) := Lib.hid ((DR.out w2).trans h1.out.2)
             obtain ⟨b0, b1, b2, b3, b4, b5, b6, b7, b8, b9⟩ := KC.out y1 _ _ _ (A2.out.1.below B1.out) (A2.out.2.2.2.1.trans (Kq.of B1.out))
             clear h1)
          | (go_at_call 11
             refine (CHG.out _ n D (tot hs) E xa xc xb xd (A2.out.1.below B1.out) (by have := NN.out; omega) R1.out.1.obv EE.out).mono ?_
             rintro e y2 ⟨rfl, h2⟩
             obtain ⟨D2, n2, h3, h4, h5⟩ := h2.out
             have R2 : Hid (Bm w0 bb t b n2 D2 (mvF true (tot hs) o) (.slice hva m hvc) rs y2 ∧ Kept (fun y => y = b) y1 y2 ∧ n2 ≤ n + 144000000) := Lib.hid ⟨h3, h4, h5⟩
             have K2 : Hid (Kq X y2) := Lib.hid ((A2.out.2.2.2.1.trans (Kq.of B1.out)).trans ((A2.out.1.below B1.out).lv.kq R2.out.2.1))
             obtain ⟨c0, c1, c2, c3, c4, c5, c6, c7, c8, c9⟩ := KC.out y2 _ _ _ R2.out.1 K2.out
             clear h2 h3 h4 h5))
        have KP : Hid (Kept (Fr b bb (.slice hva m hvc)) w y2) := Lib.hid ((Below.kept (A2.out.2.2.2.2.trans (B1.out.mono A2.out.2.2.2.2.size)) _).trans (R2.out.2.1.mono (fun _ _ e => Or.inl e)) (fun _ _ e => e))
        by_cases h0 : E = 0
        case neg =>
          have g1 : (E == 0) = false := by rw [beq_eq_false_iff_ne]; exact h0
          have FIN : Hid (StQ w0 w bb t b n (.slice hva m hvc) (stp hs kind o) 432000000 y2 ∧ (E ≠ 0 → stp hs kind o = hs ∧ Row kUse y2 vr Sr)) := Lib.hid (by
            have e1 := stp_full (k := kind) NP.out (Or.inr (by rw [← EE.out]; exact h0))
            have e2 : mvF true (tot hs) o = tot hs := mv_no (by rw [← EE.out]; exact h0)
            have q := R2.out.1
            rw [e2] at q
            rw [e1]
            refine ⟨⟨D2, n2, _, rs, ⟨by rw [← HS.out]; exact q, HH.out.hs, HH.out.oz, HH.out.len⟩, HS.out.symm, by have := R2.out.2.2; omega, KP.out, fun _ e => Or.inl e⟩, fun _ => ⟨rfl, row_kq (A2.out.2.1.below B1.out) ((A2.out.1.below B1.out).lv.kq R2.out.2.1)⟩⟩)
          clear h0
          go_wp2_with fail
          go_meet
          exact ⟨E, rfl, FIN⟩
        case pos =>
          subst h0
          have K3 : Hid (Kq w y2.drew) := Lib.hid ((((Kq.of (A2.out.2.2.2.2.trans (B1.out.mono A2.out.2.2.2.2.size))).trans ((A2.out.1.below B1.out).lv.kq R2.out.2.1))).trans (Kq.of (DR.out y2)))
          have OA : Hid (Calls Tryz.prog 10 #[.agg #[.string op, .string on, .slice la ln lc, .int .i64 opr, .int .i64 odl, .slice pa pn pc, .int .i64 over]] y2.drew fun e w1 => ∃ V, e = .returned V ∧ ∃ xa xc xb xd, V = .agg #[.string op, .string on, .slice xa nl xc, .int .i64 opr, .int .i64 odl, .slice xb np xd, .int .i64 over] ∧ Hid (OwO y2.drew.heap.size w1 (.slice xa nl xc) (.slice xb np xd) o ∧ Below y2.drew.heap.size y2.drew w1)) := Lib.hid (by
            refine Calls.mono (OWN.out _ K3.out) ?_
            rintro e w1 ⟨xa, xc, xb, xd, rfl, h1⟩
            exact ⟨_, rfl, xa, xc, xb, xd, rfl, h1⟩)
          have LL : Hid ((rs.length + 1) * kOb.b ≤ 140737488355328) := Lib.hid (by
            have h1 : rs.length ≤ 40 := HH.out.len
            have h2 : kOb.b = 104 := rfl
            rw [h2]
            omega)
          have MD : Hid (Bm w0 bb t b n2 D2 (mvF true (tot hs) o) (.slice hva m hvc) rs y2.drew) := Lib.hid (R2.out.1.below (DR.out y2))
          have KX : Hid (Kq X y2.drew) := Lib.hid (((A2.out.2.2.2.1.trans (Kq.of B1.out)).trans ((A2.out.1.below B1.out).lv.kq R2.out.2.1)).trans (Kq.of (DR.out y2)))
          clear a0 a1 a2 a3 a4 a5 a6 a7 a8 a9 b0 b1 b2 b3 b4 b5 b6 b7 b8 b9 c0 c1 c2 c3 c4 c5 c6 c7 c8 c9 d0 d1 d2 d3 d4 d5 d6 d7 d8 d9
          obtain ⟨a0, a1, a2, a3, a4, a5, a6, a7, a8, a9⟩ := KC.out y2.drew _ _ _ MD.out KX.out
          go_wp2_with fail
          go_region_law (first
            | (refine step_calls (enters _ _ Tryz.func10 (by kernel_rfl) (by kernel_rfl)) rfl #[.tmp 47] _ rfl (us := #[.agg #[.string op, .string on, .slice la ln lc, .int .i64 opr, .int .i64 odl, .slice pa pn pc, .int .i64 over]]) (by simp only [List.map_toArray, List.map_cons, List.map_nil]; rfl) OA.out ?_; intro V1 y3 q1; obtain ⟨xa2, xc2, xb2, xd2, rfl, hq⟩ := q1.out
               have R3 : Hid (OwO y2.drew.heap.size y3 (.slice xa2 nl xc2) (.slice xb2 np xd2) o ∧ Below y2.drew.heap.size y2.drew y3) := hq
               have M3 := Lib.hid (MD.out.below R3.out.2)
               obtain ⟨b0, b1, b2, b3, b4, b5, b6, b7, b8, b9⟩ := KC.out y3 _ _ _ M3.out (KX.out.trans (Kq.of R3.out.2))
               have z1 := cellA b1 (Obj.cells #[.string op, .string on, .slice xa2 nl xc2, .int .i64 opr, .int .i64 odl, .slice xb2 np xd2, .int .i64 over] 25)
               clear hq q1)
            | (refine step_rowA okOb rfl (.tmp 45) (.tmp 49) rfl (B := w0.heap.size) (w0 := y3) (v := .slice hva m hvc) (es := rs) rfl M3.out.ls.r M3.out.lv.bel.size ((⟨⟨op, on, ols, opr, odl, ops, over⟩, ⟨xa2, nl, xc2⟩, ⟨xb2, np, xd2⟩⟩ : Rb)) rfl rfl LL.out ?_; intro a5 n5 c5 y5 q5
               obtain ⟨r1, r2, r3⟩ := M3.out.row q5.out.2.1
               have t1 : y5.cell? ⟨bb, 1, none⟩ = some (.slice hva m hvc) := cell_of_row _ _ 1 _ _ _ r2
               have tf := frozen_row r2 1
               have FN : Hid (StQ w0 w bb t b n (.slice hva m hvc) (stp hs kind o) 432000000 (y5.setCell ⟨bb, 1, none⟩ (.slice a5 n5 c5))) := Lib.hid (by
                 have e1 := stp_none (k := kind) NP.out (by rw [FA.out.1]; exact h40) EE.out.symm
                 have e2 : mvF true (tot hs) o = tot (hs ++ [o]) := tot_add OZ.out.z EE.out.symm
                 have z := M3.out.app (x := ⟨o, ⟨xa2, nl, xc2⟩, ⟨xb2, np, xd2⟩⟩) (owo_mono R3.out.1 MD.out.lv.bel.size) (by rw [OO.out]; exact q5.out.1) q5.out.2.1
                 rw [e2] at z
                 have em : (rs ++ [(⟨o, ⟨xa2, nl, xc2⟩, ⟨xb2, np, xd2⟩⟩ : Rb)]).map (·.1) = hs ++ [o] := by rw [List.map_append, ← HS.out]; rfl
                 rw [e1, ← em]
                 rw [← em] at z
                 refine ⟨D2, n2, _, _, ⟨z, ?_, ?_, ?_⟩, rfl, by have := R2.out.2.2; omega, ?_, ?_⟩
                 · rw [em]; exact FA.out.2.2.1.add OZ.out.z (mv_yes EE.out.symm).1
                 · intro x hx
                   rcases List.mem_append.1 hx with y | y
                   · exact HH.out.oz x y
                   · rw [List.mem_singleton.1 y]; exact OZ.out
                 · rw [List.length_append, List.length_singleton, ← HM.out]; omega
                 · exact ((KP.out.trans (Below.kept (DR.out y2) (Fr b bb (.slice hva m hvc))) (fun _ _ e => e)).trans (Below.kept R3.out.2 (Fr b bb (.slice hva m hvc))) (fun _ _ e => e)).trans (((grown_kept q5.out.2.1).mono (fun _ _ e => Or.inr (Or.inr e))).trans (kept_set (F := Fr b bb (.slice hva m hvc)) y5 ⟨bb, 1, none⟩ _ (Or.inr (Or.inl rfl))) (fun _ _ e => e)) (fun _ _ e => e)
                 · intro g hg
                   rcases q5.out.2.2.2 with q | ⟨b9, q, q'⟩
                   · exact Or.inl (by rw [← q]; exact hg)
                   · right
                     rw [hg] at q'
                     rw [Option.some.inj q']
                     exact Nat.le_trans (Nat.le_trans K3.out.sz R3.out.2.size) q)
               clear r1 r2 r3))
          all_goals
            go_wp2_with fail
            go_meet
            exact ⟨0, rfl, Lib.hid ⟨FN.out, fun h => absurd rfl h⟩⟩
    case pos =>
      obtain ⟨i, hi⟩ : ∃ i, i = plc hs o := ⟨_, rfl⟩
      have e1 : pv = (i : Int) := by rw [PV.out]; unfold plV; rw [if_pos hp, hi]
      subst e1
      have hil : i < hs.length := by rw [hi]; exact hp
      have PI : Hid (i = plc hs o ∧ i < hs.length) := Lib.hid ⟨hi, hil⟩
      have him : i < m := by rw [← FA.out.1]; exact hil
      have him' : (i : Int) < (m : Int) := by omega
      have him2 : (i : Int) ≤ (hvc : Int) := by have := FA.out.2.2.2.1; omega
      obtain ⟨gr, hgr⟩ := own_some A2.out.1.ls.r (by omega)
      subst hgr
      have hir : i < rs.length := by rw [← HM.out]; exact him
      obtain ⟨y, hy⟩ : ∃ y, y = rs[i] := ⟨_, rfl⟩
      have YM : Hid (y ∈ rs ∧ rs.getD i kOb.z = y ∧ y.1 = hs[i]'PI.out.2) := Lib.hid ⟨by rw [hy]; exact List.getElem_mem hir, by rw [List.getD_eq_getElem?_getD, List.getElem?_eq_getElem hir, hy]; rfl, by rw [hy]; simp [HS.out]⟩
      clear hy hi hil hp
      obtain ⟨⟨yp, yn, yls, ypr, ydl, yps, yvr⟩, ⟨ya, yl, yc⟩, ⟨yd, ye, yf⟩⟩ := y
      have EC : Hid (∀ (W : World) (nn : Nat) (DD : DataW Unit) (ff : Ky → Int), Bm w0 bb t b nn DD ff (.slice (some ⟨gr, 0, none⟩) m hvc) rs W → W.cell? ⟨gr, i * 7, none⟩ = some (.string yp) ∧ W.cell? ⟨gr, i * 7 + 1, none⟩ = some (.string yn) ∧ W.cell? ⟨gr, i * 7 + 2, none⟩ = some (.slice ya yl yc) ∧ W.cell? ⟨gr, i * 7 + 3, none⟩ = some (.int .i64 ypr) ∧ W.cell? ⟨gr, i * 7 + 4, none⟩ = some (.int .i64 ydl) ∧ W.cell? ⟨gr, i * 7 + 5, none⟩ = some (.slice yd ye yf) ∧ W.cell? ⟨gr, i * 7 + 6, none⟩ = some (.int .i64 yvr)) := Lib.hid fun W nn DD ff h => by
        obtain ⟨b', off', e', pc⟩ := (h.ls.r.row okOb).at i hir
        simp only [Option.some.injEq, Addr.mk.injEq, and_true] at e'
        obtain ⟨rfl, rfl⟩ := e'
        rw [YM.out.2.1] at pc
        simp only [Nat.zero_add] at pc
        exact ⟨pc 0 _ rfl, pc 1 _ rfl, pc 2 _ rfl, pc 3 _ rfl, pc 4 _ rfl, pc 5 _ rfl, pc 6 _ rfl⟩
      obtain ⟨h, hh⟩ : ∃ h : Ob, h = ⟨yp, yn, yls, ypr, ydl, yps, yvr⟩ := ⟨_, rfl⟩
      have YZ : Hid (Ozz h ∧ h = hs[i]'PI.out.2) := Lib.hid ⟨by rw [hh]; exact HH.out.oz _ YM.out.1, by rw [hh]; exact YM.out.2.2⟩
      obtain ⟨nly, hnly⟩ : ∃ k, k = yls.length := ⟨_, rfl⟩
      obtain ⟨npy, hnpy⟩ : ∃ k, k = yps.length := ⟨_, rfl⟩
      have OWY : Hid (∀ (W : World) (nn : Nat) (DD : DataW Unit) (ff : Ky → Int), Bm w0 bb t b nn DD ff (.slice (some ⟨gr, 0, none⟩) m hvc) rs W → Calls Tryz.prog 10 #[.agg #[.string yp, .string yn, .slice ya yl yc, .int .i64 ypr, .int .i64 ydl, .slice yd ye yf, .int .i64 yvr]] W fun e w' => ∃ xa xc xb xd, e = .returned (.agg #[.string yp, .string yn, .slice xa nly xc, .int .i64 ypr, .int .i64 ydl, .slice xb npy xd, .int .i64 yvr]) ∧ Hid (OwO W.heap.size w' (.slice xa nly xc) (.slice xb npy xd) h ∧ Below W.heap.size W w')) := Lib.hid fun W nn DD ff hb => by
        have q := own_any ⟨yp, yn, yls, ypr, ydl, yps, yvr⟩ _ _ W ((hb.ls.o _ YM.out.1).obv) (HH.out.oz _ YM.out.1).s
        refine Calls.mono q ?_
        rintro e w' ⟨xa, xc, zb, zc, rfl, h1, h2⟩
        rw [hnly, hnpy]
        exact ⟨xa, xc, zb, zc, rfl, Lib.hid ⟨by rw [hh]; exact h1, h2⟩⟩
      have REL : Hid (∀ (W : World) (xa : Option Addr) (xc : Nat) (xb : Option Addr) (xd : Nat), Bm w0 bb t b n D (tot hs) (.slice (some ⟨gr, 0, none⟩) m hvc) rs W → ObV W (.slice xa nly xc) (.slice xb npy xd) h → Calls Tryz.prog 14 #[.pointer (some ⟨t, 0, none⟩), .agg #[.string yp, .string yn, .slice xa nly xc, .int .i64 ypr, .int .i64 ydl, .slice xb npy xd, .int .i64 yvr]] W fun e W' => e = .returned (.int .i64 0) ∧ Hid (∃ D' n', Bm w0 bb t b n' D' (tot (hs.eraseIdx i)) (.slice (some ⟨gr, 0, none⟩) m hvc) rs W' ∧ Kept (fun y => y = b) W W' ∧ n' ≤ n + 144000000)) := Lib.hid fun W xa xc xb xd hm hv1 => by
        have q := release_lvk h _ _ hm.lv hv1 YZ.out.1.z YZ.out.1.p (by have := NN.out; omega)
        have sl := sh_len h YZ.out.1.z
        have tr := tot_rel FA.out.2.2.1 PI.out.2
        rw [← YZ.out.2] at tr
        rw [tr.1, tr.2] at q
        rw [hh] at q
        refine Calls.mono q ?_
        rintro e W' ⟨D', n', rfl, h2, h3, h4⟩
        exact ⟨rfl, Lib.hid ⟨D', n', hm.turn h2 h3, h3, by rw [hh] at sl; omega⟩⟩
      have CHA : Hid (∀ (W : World) (E : Int) (xa : Option Addr) (xc : Nat) (xb : Option Addr) (xd : Nat) (ua : Option Addr) (uc : Nat) (ub : Option Addr) (ud : Nat), Bm w0 bb t b n D (tot hs) (.slice (some ⟨gr, 0, none⟩) m hvc) rs W → ObV W (.slice xa nly xc) (.slice xb npy xd) h → ObV W (.slice ua nl uc) (.slice ub np ud) o → E = chE (tot hs) h o → Calls Tryz.prog 16 #[.pointer (some ⟨t, 0, none⟩), .agg #[.string yp, .string yn, .slice xa nly xc, .int .i64 ypr, .int .i64 ydl, .slice xb npy xd, .int .i64 yvr], .agg #[.string op, .string on, .slice ua nl uc, .int .i64 opr, .int .i64 odl, .slice ub np ud, .int .i64 over]] W fun e W' => e = .returned (.int .i64 E) ∧ Hid (∃ D' n', Bm w0 bb t b n' D' (chG (tot hs) h o) (.slice (some ⟨gr, 0, none⟩) m hvc) rs W' ∧ Kept (fun y => y = b) W W' ∧ n' ≤ n + 432000000)) := Lib.hid fun W E xa xc xb xd ua uc ub ud hm hv1 hv2 hE => by
        rw [hE]
        have el : nly = h.ls.length ∧ npy = h.ps.length := by rw [hh]; exact ⟨hnly, hnpy⟩
        have el2 : nl = o.ls.length ∧ np = o.ps.length := by rw [OO.out]; exact NLP.out
        rw [el.1, el.2] at hv1
        rw [el2.1, el2.2] at hv2
        have q := change_lvk h o xa xc xb xd ua uc ub ud hm.lv hv1 hv2 YZ.out.1.z YZ.out.1.p OZ.out.z OZ.out.p (by have := NN.out; omega)
        rw [← el.1, ← el.2, ← el2.1, ← el2.2] at q
        rw [hh, OO.out] at q
        refine Calls.mono q ?_
        rintro e W' ⟨D', n', rfl, h2, h3, h4⟩
        rw [← hh, ← OO.out] at h2 ⊢
        exact ⟨rfl, Lib.hid ⟨D', n', hm.turn h2 h3, h3, h4⟩⟩
      have k1 : decide ((i : Int) < 0) = false := decide_eq_false (by omega)
      have k3 : decide ((i : Int) ≥ 0) = true := decide_eq_true (by omega)
      clear hh hnly hnpy
      by_cases hk2 : kind = 2
      case pos =>
        subst hk2
        obtain ⟨a0, a1, a2, a3, a4, a5, a6, a7, a8, a9⟩ := KC.out w2 _ _ _ A2.out.1 A2.out.2.2.2.1
        obtain ⟨d0, d1, d2, d3, d4, d5, d6, d7, d8, d9⟩ := KC.out w2.drew _ _ _ (A2.out.1.below (DR.out w2)) (A2.out.2.2.2.1.trans (Kq.of (DR.out w2)))
        obtain ⟨u0, u1, u2, u3, u4, u5, u6⟩ := EC.out w2.drew _ _ _ (A2.out.1.below (DR.out w2))
        go_wp2_with fail
        go_region_held3 (fun W : World => W.cell? ⟨bb, 0, none⟩ = some (.pointer (some ⟨t, 0, none⟩)) ∧ W.cell? ⟨bb, 1, none⟩ = some (.slice (some ⟨gr, 0, none⟩) m hvc) ∧ W.cell? ⟨gr, i * 7, none⟩ = some (.string yp) ∧ W.cell? ⟨gr, i * 7 + 1, none⟩ = some (.string yn) ∧ W.cell? ⟨gr, i * 7 + 2, none⟩ = some (.slice ya yl yc) ∧ W.cell? ⟨gr, i * 7 + 3, none⟩ = some (.int .i64 ypr) ∧ W.cell? ⟨gr, i * 7 + 4, none⟩ = some (.int .i64 ydl) ∧ W.cell? ⟨gr, i * 7 + 5, none⟩ = some (.slice yd ye yf) ∧ W.cell? ⟨gr, i * 7 + 6, none⟩ = some (.int .i64 yvr)) (first | exact ⟨by assumption, by assumption, by assumption, by assumption, by assumption, by assumption, by assumption, by assumption, by assumption⟩ | go_keep) (first
          | (go_at_call 10
             refine (OWY.out _ _ _ _ (A2.out.1.below (DR.out w2))).mono ?_
             rintro e y1 ⟨xa, xc, xb, xd, rfl, h1⟩
             have R1 := Lib.hid h1.out
             have B1 : Hid (Below w2.heap.size w2 y1) := Lib.hid ((DR.out w2).trans h1.out.2)
             obtain ⟨b0, b1, b2, b3, b4, b5, b6, b7, b8, b9⟩ := KC.out y1 _ _ _ (A2.out.1.below B1.out) (A2.out.2.2.2.1.trans (Kq.of B1.out))
             obtain ⟨q0, q1, q2, q3, q4, q5, q6⟩ := EC.out y1 _ _ _ (A2.out.1.below B1.out)
             clear h1)
          | (go_at_call 14
             refine (REL.out _ xa xc xb xd (A2.out.1.below B1.out) R1.out.1.obv).mono ?_
             rintro e y2 ⟨rfl, h2⟩
             obtain ⟨D2, n2, h3, h4, h5⟩ := h2.out
             have R2 : Hid (Bm w0 bb t b n2 D2 (tot (hs.eraseIdx i)) (.slice (some ⟨gr, 0, none⟩) m hvc) rs y2 ∧ Kept (fun y => y = b) y1 y2 ∧ n2 ≤ n + 144000000) := Lib.hid ⟨h3, h4, h5⟩
             obtain ⟨c0, c1, c2, c3, c4, c5, c6, c7, c8, c9⟩ := KC.out y2 _ _ _ R2.out.1 ((A2.out.2.2.2.1.trans (Kq.of B1.out)).trans ((A2.out.1.below B1.out).lv.kq R2.out.2.1))
             obtain ⟨r0, r1, r2, r3, r4, r5, r6⟩ := EC.out y2 _ _ _ R2.out.1
             clear h2 h3 h4 h5))
        have KP : Hid (Kept (Fr b bb (.slice (some ⟨gr, 0, none⟩) m hvc)) w y2) := Lib.hid ((Below.kept (A2.out.2.2.2.2.trans (B1.out.mono A2.out.2.2.2.2.size)) _).trans (R2.out.2.1.mono (fun _ _ e => Or.inl e)) (fun _ _ e => e))
        have MD : Hid (Bm w0 bb t b n2 D2 (tot (hs.eraseIdx i)) (.slice (some ⟨gr, 0, none⟩) m hvc) rs y2.drew) := Lib.hid (R2.out.1.below (DR.out y2))
        have SL : Hid (w.heap.size ≤ y2.drew.heap.size) := Lib.hid (KP.out.size)
        clear a0 a1 a2 a3 a4 a5 a6 a7 a8 a9 b0 b1 b2 b3 b4 b5 b6 b7 b8 b9 c0 c1 c2 c3 c4 c5 c6 c7 c8 c9 d0 d1 d2 d3 d4 d5 d6 d7 d8 d9 u0 u1 u2 u3 u4 u5 u6 q0 q1 q2 q3 q4 q5 q6 r0 r1 r2 r3 r4 r5 r6
        have a1 := MD.out.c1
        have hm40 : m ≤ 40 := FA.out.2.1
        have hml : m = rs.length := HM.out
        have hm41 : m ≤ hvc ∧ hvc ≤ maxLen := FA.out.2.2.2
        obtain ⟨j, hj⟩ : ∃ j : Nat, j = i + 1 := ⟨_, rfl⟩
        have wi : IntKind.i64.wrap ((i : Int) + 1) = (j : Int) := by rw [hj, IntKind.wrap_i64]; omega
        have hi1 : (j : Int) ≤ (m : Int) := by omega
        have hi2 : (0 : Int) ≤ (j : Int) := by omega
        obtain ⟨ad, had⟩ : ∃ ad : Addr, (if hvc = j then some (⟨gr, 0, none⟩ : Addr) else some ⟨gr, j * 7, none⟩) = some ad := by split <;> exact ⟨_, rfl⟩
        have RD : Hid (∀ W, OwnR kOb w0.heap.size W (.slice (some ⟨gr, 0, none⟩) m hvc) rs → Row kOb W (.slice (some ad) (m - j) (hvc - j)) (rs.drop j)) := Lib.hid fun W hw => by
          by_cases hq : hvc = j
          · rw [if_pos hq] at had
            obtain rfl := Option.some.inj had
            exact row_none_of _ (by omega) (by rw [List.length_drop]; omega) (by unfold maxLen; omega) (fun e => by cases e)
          · rw [if_neg hq] at had
            obtain rfl := Option.some.inj had
            obtain ⟨a', e', hr⟩ := row_drop (hw.row okOb) j (by omega) (by omega)
            rw [e', Option.map_some, add_plain, Nat.zero_add] at hr
            exact hr
        have JE : Hid (j = i + 1) := Lib.hid hj
        clear hj hml
        have RT : Hid (∀ W, OwnR kOb w0.heap.size W (.slice (some ⟨gr, 0, none⟩) m hvc) rs → OwnR kOb w0.heap.size W (.slice (some ⟨gr, 0, none⟩) i hvc) (rs.take i)) := Lib.hid fun W hw => own_take okOb hw i (by omega)
        go_wp2_with fail
        go_region_law (first
          | (refine step_rowsA okOb rfl (.const (.slice none 0 0)) (.tmp 81) rfl (B := w0.heap.size) (v := .slice none 0 0) (l := []) (m := rs.take i) (ad := ⟨gr, 0, none⟩) (mn := i) (mc := hvc) rfl (OwnR.nil _ _ _) MD.out.lv.bel.size rfl ((RT.out _ MD.out.ls.r).row okOb) (by have h9 : kOb.b = 104 := rfl; rw [h9, List.length_take]; simp; omega) ?_; intro a3 n3 c3 y3 q3
             have B3 : Hid (Below y2.drew.heap.size y2.drew y3) := Lib.hid ⟨q3.out.2.1.os, q3.out.2.1.tape, q3.out.2.1.output, q3.out.2.1.size, fun k hk => q3.out.2.1.block k hk (by rw [show (Value.slice none 0 0).ownBlock = none from rfl]; exact (fun e => by simp at e))⟩
             have M3 := Lib.hid (MD.out.below B3.out)
             have z1 := M3.out.c1)
          | (refine step_rowsA okOb rfl (.tmp 82) (.tmp 89) rfl (B := w0.heap.size) (v := .slice a3 n3 c3) (l := rs.take i) (m := rs.drop j) (ad := ad) (mn := m - j) (mc := hvc - j) rfl q3.out.1 M3.out.lv.bel.size rfl (RD.out _ M3.out.ls.r) (by have h9 : kOb.b = 104 := rfl; have h8 : m = rs.length := HM.out; rw [h9, List.length_take, List.length_drop]; omega) ?_; intro a5 n5 c5 y5 q5
             have B5 : Hid (Below y2.drew.heap.size y2.drew y5) := Lib.hid (B3.out.grown q5.out.2.1 B3.out.size (fun g e => by
               rcases q3.out.2.2.2 with q | ⟨b9, q, q'⟩
               · rw [e, show (Value.slice none 0 0).ownBlock = none from rfl] at q; simp at q
               · rw [e] at q'; rw [Option.some.inj q']; exact q))
             have M5 := Lib.hid (MD.out.below B5.out)
             have t1 := M5.out.c1
             have tf := M5.out.fr 1
             have FN : Hid (StQ w0 w bb t b n (.slice (some ⟨gr, 0, none⟩) m hvc) (stp hs 2 o) 432000000 (y5.setCell ⟨bb, 1, none⟩ (.slice a5 n5 c5))) := Lib.hid (by
               have e1 := stp_del (k := 2) (by rw [← PI.out.1]; exact PI.out.2) rfl
               rw [← PI.out.1] at e1
               have er : (rs.take i ++ rs.drop j).map (·.1) = hs.eraseIdx i := by rw [JE.out, HS.out, List.map_append, List.map_take, List.map_drop, List.eraseIdx_eq_take_drop_succ]
               have hmm : ∀ x ∈ rs.take i ++ rs.drop j, x ∈ rs := fun x hx => by
                 rcases List.mem_append.1 hx with z | z
                 · exact List.mem_of_mem_take z
                 · exact List.mem_of_mem_drop z
               have z := MD.out.cut B5.out q5.out.1 hmm
               rw [e1, ← er]
               rw [← er] at z
               refine ⟨D2, n2, _, _, ⟨z, by rw [er]; exact FA.out.2.2.1.del i, fun x hx => HH.out.oz x (hmm x hx), ?_⟩, rfl, by have := R2.out.2.2; omega, ?_, ?_⟩
               · have := HH.out.len
                 have h8 : m = rs.length := HM.out
                 have h7 : j = i + 1 := JE.out
                 rw [List.length_append, List.length_take, List.length_drop]
                 omega
               · exact ((KP.out.trans (Below.kept (DR.out y2) (Fr b bb (.slice (some ⟨gr, 0, none⟩) m hvc))) (fun _ _ e => e)).trans (Below.kept B5.out (Fr b bb (.slice (some ⟨gr, 0, none⟩) m hvc))) (fun _ _ e => e)).trans (kept_set (F := Fr b bb (.slice (some ⟨gr, 0, none⟩) m hvc)) y5 ⟨bb, 1, none⟩ _ (Or.inr (Or.inl rfl))) (fun _ _ e => e)
               · intro g hg
                 right
                 rcases q5.out.2.2.2 with q | ⟨b9, q, q'⟩
                 · rw [hg] at q
                   rcases q3.out.2.2.2 with r | ⟨b8, r, r'⟩
                   · rw [← q, show (Value.slice none 0 0).ownBlock = none from rfl] at r; simp at r
                   · rw [← q] at r'
                     rw [Option.some.inj r']
                     exact Nat.le_trans SL.out r
                 · rw [hg] at q'
                   rw [Option.some.inj q']
                   exact Nat.le_trans (Nat.le_trans SL.out B3.out.size) q)))
        all_goals
          go_wp2_with fail
          go_meet
          exact ⟨0, rfl, Lib.hid ⟨FN.out, fun h => absurd rfl h⟩⟩
      case neg =>
        have k4 : (kind == 2) = false := by rw [beq_eq_false_iff_ne]; exact hk2
        have KN := Lib.hid hk2
        obtain ⟨E, hE⟩ : ∃ E, E = chE (tot hs) h o := ⟨_, rfl⟩
        have EE := Lib.hid hE
        clear hE hk2
        obtain ⟨a0, a1, a2, a3, a4, a5, a6, a7, a8, a9⟩ := KC.out w2 _ _ _ A2.out.1 A2.out.2.2.2.1
        obtain ⟨d0, d1, d2, d3, d4, d5, d6, d7, d8, d9⟩ := KC.out w2.drew _ _ _ (A2.out.1.below (DR.out w2)) (A2.out.2.2.2.1.trans (Kq.of (DR.out w2)))
        obtain ⟨u0, u1, u2, u3, u4, u5, u6⟩ := EC.out w2.drew _ _ _ (A2.out.1.below (DR.out w2))
        have MK : True := trivial
        go_wp2_with fail
        go_region_held3 (fun W : World => W.cell? ⟨bb, 0, none⟩ = some (.pointer (some ⟨t, 0, none⟩)) ∧ W.cell? ⟨bb, 1, none⟩ = some (.slice (some ⟨gr, 0, none⟩) m hvc) ∧ W.cell? ⟨gr, i * 7, none⟩ = some (.string yp) ∧ W.cell? ⟨gr, i * 7 + 1, none⟩ = some (.string yn) ∧ W.cell? ⟨gr, i * 7 + 2, none⟩ = some (.slice ya yl yc) ∧ W.cell? ⟨gr, i * 7 + 3, none⟩ = some (.int .i64 ypr) ∧ W.cell? ⟨gr, i * 7 + 4, none⟩ = some (.int .i64 ydl) ∧ W.cell? ⟨gr, i * 7 + 5, none⟩ = some (.slice yd ye yf) ∧ W.cell? ⟨gr, i * 7 + 6, none⟩ = some (.int .i64 yvr) ∧ W.cell? ⟨g3, 1, none⟩ = some (.int .i64 kind) ∧ W.cell? ⟨g3, 2, none⟩ = some (.string op) ∧ W.cell? ⟨g3, 3, none⟩ = some (.string on) ∧ W.cell? ⟨g3, 4, none⟩ = some (.slice la ln lc) ∧ W.cell? ⟨g3, 5, none⟩ = some (.int .i64 opr) ∧ W.cell? ⟨g3, 6, none⟩ = some (.int .i64 odl) ∧ W.cell? ⟨g3, 7, none⟩ = some (.slice pa pn pc) ∧ W.cell? ⟨g3, 8, none⟩ = some (.int .i64 over)) (first | exact ⟨by assumption, by assumption, by assumption, by assumption, by assumption, by assumption, by assumption, by assumption, by assumption, by assumption, by assumption, by assumption, by assumption, by assumption, by assumption, by assumption, by assumption⟩ | go_keep) (first
          | (go_at_call 10
             clear MK
             refine (OWY.out _ _ _ _ (A2.out.1.below (DR.out w2))).mono ?_
             rintro e y1 ⟨xa, xc, xb, xd, rfl, h1⟩
             have R1 := Lib.hid h1.out
             have B1 : Hid (Below w2.heap.size w2 y1) := Lib.hid ((DR.out w2).trans h1.out.2)
             obtain ⟨b0, b1, b2, b3, b4, b5, b6, b7, b8, b9⟩ := KC.out y1 _ _ _ (A2.out.1.below B1.out) (A2.out.2.2.2.1.trans (Kq.of B1.out))
             obtain ⟨q0, q1, q2, q3, q4, q5, q6⟩ := EC.out y1 _ _ _ (A2.out.1.below B1.out)
             clear h1)
          | (go_at_call 10
             refine (OWN.out _ (Kq.of (A2.out.2.2.2.2.trans (B1.out.mono A2.out.2.2.2.2.size)))).mono ?_
             rintro e y2 ⟨ua, uc, ub, ud, rfl, h2⟩
             have R2 := Lib.hid h2.out
             have B2 : Hid (Below w2.heap.size w2 y2) := Lib.hid (B1.out.trans (h2.out.2.mono B1.out.size))
             obtain ⟨c0, c1, c2, c3, c4, c5, c6, c7, c8, c9⟩ := KC.out y2 _ _ _ (A2.out.1.below B2.out) (A2.out.2.2.2.1.trans (Kq.of B2.out))
             obtain ⟨r0, r1, r2, r3, r4, r5, r6⟩ := EC.out y2 _ _ _ (A2.out.1.below B2.out)
             clear h2)
          | (go_at_call 16
             refine (CHA.out _ E xa xc xb xd ua uc ub ud (A2.out.1.below B2.out) (R1.out.1.obv.below R2.out.2) R2.out.1.obv EE.out).mono ?_
             rintro e y3 ⟨rfl, h3⟩
             obtain ⟨D3, n3, h4, h5, h6⟩ := h3.out
             have R3 : Hid (Bm w0 bb t b n3 D3 (chG (tot hs) h o) (.slice (some ⟨gr, 0, none⟩) m hvc) rs y3 ∧ Kept (fun y => y = b) y2 y3 ∧ n3 ≤ n + 432000000) := Lib.hid ⟨h4, h5, h6⟩
             have K3 : Hid (Kq w2 y3) := Lib.hid ((Kq.of B2.out).trans ((A2.out.1.below B2.out).lv.kq R3.out.2.1))
             obtain ⟨p0, p1, p2, p3, p4, p5, p6, p7, p8, p9⟩ := KC.out y3 _ _ _ R3.out.1 (A2.out.2.2.2.1.trans K3.out)
             obtain ⟨s0, s1, s2, s3, s4, s5, s6⟩ := EC.out y3 _ _ _ R3.out.1
             clear h3 h4 h5 h6))
        have KP : Hid (Kept (Fr b bb (.slice (some ⟨gr, 0, none⟩) m hvc)) w y3) := Lib.hid ((Below.kept (A2.out.2.2.2.2.trans (B2.out.mono A2.out.2.2.2.2.size)) _).trans (R3.out.2.1.mono (fun _ _ e => Or.inl e)) (fun _ _ e => e))
        clear a0 a1 a2 a3 a4 a5 a6 a7 a8 a9 b0 b1 b2 b3 b4 b5 b6 b7 b8 b9 c0 c1 c2 c3 c4 c5 c6 c7 c8 c9 d0 d1 d2 d3 d4 d5 d6 d7 d8 d9 p0 p1 p2 p3 p4 p5 p6 p7 p8 p9 u0 u1 u2 u3 u4 u5 u6 q0 q1 q2 q3 q4 q5 q6 r0 r1 r2 r3 r4 r5 r6 s0 s1 s2 s3 s4 s5 s6
        by_cases h0 : E = 0
        case neg =>
          have g1 : (E == 0) = false := by rw [beq_eq_false_iff_ne]; exact h0
          have FIN : Hid (StQ w0 w bb t b n (.slice (some ⟨gr, 0, none⟩) m hvc) (stp hs kind o) 432000000 y3 ∧ (E ≠ 0 → stp hs kind o = hs ∧ Row kUse y3 vr Sr)) := Lib.hid (by
            have he : chE (tot hs) (hs[plc hs o]'(by rw [← PI.out.1]; exact PI.out.2)) o ≠ 0 := by
              have z : chE (tot hs) h o ≠ 0 := by rw [← EE.out]; exact h0
              rw [YZ.out.2] at z
              simp only [PI.out.1] at z
              exact z
            have e1 := stp_ref (by rw [← PI.out.1]; exact PI.out.2) KN.out he
            have e2 : chG (tot hs) h o = tot hs := ch_no (by rw [← EE.out]; exact h0)
            have q := R3.out.1
            rw [e2] at q
            rw [e1]
            refine ⟨⟨D3, n3, _, rs, ⟨by rw [← HS.out]; exact q, HH.out.hs, HH.out.oz, HH.out.len⟩, HS.out.symm, R3.out.2.2, KP.out, fun _ e => Or.inl e⟩, fun _ => ⟨rfl, row_kq A2.out.2.1 K3.out⟩⟩)
          clear h0
          go_wp2_with fail
          go_meet
          exact ⟨E, rfl, FIN⟩
        case pos =>
          subst h0
          have MD : Hid (Bm w0 bb t b n3 D3 (chG (tot hs) h o) (.slice (some ⟨gr, 0, none⟩) m hvc) rs y3.drew) := Lib.hid (R3.out.1.below (DR.out y3))
          have KX : Hid (Kq X y3.drew ∧ Kq w y3.drew) := Lib.hid ⟨(A2.out.2.2.2.1.trans K3.out).trans (Kq.of (DR.out y3)), ((Kq.of A2.out.2.2.2.2).trans K3.out).trans (Kq.of (DR.out y3))⟩
          have OA : Hid (Calls Tryz.prog 10 #[.agg #[.string op, .string on, .slice la ln lc, .int .i64 opr, .int .i64 odl, .slice pa pn pc, .int .i64 over]] y3.drew fun e w1 => ∃ V, e = .returned V ∧ ∃ xa xc xb xd, V = .agg #[.string op, .string on, .slice xa nl xc, .int .i64 opr, .int .i64 odl, .slice xb np xd, .int .i64 over] ∧ Hid (OwO y3.drew.heap.size w1 (.slice xa nl xc) (.slice xb np xd) o ∧ Below y3.drew.heap.size y3.drew w1)) := Lib.hid (by
            refine Calls.mono (OWN.out _ KX.out.2) ?_
            rintro e w1 ⟨xa, xc, xb, xd, rfl, h1⟩
            exact ⟨_, rfl, xa, xc, xb, xd, rfl, h1⟩)
          obtain ⟨a0, a1, a2, a3, a4, a5, a6, a7, a8, a9⟩ := KC.out y3.drew _ _ _ MD.out KX.out.1
          go_wp2_with fail
          go_region_law (
            (refine step_calls (enters _ _ Tryz.func10 (by kernel_rfl) (by kernel_rfl)) rfl #[.tmp 120] _ rfl (us := #[.agg #[.string op, .string on, .slice la ln lc, .int .i64 opr, .int .i64 odl, .slice pa pn pc, .int .i64 over]]) (by simp only [List.map_toArray, List.map_cons, List.map_nil]; rfl) OA.out ?_; intro V1 y4 q1; obtain ⟨xa2, xc2, xb2, xd2, rfl, hq⟩ := q1.out
             have R4 : Hid (OwO y3.drew.heap.size y4 (.slice xa2 nl xc2) (.slice xb2 np xd2) o ∧ Below y3.drew.heap.size y3.drew y4) := hq
             have M4 := Lib.hid (MD.out.below R4.out.2)
             have b1 := M4.out.c1
             obtain ⟨q0, q1, q2, q3, q4, q5, q6⟩ := EC.out y4 _ _ _ M4.out
             have FZ : ∀ j, y4.frozen? ⟨gr, j, none⟩ = false := fun j => by obtain ⟨cur, -, -, h9, -⟩ := own_parts M4.out.ls.r; exact frozen_row h9 j
             have f0 := FZ (i * 7)
             obtain ⟨sa1, sa2, sa3, sa4, sa5, sa6, sf1, sf2, sf3, sf4, sf5, sf6⟩ := seven y4 gr i _ _ _ _ _ _ q1 q2 q3 q4 q5 q6 FZ
             have FN : Hid (StQ w0 w bb t b n (.slice (some ⟨gr, 0, none⟩) m hvc) (stp hs kind o) 432000000 (y4.setCells gr (i * 7) (kOb.c ((⟨⟨op, on, ols, opr, odl, ops, over⟩, ⟨xa2, nl, xc2⟩, ⟨xb2, np, xd2⟩⟩ : Rb))))) := Lib.hid (by
               have hir' : i < rs.length := hir
               have he : chE (tot hs) (hs[plc hs o]'(by rw [← PI.out.1]; exact PI.out.2)) o = 0 := by
                 have z : chE (tot hs) h o = 0 := EE.out.symm
                 rw [YZ.out.2] at z
                 simp only [PI.out.1] at z
                 exact z
               have e1 := stp_chg (by rw [← PI.out.1]; exact PI.out.2) KN.out he
               rw [← PI.out.1] at e1
               have ec := tot_chg FA.out.2.2.1 PI.out.2 OZ.out.z (by rw [← YZ.out.2]; exact EE.out.symm)
               rw [← YZ.out.2] at ec
               obtain ⟨o1, o2, _⟩ := own_put okOb M4.out.ls.r i hir' ((⟨⟨op, on, ols, opr, odl, ops, over⟩, ⟨xa2, nl, xc2⟩, ⟨xb2, np, xd2⟩⟩ : Rb))
               have z := M4.out.set (x := ⟨o, ⟨xa2, nl, xc2⟩, ⟨xb2, np, xd2⟩⟩) (i := i) (owo_mono R4.out.1 MD.out.lv.bel.size) (by rw [OO.out]; exact o1) o2
               rw [ec.1] at z
               have em : (rs.set i (⟨o, ⟨xa2, nl, xc2⟩, ⟨xb2, np, xd2⟩⟩ : Rb)).map (·.1) = hs.set i o := by rw [List.map_set, ← HS.out]
               rw [e1, ← em]
               rw [← em] at z
               refine ⟨D3, n3, _, _, ⟨z, ?_, ?_, ?_⟩, rfl, R3.out.2.2, ?_, fun _ e => Or.inl e⟩
               · rw [em]; exact FA.out.2.2.1.set i OZ.out.z ec.2
               · intro x hx
                 rcases List.mem_or_eq_of_mem_set hx with y | y
                 · exact HH.out.oz x y
                 · rw [y]; exact OZ.out
               · rw [List.length_set]; exact HH.out.len
               · exact ((KP.out.trans (Below.kept (DR.out y3) (Fr b bb (.slice (some ⟨gr, 0, none⟩) m hvc))) (fun _ _ e => e)).trans (Below.kept R4.out.2 (Fr b bb (.slice (some ⟨gr, 0, none⟩) m hvc))) (fun _ _ e => e)).trans ((grown_kept o2).mono (fun _ _ e => Or.inr (Or.inr e))) (fun _ _ e => e))
             clear hq q1 FZ))
          all_goals
            go_wp2_with fail
            go_meet
            exact ⟨0, rfl, Lib.hid ⟨FN.out, fun h => absurd rfl h⟩⟩
  case rest =>
    obtain ⟨E, rfl, RS⟩ := hcut
    obtain ⟨D3, n3, hv3, rs3, z1, z2, z3, z4, z5⟩ := RS.out.1
    have Z3 : Hid (Bk w0 bb t b n3 D3 hv3 rs3 wc ∧ n3 ≤ n + 432000000 ∧ rs3.map (·.1) = stp hs kind o) := Lib.hid ⟨z1, z3, z2⟩
    have ST := Lib.hid RS.out.1
    clear z1 z2 z3 z4 z5
    by_cases h0 : E = 0
    case pos =>
      subst h0
      go_wp2_with fail
      go_ret
      exact ⟨rfl, ST.out⟩
    case neg =>
      have g1 : (E == 0) = false := by rw [beq_eq_false_iff_ne]; exact h0
      obtain ⟨hsq, hrow⟩ := RS.out.2 h0
      have SQ := Lib.hid (And.intro hsq hrow)
      have c0 := Z3.out.1.m.c0
      have RW := Lib.hid (rows_lv Z3.out.1.m.lv (by have := Z3.out.2.1; have := NN.out; omega))
      clear hsq hrow
      go_wp2_with fail
      refine RW.out.mono ?_
      rintro e w4 ⟨v4, S4, rfl, h1, h2, hb4⟩
      have RR : Hid (Row kUse w4 v4 Sr ∧ Row kUse w4 vr Sr ∧ Below wc.heap.size wc w4) := Lib.hid (by
        have e : S4 = Sr := rows_eq h2 A2.out.2.2.1 (by
          have q := Z3.out.1.m.lv.rep
          have em : rs3.map (·.1) = hs := Z3.out.2.2.trans SQ.out.1
          rw [em] at q
          exact q) A2.out.1.lv.rep
        rw [← e]
        exact ⟨h1, by rw [e]; exact SQ.out.2.below hb4, hb4⟩)
      have SM := Lib.hid (sameRows_yes vr v4 Sr w4 RR.out.2.1 RR.out.1)
      clear h1 h2 hb4 RW
      go_wp2_with fail
      refine SM.out.mono ?_
      rintro e w5 ⟨rfl, hb5⟩
      have B5 : Hid (Below wc.heap.size wc w5) := Lib.hid (RR.out.2.2.trans (hb5.mono RR.out.2.2.size))
      clear hb5 SM
      go_wp2_with fail
      go_ret
      obtain ⟨D6, n6, hv6, rs6, z1, z2, z3, z4, z5⟩ := ST.out
      exact ⟨rfl, D6, n6, hv6, rs6, z1.below B5.out, z2, z3, z4.trans (Below.kept B5.out _) (fun _ _ e => e), z5⟩
end Le
end Go.Proofs.YtodfmnbfbndkhaaGreatDoor
