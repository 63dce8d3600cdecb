/-
  The law's copy of an object: own, the walk.
-/
import Derived.Test.YtodfmnbfbndkhaaGreatDoorScO
namespace Go.Proofs.YtodfmnbfbndkhaaGreatDoor
open Go.RowKit
/-- An object whose lists are the call's own. -/
def OwO (B : Nat) (w : World) (lv pv : Value) (o : Ob) : Prop := OwnR kLb B w lv o.ls ∧ ∃ rs, OwnR kPt B w pv rs ∧ Nst B w rs o.ps
theorem OwO.obv {B : Nat} {w : World} {lv pv : Value} {o : Ob} (h : OwO B w lv pv o) : ObV w lv pv o := by
  obtain ⟨h1, rs, h2, h3⟩ := h
  exact ⟨h1.row okLb, h3.pts h2⟩
theorem OwO.below {B : Nat} {w w' : World} {lv pv : Value} {o : Ob} (h : OwO B w lv pv o) (hb : Below w.heap.size w w') : OwO B w' lv pv o := by
  obtain ⟨h1, rs, h2, h3⟩ := h
  exact ⟨h1.below hb, rs, h2.below hb, h3.below hb⟩
/-- Lengths that slices bear. -/
def OSz (o : Ob) : Prop := o.ls.length * 32 ≤ 140737488355328 ∧ o.ps.length * 64 ≤ 140737488355328 ∧ ∀ y ∈ o.ps, y.r.length * 24 ≤ 140737488355328 ∧ y.l.length * 24 ≤ 140737488355328
theorem size_obj : (Tryz.prog.info? 25).map (·.size) = some 7 := by kernel_rfl
theorem frozen_row {w : World} {g : Nat} {cs : Array Value} {t : TypeId} (h : w.heap[g]? = some (.cells cs t (0, 0))) (j : Nat) : w.frozen? ⟨g, j, none⟩ = false := by
  unfold World.frozen?; rw [h]; simp
theorem frozen_grown {w w' : World} {r : Option Nat} {a : Addr} (hg : w.grownBy w' r) (h : w.frozen? a = false) (hlt : a.block < w.heap.size) (hne : some a.block ≠ r) : w'.frozen? a = false := by
  unfold World.frozen? at *; rw [hg.block _ hlt hne]; exact h
theorem grown_row (w : World) (g : Nat) (cs : Array Value) : w.grownBy (w.setRow g cs) (some g) := ⟨rfl, rfl, rfl, by simp [World.setRow], fun k _ hn => setRow_other w g k cs (fun e => hn (by rw [e]))⟩
theorem Nst.far {B g : Nat} {w w' : World} {rs : List Pr} {ps : List Pt} (h : Nst B w rs ps) (hg : w.grownBy w' (some g)) (hB : g < B) : Nst B w' rs ps :=
  ⟨h.1, fun k hk => ⟨(h.2 k hk).1, (h.2 k hk).2.1.grownO hg (fun j e t => by have := ((h.2 k hk).2.1.lt j e).1; injection t with t; omega), (h.2 k hk).2.2.grownO hg (fun j e t => by have := ((h.2 k hk).2.2.lt j e).1; injection t with t; omega)⟩⟩
theorem OwnR.far {α : Type} {K : Kd α} {B g : Nat} {w w' : World} {v : Value} {l : List α} (h : OwnR K B w v l) (hg : w.grownBy w' (some g)) (hB : g < B) : OwnR K B w' v l :=
  h.grownO hg (fun j e t => by have := (h.lt j e).1; injection t with t; omega)
theorem OwO.mk {B C : Nat} {w : World} {lv pv : Value} {o : Ob} {rs : List Pr} (h1 : OwnR kLb C w lv o.ls) (h2 : OwnR kPt C w pv rs) (h3 : Nst C w rs o.ps) (hB : B ≤ C) : OwO B w lv pv o :=
  ⟨h1.mono hB, rs, h2.mono hB, h3.1, fun k hk => ⟨(h3.2 k hk).1, (h3.2 k hk).2.1.mono hB, (h3.2 k hk).2.2.mono hB⟩⟩
theorem set_size (w : World) (p : Addr) (v : Value) : (w.setCell p v).heap.size = w.heap.size := by simp [World.setCell]
set_option maxHeartbeats 8000000 in
set_option maxRecDepth 100000 in
theorem own_any (o : Ob) (ls ps : Value) (w : World) (hv : ObV w ls ps o) (hz : OSz o) :
    Calls Tryz.prog 10 #[o.val ls ps] w fun e w' => ∃ la lc pa pc, e = .returned (o.val (.slice la o.ls.length lc) (.slice pa o.ps.length pc)) ∧ OwO w.heap.size w' (.slice la o.ls.length lc) (.slice pa o.ps.length pc) o ∧ Below w.heap.size w w' := by
  obtain ⟨op, on, ols, opr, odl, ops, over⟩ := o
  have HV : Hid (Row kLb w ls ols ∧ Pts w ps ops) := Lib.hid ⟨hv.l, hv.p⟩
  have HZ : Hid (OSz ⟨op, on, ols, opr, odl, ops, over⟩) := Lib.hid hz
  obtain ⟨la, lc, rfl, _, _⟩ := hv.l.len
  obtain ⟨pa, pc, rfl, hlc, hcm⟩ := hv.p.len
  unfold maxLen at hcm
  simp only at *
  clear hv hz
  unfold Ob.val
  simp only
  obtain ⟨ln, hln⟩ : ∃ n, n = ols.length := ⟨_, rfl⟩
  obtain ⟨n, hn⟩ : ∃ n, n = ops.length := ⟨_, rfl⟩
  rw [← hn] at hlc HV ⊢
  rw [← hln] at HV ⊢
  have HN : Hid (ln = ols.length ∧ n = ops.length) := Lib.hid ⟨hln, hn⟩
  clear hn hln
  obtain ⟨X, hX⟩ : ∃ X, X = (w.alloc (.cells #[.string op, .string on, .slice la ln lc, .int .i64 opr, .int .i64 odl, .slice pa n pc, .int .i64 over] 25)).alloc (.cells #[.string ⟨#[]⟩, .string ⟨#[]⟩, .slice none 0 0, .int .i64 0, .int .i64 0, .slice none 0 0, .int .i64 0] 25) := ⟨_, rfl⟩
  have XS : Hid (X.heap.size = w.heap.size + 2 ∧ Below w.heap.size w X ∧ X.heap[w.heap.size]? = some (.cells #[.string op, .string on, .slice la ln lc, .int .i64 opr, .int .i64 odl, .slice pa n pc, .int .i64 over] 25 (0, 0)) ∧ X.heap[w.heap.size + 1]? = some (.cells #[.string ⟨#[]⟩, .string ⟨#[]⟩, .slice none 0 0, .int .i64 0, .int .i64 0, .slice none 0 0, .int .i64 0] 25 (0, 0))) := Lib.hid (by
    rw [hX]
    refine ⟨by simp, ?_, ?_, ?_⟩
    · have q := (below_alR w).out (.cells #[.string op, .string on, .slice la ln lc, .int .i64 opr, .int .i64 odl, .slice pa n pc, .int .i64 over] 25)
      exact q.alloc q.size _
    · rw [((Below.refl _ (w.alloc _)).alloc (Nat.le_refl _) _).block w.heap.size (by simp)]
      exact heap_alloc_new _ _
    · have e : w.heap.size + 1 = (w.alloc (.cells #[.string op, .string on, .slice la ln lc, .int .i64 opr, .int .i64 odl, .slice pa n pc, .int .i64 over] 25)).heap.size := by simp
      rw [e]; exact heap_alloc_new _ _)
  have BK : Hid (∀ W : World, Below (w.heap.size + 2) X W → W.heap[w.heap.size]? = some (.cells #[.string op, .string on, .slice la ln lc, .int .i64 opr, .int .i64 odl, .slice pa n pc, .int .i64 over] 25 (0, 0)) ∧ W.heap[w.heap.size + 1]? = some (.cells #[.string ⟨#[]⟩, .string ⟨#[]⟩, .slice none 0 0, .int .i64 0, .int .i64 0, .slice none 0 0, .int .i64 0] 25 (0, 0)) ∧ Below w.heap.size w W) := Lib.hid fun W hb =>
    ⟨by rw [hb.block _ (by omega)]; exact XS.out.2.2.1, by rw [hb.block _ (by omega)]; exact XS.out.2.2.2, XS.out.2.1.trans (hb.mono (by omega))⟩
  have EX := Lib.hid hX
  clear hX
  go_enter Tryz.func10, Tryz.ntmps10
  go_wp2_with fail
  rw [← EX.out]
  clear EX
  go_loopg [3, 4] n (fun g so si wr => ∃ (k : Nat) (a' : Option Addr) (m c : Nat) (rs : List Pr), k ≤ n ∧ g = n - k ∧ si = .int .i64 k ∧ so = .slice a' m c ∧ OwnR kPt (w.heap.size + 2) wr (.slice a' m c) rs ∧ Nst (w.heap.size + 2) wr rs (ops.take k) ∧ Below (w.heap.size + 2) X wr)
  case atStart => exact ⟨0, none, 0, 0, [], Nat.zero_le _, rfl, rfl, rfl, OwnR.nil _ _ _, ⟨rfl, fun k hk => by simp at hk⟩, Below.refl _ _⟩
  case round =>
    obtain ⟨k, a', m, c, rs, hk, hg, rfl, rfl, ho, hN, hb⟩ := hrel
    have R : Hid (gk = n - k ∧ OwnR kPt (w.heap.size + 2) wr (.slice a' m c) rs ∧ Nst (w.heap.size + 2) wr rs (ops.take k) ∧ Below (w.heap.size + 2) X wr) := Lib.hid ⟨hg, ho, hN, hb⟩
    have z5 : wr.cell? ⟨w.heap.size, 5, none⟩ = some (.slice pa n pc) := cell_of_row wr _ 5 _ _ _ (BK.out wr hb).1
    clear hg ho hN hb
    by_cases hlt : k < n
    · have hlt' : (k : Int) < (n : Int) := by omega
      have hkl : k < ops.length := by rw [← HN.out.2]; exact hlt
      obtain ⟨pb, off, ⟨ra, rn, rc⟩, ⟨sa, sn, sc⟩, rfl, c0, c1, c2, rr, rs1⟩ := (HV.out.2.below (BK.out wr R.out.2.2.2).2.2).at k hkl
      have RR : Hid (∀ W, Below wr.heap.size wr W → Row kAm W (.slice ra rn rc) (ops.getD k ⟨⟨#[]⟩, [], []⟩).r ∧ Row kAm W (.slice sa sn sc) (ops.getD k ⟨⟨#[]⟩, [], []⟩).l) := Lib.hid fun W hb => ⟨rr.below hb, rs1.below hb⟩
      simp only [Sl.v] at c1 c2
      have ST := Lib.hid (take_onez ops k ⟨⟨#[]⟩, [], []⟩ hkl)
      have LZ := Lib.hid (HZ.out.2.2 _ (getD_in (d := ⟨⟨#[]⟩, [], []⟩) hkl))
      obtain ⟨⟨xn, xr, xl⟩, hx⟩ : ∃ x, x = ops.getD k ⟨⟨#[]⟩, [], []⟩ := ⟨_, rfl⟩
      rw [← hx] at c0 RR ST LZ
      simp only at c0 RR LZ
      clear hx rr rs1 hkl
      have L1 : Hid ((([] : List Am).length + xr.length) * kAm.b ≤ 140737488355328) := Lib.hid (by have := LZ.out.1; show (0 + _) * 24 ≤ _; omega)
      have L2 : Hid ((([] : List Am).length + xl.length) * kAm.b ≤ 140737488355328) := Lib.hid (by have := LZ.out.2; show (0 + _) * 24 ≤ _; omega)
      have L3 : Hid ((rs.length + 1) * kPt.b ≤ 140737488355328) := Lib.hid (by
        have h1 := R.out.2.2.1.1
        rw [List.length_take] at h1
        have h2 := HZ.out.2.1
        simp only at h2
        have h3 := HN.out.2
        show (_ + 1) * 64 ≤ _
        omega)
      have AL : Hid (∀ o, wr.heap.size + 1 ≤ (wr.alloc o).heap.size ∧ Below wr.heap.size wr (wr.alloc o) ∧ (wr.alloc o).heap[wr.heap.size]? = some o) := Lib.hid fun o => ⟨by simp, (below_alR wr).out o, heap_alloc_new _ _⟩
      have M1 : True := trivial
      have M2 : True := trivial
      have M3 : True := trivial
      go_wp2_with (first
        | (at_builtin; clear M1; refine app_rows okAm (B := wr.heap.size + 1) (v := .slice none 0 0) (u := .slice ra rn rc) (l := []) (m := xr) rfl _ _ rfl rfl (OwnR.nil _ _ _) (AL.out _).1 rfl (RR.out _ (AL.out _).2.1).1 L1.out ?_; intro v1 w1 h1 g1; rw [List.nil_append] at h1; obtain ⟨a1, d1, rfl⟩ := h1.slice
           have hr1 : w1.heap[wr.heap.size]? = some (.cells #[.string xn, .slice ra rn rc, .slice sa sn sc] 35 (0, 0)) := (g1.block _ (AL.out _).1 (by simp [Value.ownBlock])).trans (AL.out _).2.2
           have B1 := Lib.hid ((AL.out _).2.1.grown g1 (AL.out _).2.1.size (fun j hj => by simp [Value.ownBlock] at hj))
           have O1 := Lib.hid h1
           have e0 : w1.cell? ⟨wr.heap.size, 0, none⟩ = some (.string xn) := cell_of_row w1 wr.heap.size 0 _ _ _ hr1
           have e1 : w1.cell? ⟨wr.heap.size, 1, none⟩ = some (.slice ra rn rc) := cell_of_row w1 wr.heap.size 1 _ _ _ hr1
           have e2 : w1.cell? ⟨wr.heap.size, 2, none⟩ = some (.slice sa sn sc) := cell_of_row w1 wr.heap.size 2 _ _ _ hr1
           have f1 := frozen_row hr1 1
           have f2 := frozen_row hr1 2
           have y0 : (w1.setCell ⟨wr.heap.size, 1, none⟩ (.slice a1 xr.length d1)).cell? ⟨wr.heap.size, 0, none⟩ = some (.string xn) := by go_simp
           have y1 : (w1.setCell ⟨wr.heap.size, 1, none⟩ (.slice a1 xr.length d1)).cell? ⟨wr.heap.size, 1, none⟩ = some (.slice a1 xr.length d1) := by go_simp
           have y2 : (w1.setCell ⟨wr.heap.size, 1, none⟩ (.slice a1 xr.length d1)).cell? ⟨wr.heap.size, 2, none⟩ = some (.slice sa sn sc) := by go_simp
           have k2 : (w1.setCell ⟨wr.heap.size, 1, none⟩ (.slice a1 xr.length d1)).frozen? ⟨wr.heap.size, 2, none⟩ = false := by go_simp
           have S2 : Hid (wr.heap.size + 1 ≤ (w1.setCell ⟨wr.heap.size, 1, none⟩ (.slice a1 xr.length d1)).heap.size ∧ Below wr.heap.size wr (w1.setCell ⟨wr.heap.size, 1, none⟩ (.slice a1 xr.length d1)) ∧ OwnR kAm (wr.heap.size + 1) (w1.setCell ⟨wr.heap.size, 1, none⟩ (.slice a1 xr.length d1)) (.slice a1 xr.length d1) xr) := Lib.hid ⟨by rw [set_size]; exact block_lt_of_cell e0, B1.out.setCell (p := ⟨wr.heap.size, 1, none⟩) (Nat.le_refl _) _, O1.out.grownO (grown_set w1 wr.heap.size 1 _) (fun k e q => by have := (O1.out.lt k e).1; injection q with q; omega)⟩
           have Y := Lib.hid (And.intro y0 (And.intro y1 (And.intro y2 k2)))
           clear h1 g1 hr1 y0 y1 k2)
        | (at_builtin; clear M2; refine app_rows okAm (B := wr.heap.size + 1) (v := .slice none 0 0) (u := .slice sa sn sc) (l := []) (m := xl) rfl _ _ rfl rfl (OwnR.nil _ _ _) S2.out.1 rfl (RR.out _ S2.out.2.1).2 L2.out ?_; intro v2 w3 h2 g2; rw [List.nil_append] at h2; obtain ⟨a2, d2, rfl⟩ := h2.slice
           have p0 : w3.cell? ⟨wr.heap.size, 0, none⟩ = some (.string xn) := g2.cell Y.out.1 (by simp [Value.ownBlock])
           have p1 : w3.cell? ⟨wr.heap.size, 1, none⟩ = some (.slice a1 xr.length d1) := g2.cell Y.out.2.1 (by simp [Value.ownBlock])
           have p2 : w3.cell? ⟨wr.heap.size, 2, none⟩ = some (.slice sa sn sc) := g2.cell Y.out.2.2.1 (by simp [Value.ownBlock])
           have p3 : w3.frozen? ⟨wr.heap.size, 2, none⟩ = false := frozen_grown g2 Y.out.2.2.2 S2.out.1 (by simp [Value.ownBlock])
           have O3 : Hid (OwnR kAm (wr.heap.size + 1) w3 (.slice a1 xr.length d1) xr ∧ OwnR kAm (wr.heap.size + 1) w3 (.slice a2 xl.length d2) xl ∧ Below wr.heap.size wr w3) := Lib.hid ⟨S2.out.2.2.grownO g2 (fun k e q => by simp [Value.ownBlock] at q), h2, S2.out.2.1.grown g2 S2.out.2.1.size (fun j hj => by simp [Value.ownBlock] at hj)⟩
           have S4 : Hid (OwnR kAm (wr.heap.size + 1) (w3.setCell ⟨wr.heap.size, 2, none⟩ (.slice a2 xl.length d2)) (.slice a1 xr.length d1) xr ∧ OwnR kAm (wr.heap.size + 1) (w3.setCell ⟨wr.heap.size, 2, none⟩ (.slice a2 xl.length d2)) (.slice a2 xl.length d2) xl ∧ Below wr.heap.size wr (w3.setCell ⟨wr.heap.size, 2, none⟩ (.slice a2 xl.length d2)) ∧ (w3.setCell ⟨wr.heap.size, 2, none⟩ (.slice a2 xl.length d2)).heap.size = w3.heap.size) := Lib.hid ⟨O3.out.1.grownO (grown_set w3 wr.heap.size 2 _) (fun k e q => by have := (O3.out.1.lt k e).1; injection q with q; omega), O3.out.2.1.grownO (grown_set w3 wr.heap.size 2 _) (fun k e q => by have := (O3.out.2.1.lt k e).1; injection q with q; omega), O3.out.2.2.setCell (p := ⟨wr.heap.size, 2, none⟩) (Nat.le_refl _) _, set_size _ _ _⟩
           have S5 : Hid (OwnR kPt (w.heap.size + 2) (w3.setCell ⟨wr.heap.size, 2, none⟩ (.slice a2 xl.length d2)) (.slice a' m c) rs ∧ Nst (w.heap.size + 2) (w3.setCell ⟨wr.heap.size, 2, none⟩ (.slice a2 xl.length d2)) rs (ops.take k) ∧ w.heap.size + 2 ≤ (w3.setCell ⟨wr.heap.size, 2, none⟩ (.slice a2 xl.length d2)).heap.size) := Lib.hid ⟨R.out.2.1.below S4.out.2.2.1, R.out.2.2.1.below S4.out.2.2.1, by have h1 := R.out.2.2.2.size; have h2 := S4.out.2.2.1.size; have h3 := XS.out.1; omega⟩
           clear h2 g2 Y S2 O1 B1 e0 e1 e2 f1 f2 y2)
        | (at_builtin; clear M3; refine app_rowB okPt (gg := w3.heap.size) rfl _ _ rfl rfl S5.out.1 S5.out.2.2 ⟨xn, ⟨a1, xr.length, d1⟩, ⟨a2, xl.length, d2⟩⟩ (by rw [set_size]) rfl rfl L3.out ?_; intro v' w' h1 h2))
      obtain ⟨a3, d3, rfl⟩ := h1.slice
      have A : Hid (OwnR kPt (w.heap.size + 2) w' (.slice a3 (rs ++ [_]).length d3) (rs ++ [⟨xn, ⟨a1, xr.length, d1⟩, ⟨a2, xl.length, d2⟩⟩]) ∧ Nst (w.heap.size + 2) w' (rs ++ [⟨xn, ⟨a1, xr.length, d1⟩, ⟨a2, xl.length, d2⟩⟩]) (ops.take (k + 1)) ∧ Below (w.heap.size + 2) X w') := Lib.hid (by
        have hw2 : w.heap.size + 2 ≤ wr.heap.size + 1 := by have h1 := R.out.2.2.2.size; have h3 := XS.out.1; omega
        have n0 : Nst (w.heap.size + 2) (w3.setCell ⟨wr.heap.size, 2, none⟩ (.slice a2 xl.length d2)) (rs ++ [⟨xn, ⟨a1, xr.length, d1⟩, ⟨a2, xl.length, d2⟩⟩]) (ops.take (k + 1)) := by
          rw [ST.out]
          exact S5.out.2.1.snoc rfl (S4.out.1.mono hw2) (S4.out.2.1.mono hw2)
        have b4 : Below (w.heap.size + 2) X (w3.setCell ⟨wr.heap.size, 2, none⟩ (.slice a2 xl.length d2)) := R.out.2.2.2.trans (S4.out.2.2.1.mono (by have h1 := R.out.2.2.2.size; have h3 := XS.out.1; omega))
        exact ⟨h1, n0.grown S5.out.1 h2, b4.grown h2 S5.out.2.2 (fun j hj => (S5.out.1.lt j hj).1)⟩)
      clear h1 h2
      go_wp2_with fail
      go_roundg (n - (k + 1))
      case measure => have := R.out.1; omega
      case rel => exact ⟨k + 1, a3, _, d3, _, by omega, rfl, by go_num, rfl, A.out.1, A.out.2.1, A.out.2.2⟩
    · have EK : Hid (ops.take k = ops) := Lib.hid (List.take_of_length_le (by rw [← HN.out.2]; omega))
      have hr := (BK.out wr R.out.2.2.2)
      have z0 : wr.cell? ⟨w.heap.size, 0, none⟩ = some (.string op) := cell_of_row wr _ 0 _ _ _ hr.1
      have z1 : wr.cell? ⟨w.heap.size, 1, none⟩ = some (.string on) := cell_of_row wr _ 1 _ _ _ hr.1
      have z2 : wr.cell? ⟨w.heap.size, 2, none⟩ = some (.slice la ln lc) := cell_of_row wr _ 2 _ _ _ hr.1
      have z3 : wr.cell? ⟨w.heap.size, 3, none⟩ = some (.int .i64 opr) := cell_of_row wr _ 3 _ _ _ hr.1
      have z4 : wr.cell? ⟨w.heap.size, 4, none⟩ = some (.int .i64 odl) := cell_of_row wr _ 4 _ _ _ hr.1
      have z6 : wr.cell? ⟨w.heap.size, 6, none⟩ = some (.int .i64 over) := cell_of_row wr _ 6 _ _ _ hr.1
      have f5 := frozen_row hr.1 5
      have f2 := frozen_row hr.1 2
      have y0 : (wr.setCell ⟨w.heap.size, 5, none⟩ (.slice a' m c)).cell? ⟨w.heap.size, 0, none⟩ = some (.string op) := by go_simp
      have y1 : (wr.setCell ⟨w.heap.size, 5, none⟩ (.slice a' m c)).cell? ⟨w.heap.size, 1, none⟩ = some (.string on) := by go_simp
      have y2 : (wr.setCell ⟨w.heap.size, 5, none⟩ (.slice a' m c)).cell? ⟨w.heap.size, 2, none⟩ = some (.slice la ln lc) := by go_simp
      have y3 : (wr.setCell ⟨w.heap.size, 5, none⟩ (.slice a' m c)).cell? ⟨w.heap.size, 3, none⟩ = some (.int .i64 opr) := by go_simp
      have y4 : (wr.setCell ⟨w.heap.size, 5, none⟩ (.slice a' m c)).cell? ⟨w.heap.size, 4, none⟩ = some (.int .i64 odl) := by go_simp
      have y5 : (wr.setCell ⟨w.heap.size, 5, none⟩ (.slice a' m c)).cell? ⟨w.heap.size, 5, none⟩ = some (.slice a' m c) := by go_simp
      have y6 : (wr.setCell ⟨w.heap.size, 5, none⟩ (.slice a' m c)).cell? ⟨w.heap.size, 6, none⟩ = some (.int .i64 over) := by go_simp
      have yf : (wr.setCell ⟨w.heap.size, 5, none⟩ (.slice a' m c)).frozen? ⟨w.heap.size, 2, none⟩ = false := by go_simp
      have Y := Lib.hid (And.intro y0 (And.intro y1 (And.intro y2 (And.intro y3 (And.intro y4 (And.intro y5 (And.intro y6 yf)))))))
      have WS : Hid (w.heap.size + 2 ≤ wr.heap.size) := Lib.hid (by have h1 := R.out.2.2.2.size; have h3 := XS.out.1; omega)
      have zr := (grown_set wr w.heap.size 5 (.slice a' m c)).block (w.heap.size + 1) (by have := WS.out; omega) (by intro e; injection e with e; omega)
      have S1 : Hid (w.heap.size + 2 ≤ (wr.setCell ⟨w.heap.size, 5, none⟩ (.slice a' m c)).heap.size ∧ Below w.heap.size w (wr.setCell ⟨w.heap.size, 5, none⟩ (.slice a' m c)) ∧ OwnR kPt (w.heap.size + 2) (wr.setCell ⟨w.heap.size, 5, none⟩ (.slice a' m c)) (.slice a' m c) rs ∧ Nst (w.heap.size + 2) (wr.setCell ⟨w.heap.size, 5, none⟩ (.slice a' m c)) rs ops ∧ (wr.setCell ⟨w.heap.size, 5, none⟩ (.slice a' m c)).heap[w.heap.size + 1]? = some (.cells #[.string ⟨#[]⟩, .string ⟨#[]⟩, .slice none 0 0, .int .i64 0, .int .i64 0, .slice none 0 0, .int .i64 0] 25 (0, 0))) := Lib.hid (by
        refine ⟨by rw [set_size]; exact WS.out, hr.2.2.setCell (p := ⟨w.heap.size, 5, none⟩) (Nat.le_refl _) _, R.out.2.1.grownO (grown_set wr w.heap.size 5 _) (fun k e q => by have := (R.out.2.1.lt k e).1; injection q with q; omega), ?_, by rw [zr]; exact hr.2.1⟩
        have q := R.out.2.2.1
        rw [EK.out] at q
        exact ⟨q.1, fun k hk => ⟨(q.2 k hk).1, (q.2 k hk).2.1.grownO (grown_set wr w.heap.size 5 _) (fun j e t => by have := ((q.2 k hk).2.1.lt j e).1; injection t with t; omega), (q.2 k hk).2.2.grownO (grown_set wr w.heap.size 5 _) (fun j e t => by have := ((q.2 k hk).2.2.lt j e).1; injection t with t; omega)⟩⟩)
      have L1 : Hid ((([] : List (ByteArray × ByteArray)).length + ols.length) * kLb.b ≤ 140737488355328) := Lib.hid (by have := HZ.out.1; simp only at this; show (0 + _) * 32 ≤ _; omega)
      have ON : Hid (∀ a5 d5, (#[.string op, .string on, .slice a5 ln d5, .int .i64 opr, .int .i64 odl, .slice a' m c, .int .i64 over] : Array Value).all (·.oneCell') = true) := Lib.hid (fun a5 d5 => by simp [Value.oneCell'])
      clear hr zr y0 y1 y3 y4 y5 y6 yf z0 z1 z2 z3 z4 z6
      have M1 : True := trivial
      have M2 : True := trivial
      go_wp2_with (first
        | (at_builtin; clear M1; refine app_rows okLb (B := w.heap.size + 2) (v := .slice none 0 0) (u := .slice la ln lc) (l := []) (m := ols) rfl _ _ rfl rfl (OwnR.nil _ _ _) S1.out.1 rfl (HV.out.1.below S1.out.2.1) L1.out ?_; intro v5 w5 h5 g5; rw [List.nil_append] at h5; obtain ⟨a5, d5, ee⟩ := h5.slice; rw [← HN.out.1] at ee; subst ee
           have p0 : w5.cell? ⟨w.heap.size, 0, none⟩ = some (.string op) := g5.cell Y.out.1 (by simp [Value.ownBlock])
           have p1 : w5.cell? ⟨w.heap.size, 1, none⟩ = some (.string on) := g5.cell Y.out.2.1 (by simp [Value.ownBlock])
           have p2 : w5.cell? ⟨w.heap.size, 2, none⟩ = some (.slice la ln lc) := g5.cell Y.out.2.2.1 (by simp [Value.ownBlock])
           have p3 : w5.cell? ⟨w.heap.size, 3, none⟩ = some (.int .i64 opr) := g5.cell Y.out.2.2.2.1 (by simp [Value.ownBlock])
           have p4 : w5.cell? ⟨w.heap.size, 4, none⟩ = some (.int .i64 odl) := g5.cell Y.out.2.2.2.2.1 (by simp [Value.ownBlock])
           have p5 : w5.cell? ⟨w.heap.size, 5, none⟩ = some (.slice a' m c) := g5.cell Y.out.2.2.2.2.2.1 (by simp [Value.ownBlock])
           have p6 : w5.cell? ⟨w.heap.size, 6, none⟩ = some (.int .i64 over) := g5.cell Y.out.2.2.2.2.2.2.1 (by simp [Value.ownBlock])
           have pf : w5.frozen? ⟨w.heap.size, 2, none⟩ = false := frozen_grown g5 Y.out.2.2.2.2.2.2.2 (by have := S1.out.1; simp only; omega) (by simp [Value.ownBlock])
           have S5 : Hid (Below w.heap.size w w5 ∧ OwnR kLb (w.heap.size + 2) w5 (.slice a5 ln d5) ols ∧ OwnR kPt (w.heap.size + 2) w5 (.slice a' m c) rs ∧ Nst (w.heap.size + 2) w5 rs ops ∧ w5.heap[w.heap.size + 1]? = some (.cells #[.string ⟨#[]⟩, .string ⟨#[]⟩, .slice none 0 0, .int .i64 0, .int .i64 0, .slice none 0 0, .int .i64 0] 25 (0, 0)) ∧ w.heap.size + 2 ≤ w5.heap.size) := Lib.hid (by
             have hb : Below (wr.setCell ⟨w.heap.size, 5, none⟩ (.slice a' m c)).heap.size (wr.setCell ⟨w.heap.size, 5, none⟩ (.slice a' m c)) w5 := ⟨g5.os, g5.tape, g5.output, g5.size, fun k hk => g5.block k hk (by simp [Value.ownBlock])⟩
             exact ⟨S1.out.2.1.trans (hb.mono S1.out.2.1.size), h5, S1.out.2.2.1.below hb, S1.out.2.2.2.1.below hb, by rw [hb.block _ (by have := S1.out.1; omega)]; exact S1.out.2.2.2.2, by have h1 := S1.out.1; have h2 := hb.size; omega⟩)
           have zr : (w5.setCell ⟨w.heap.size, 2, none⟩ (.slice a5 ln d5)).heap[w.heap.size + 1]? = some (.cells #[.string ⟨#[]⟩, .string ⟨#[]⟩, .slice none 0 0, .int .i64 0, .int .i64 0, .slice none 0 0, .int .i64 0] 25 (0, 0)) := by
             rw [(grown_set w5 w.heap.size 2 _).block (w.heap.size + 1) (by have := S5.out.2.2.2.2.2; omega) (by intro e; injection e with e; omega)]
             exact S5.out.2.2.2.2.1
           have ZR := Lib.hid zr
           clear h5 g5 Y y2 zr)
        | (clear M2; refine wpList_store_row rfl 25 (.tmp 2) (.tmp 36) rfl (w.heap.size + 1) #[.string op, .string on, .slice a5 ln d5, .int .i64 opr, .int .i64 odl, .slice a' m c, .int .i64 over] rfl rfl 25 #[.string ⟨#[]⟩, .string ⟨#[]⟩, .slice none 0 0, .int .i64 0, .int .i64 0, .slice none 0 0, .int .i64 0] ZR.out size_obj rfl (ON.out _ _) ?_))
      have em : m = n := by
        obtain ⟨q1, q2, e⟩ := S5.out.2.2.1.slice
        simp only [Value.slice.injEq] at e
        rw [e.2.1, S5.out.2.2.2.1.1, HN.out.2]
      refine bodyPost_ret (results_cell_row rfl _ _ (w.heap.size + 1) 25 #[.string op, .string on, .slice a5 ln d5, .int .i64 opr, .int .i64 odl, .slice a' m c, .int .i64 over] (0, 0) _ rfl (setRow_heap _ _ _ _ _ _ ZR.out) Tryz.underlying25 rfl size_obj) rfl ?_
      subst em
      have g1 := grown_set w5 w.heap.size 2 (.slice a5 ln d5)
      have g2 := grown_row (w5.setCell ⟨w.heap.size, 2, none⟩ (.slice a5 ln d5)) (w.heap.size + 1) #[.string op, .string on, .slice a5 ln d5, .int .i64 opr, .int .i64 odl, .slice a' m c, .int .i64 over]
      refine ⟨a5, d5, a', c, rfl, OwO.mk (o := ⟨op, on, ols, opr, odl, ops, over⟩) ((S5.out.2.1.far g1 (by omega)).far g2 (by omega)) ((S5.out.2.2.1.far g1 (by omega)).far g2 (by omega)) ((S5.out.2.2.2.1.far g1 (by omega)).far g2 (by omega)) (by omega), ?_⟩
      have b1 : Below w.heap.size w (w5.setCell ⟨w.heap.size, 2, none⟩ (.slice a5 ln d5)) := S5.out.1.setCell (p := ⟨w.heap.size, 2, none⟩) (Nat.le_refl _) _
      exact b1.grown g2 (by rw [set_size]; have := S5.out.2.2.2.2.2; omega) (fun j hj => by cases hj; omega)
end Go.Proofs.YtodfmnbfbndkhaaGreatDoor
