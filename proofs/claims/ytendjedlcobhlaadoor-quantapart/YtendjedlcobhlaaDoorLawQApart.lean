/-
  The law QuantApart.
-/
import Derived.Test.YtendjedlcobhlaaDoorApB
import Derived.RegionTactic
import Derived.Deep.RegionLaw
namespace Go.Proofs.YtendjedlcobhlaaDoor
open Go.RowKit Go.Lib
open Go.Sort (grow)
/-- What the lists are written full with; what is laid behind. -/
def eA (i : Nat) : Am := ⟨⟨#[119]⟩, 100 + (i : Int)⟩
def fA (i : Nat) : Am := ⟨⟨#[118]⟩, 200 + (i : Int)⟩
def mA (m : Amt) : Am := ⟨m.1, m.2⟩
theorem nr_len (l : List Am) : (nrL l).length ≤ 16 := by
  by_cases h : nrE l = 0
  · exact (ams_parts (nr_told h).1).1
  · have e : nrL l = [] := by
      unfold nrE at h
      unfold nrL
      repeat' split
      all_goals first | rfl | (simp_all; done)
    rw [e]; simp
theorem mn_len (l t : List Am) : (mnL l t).length ≤ 16 := by
  unfold mnL
  split
  · split
    · exact nr_len _
    · simp
  · simp
theorem six_len (l t : List Am) : ∀ q, (([nrL l, nrL l, plL l t, plL l t, mnL l t, mnL l []] : List (List Am)).getD q []).length ≤ 16 := by
  intro q
  match q with
  | 0 => exact nr_len l
  | 1 => exact nr_len l
  | 2 => exact (plus_told l t).1
  | 3 => exact (plus_told l t).1
  | 4 => exact mn_len l t
  | 5 => exact mn_len l []
  | q + 6 => exact Nat.zero_le _
theorem all_same {L : List Am} {N : Nat} {e : Am} (hl : L.length = N) (h : ∀ p, p < N → L.getD p kAm.z = e) : L = List.replicate N e := by
  apply List.ext_getElem
  · simpa using hl
  · intro p h1 h2
    have q := h p (by omega)
    rw [getD_ge _ _ _ h1] at q
    simp [q]
theorem app_heap {g7 g8 : Nat} {W0 W W' : World} {vs : List Value} {Ls : List (List Am)} {sz : List Nat} (h : Sy g7 g8 W0 W vs Ls sz) (i : Nat) (hi : i < 6) {v : Value} (hv : vs.getD i nilV = v) (hg : W.grownBy W' v.ownBlock) : W'.heap[g7]? = some (.cells vs.toArray 25 (0, 0)) :=
  ((grown_kept hg).block g7 h.x.lt (fun e => by have oi := h.x.own i hi; rw [hv] at oi; have := (oi.lt g7 e.symm).1; omega)).trans h.x.box
theorem app_cell {g7 g8 : Nat} {W0 W W' : World} {vs : List Value} {Ls : List (List Am)} {sz : List Nat} (h : Sy g7 g8 W0 W vs Ls sz) (i : Nat) (hi : i < 6) {v : Value} (hv : vs.getD i nilV = v) (hg : W.grownBy W' v.ownBlock) : W'.cell? ⟨g7, i, none⟩ = some v := by
  have hh := app_heap h i hi hv hg
  have : vs[i]? = some v := by
    rw [← hv, List.getD_eq_getElem?_getD, List.getElem?_eq_getElem (by rw [h.x.vl]; exact hi)]; rfl
  unfold World.cell?
  rw [hh]
  simpa using this
theorem app_frozen {g7 g8 : Nat} {W0 W W' : World} {vs : List Value} {Ls : List (List Am)} {sz : List Nat} (h : Sy g7 g8 W0 W vs Ls sz) (i : Nat) (hi : i < 6) {v : Value} (hv : vs.getD i nilV = v) (hg : W.grownBy W' v.ownBlock) : W'.frozen? ⟨g7, i, none⟩ = false := frozen_row (app_heap h i hi hv hg) i
set_option maxHeartbeats 16000000 in
set_option maxRecDepth 100000 in
theorem apart_core (v u : Value) (l t : List Am) (m : Amt) (n n' : Nat) (w : World) (G : Glob w) (hm : Mark w m) (hv : Row kAm w v l) (hu : Row kAm w u t) (hz : (n + 1) * 24 ≤ 140737488355328) (hz' : (n' + 1) * 24 ≤ 140737488355328) (hf : ∀ x ∈ l, x.v ≤ 9223372036854775807) (hf' : ∀ x ∈ t, x.v ≤ 9223372036854775807) (hn : n = l.length) (hn' : n' = t.length) :
    Calls Tryd.prog 3 #[v, u] w fun e w' => e = .returned (.bool true) ∧ Below w.heap.size w w' := by
  have K := Lib.hid (known_ok w G)
  have V0 := Lib.hid hv
  have U0 := Lib.hid hu
  have M0 := Lib.hid hm
  have ZZ := Lib.hid (And.intro hz hz')
  have FF := Lib.hid (And.intro hf hf')
  have HN := Lib.hid (And.intro hn hn')
  obtain ⟨va, vc, rfl, hv1, hv2⟩ := row_spare hv hn
  obtain ⟨ua, uc, rfl, hu1, hu2⟩ := row_spare hu hn'
  have n1 : (n : Int) ≤ 5864062014806 := by omega
  have n2 : (n' : Int) ≤ 5864062014806 := by omega
  clear G hv hu hm hz hz' hf hf' hn hn'
  go_enter Tryd.func3, Tryd.ntmps3
  go_wp2_with fail
  refine K.out.mono ?_
  rintro e w1 ⟨rfl, hb⟩
  have B1 := Lib.hid hb
  clear hb K
  go_wp2_with fail
  refine (behind_full _ l m w1 n HN.out.1 (V0.out.below B1.out) (M0.out.below B1.out) ZZ.out.1).mono ?_
  rintro e w2 ⟨gx, cx, rfl, hx1, hx2, hr, ha, hb⟩
  have B2 := Lib.hid (B1.out.trans (hb.mono B1.out.size))
  have X2 := Lib.hid (And.intro hr ha)
  clear hb hr ha B1
  go_wp2_with fail
  refine (behind_full _ t m w2 n' HN.out.2 (U0.out.below B2.out) (M0.out.below B2.out) ZZ.out.2).mono ?_
  rintro e w3 ⟨gy, cy, rfl, hy1, hy2, hr, ha, hb⟩
  have B3 := Lib.hid (B2.out.trans (hb.mono B2.out.size))
  have X3 := Lib.hid (And.intro (X2.out.1.below hb) (X2.out.2.below hb))
  have Y3 := Lib.hid (And.intro hr ha)
  clear hb hr ha B2 X2
  obtain ⟨g7, hg7⟩ : ∃ g, g = w3.heap.size := ⟨_, rfl⟩
  have G7 := Lib.hid hg7
  have RX : Hid (∀ W, Below g7 w3 W → Row kAm W (.slice (some ⟨gx, 0, none⟩) n cx) l ∧ Row kAm W (.slice (some ⟨gy, 0, none⟩) n' cy) t) := Lib.hid fun W h => by rw [hg7] at h; exact ⟨X3.out.1.below h, Y3.out.1.below h⟩
  have NM : Hid (∀ W, Below g7 w3 W → Calls Tryd.prog 10 #[.slice (some ⟨gx, 0, none⟩) n cx] W fun e w' => ∃ a k c, e = .returned (.tuple #[.slice a k c, .int .i64 (nrE l)]) ∧ OwnR kAm W.heap.size w' (.slice a k c) (nrL l) ∧ Below W.heap.size W w') := Lib.hid fun W h => normal_any _ l W (RX.out W h).1 (plain_of _ _ _) (by have := ZZ.out.1; have := HN.out.1; omega) FF.out.1
  have PL : Hid (∀ W, Below g7 w3 W → Calls Tryd.prog 11 #[.slice (some ⟨gx, 0, none⟩) n cx, .slice (some ⟨gy, 0, none⟩) n' cy] W fun e w' => ∃ a k c, e = .returned (.tuple #[.slice a k c, .int .i64 (plE l t)]) ∧ OwnR kAm W.heap.size w' (.slice a k c) (plL l t) ∧ Below W.heap.size W w') := Lib.hid fun W h => plus_all _ _ l t W (RX.out W h).1 (RX.out W h).2 FF.out.1 FF.out.2
  have MI : Hid (∀ W, Below g7 w3 W → Calls Tryd.prog 12 #[.slice (some ⟨gx, 0, none⟩) n cx, .slice (some ⟨gy, 0, none⟩) n' cy] W fun e w' => ∃ a k c, e = .returned (.tuple #[.slice a k c, .int .i64 (mnE l t)]) ∧ OwnR kAm W.heap.size w' (.slice a k c) (mnL l t) ∧ Below W.heap.size W w') := Lib.hid fun W h => minus_any _ _ l t W (RX.out W h).1 (plain_of _ _ _) (RX.out W h).2 FF.out.1 FF.out.2
  have M0' : Hid (∀ W, Below g7 w3 W → Calls Tryd.prog 12 #[.slice (some ⟨gx, 0, none⟩) n cx, .slice none 0 0] W fun e w' => ∃ a k c, e = .returned (.tuple #[.slice a k c, .int .i64 (mnE l [])]) ∧ OwnR kAm W.heap.size w' (.slice a k c) (mnL l []) ∧ Below W.heap.size W w') := Lib.hid fun W h => minus_any _ _ l [] W (RX.out W h).1 (plain_of _ _ _) (Row.nil W) FF.out.1 (fun x hx => by cases hx)
  have i1 : (n : Int) ≤ (cx : Int) := by omega
  have i2 : (n' : Int) ≤ (cy : Int) := by omega
  obtain ⟨W4, hW4⟩ : ∃ W, W = w3.alloc (.cells #[.slice none 0 0, .slice none 0 0, .slice none 0 0, .slice none 0 0, .slice none 0 0, .slice none 0 0] 25) := ⟨_, rfl⟩
  have S4 : Hid (Sx g7 w3 W4 [.slice none 0 0, .slice none 0 0, .slice none 0 0, .slice none 0 0, .slice none 0 0, .slice none 0 0] [[], [], [], [], [], []]) := Lib.hid (by rw [hW4, hg7]; exact Sx.start w3)
  have EW := Lib.hid hW4
  clear hW4 hg7
  go_wp2_with fail
  rw [← EW.out, ← G7.out]
  clear EW
  refine (NM.out W4 S4.out.bel).mono ?_
  rintro e x0 ⟨a0, k0, c0, rfl, ho, hb⟩
  have SF : Hid (Sx g7 w3 (x0.setCell ⟨g7, 0, none⟩ (.slice a0 k0 c0)) [.slice a0 k0 c0, .slice none 0 0, .slice none 0 0, .slice none 0 0, .slice none 0 0, .slice none 0 0] [nrL l, [], [], [], [], []]) := Lib.hid (S4.out.fill hb ho 0 (by decide))
  have t0 : x0.cell? ⟨g7, 0, none⟩ = some (.slice none 0 0) := ((S4.out.below hb).at 0 (by decide)).1
  have f0 : x0.frozen? ⟨g7, 0, none⟩ = false := ((S4.out.below hb).at 0 (by decide)).2
  clear ho hb
  go_wp2_with fail
  obtain ⟨W5, hW⟩ : ∃ W, W = x0.setCell ⟨g7, 0, none⟩ (.slice a0 k0 c0) := ⟨_, rfl⟩
  have HS : Hid (x0.heap.size = W5.heap.size) := Lib.hid (by rw [hW]; simp [World.setCell])
  rw [← hW] at SF ⊢
  have S5 := SF
  clear hW t0 f0 SF HS
  refine (NM.out W5 S5.out.bel).mono ?_
  rintro e x1 ⟨a1, k1, c1, rfl, ho, hb⟩
  have SF : Hid (Sx g7 w3 (x1.setCell ⟨g7, 1, none⟩ (.slice a1 k1 c1)) [.slice a0 k0 c0, .slice a1 k1 c1, .slice none 0 0, .slice none 0 0, .slice none 0 0, .slice none 0 0] [nrL l, nrL l, [], [], [], []]) := Lib.hid (S5.out.fill hb ho 1 (by decide))
  have t1 : x1.cell? ⟨g7, 1, none⟩ = some (.slice none 0 0) := ((S5.out.below hb).at 1 (by decide)).1
  have f1 : x1.frozen? ⟨g7, 1, none⟩ = false := ((S5.out.below hb).at 1 (by decide)).2
  clear ho hb
  go_wp2_with fail
  obtain ⟨W6, hW⟩ : ∃ W, W = x1.setCell ⟨g7, 1, none⟩ (.slice a1 k1 c1) := ⟨_, rfl⟩
  have HS : Hid (x1.heap.size = W6.heap.size) := Lib.hid (by rw [hW]; simp [World.setCell])
  rw [← hW] at SF ⊢
  have S6 := SF
  clear hW t1 f1 SF HS
  have BD : Hid (Below W6.heap.size W6 W6.drew) := Lib.hid ((Below.refl _ W6).drew)
  have BE : Hid (Below g7 w3 W6.drew) := Lib.hid ((S6.out.below BD.out).bel)
  go_cut [] (fun wx => ∃ a2 k2 c2, Sx g7 w3 wx [.slice a0 k0 c0, .slice a1 k1 c1, .slice a2 k2 c2, .slice none 0 0, .slice none 0 0, .slice none 0 0] [nrL l, nrL l, plL l t, [], [], []])
  case first =>
    go_region_with (go_at_call 11; refine (PL.out _ BE.out).mono ?_; rintro e x2 ⟨a2, k2, c2, rfl, ho, hb⟩; have hb2 := BD.out.trans hb; have SF : Hid (Sx g7 w3 (x2.setCell ⟨g7, 2, none⟩ (.slice a2 k2 c2)) [.slice a0 k0 c0, .slice a1 k1 c1, .slice a2 k2 c2, .slice none 0 0, .slice none 0 0, .slice none 0 0] [nrL l, nrL l, plL l t, [], [], []]) := Lib.hid (S6.out.fill hb2 ho 2 (by decide)); have t2 : x2.cell? ⟨g7, 2, none⟩ = some (.slice none 0 0) := ((S6.out.below hb2).at 2 (by decide)).1; have f2 : x2.frozen? ⟨g7, 2, none⟩ = false := ((S6.out.below hb2).at 2 (by decide)).2; clear ho hb hb2)
    all_goals
      go_wp2_with fail
      go_meet
      exact ⟨a2, k2, c2, SF.out⟩
  case rest =>
    clear BD BE
    obtain ⟨a2, k2, c2, hs⟩ := hcut
    obtain ⟨W7, hwc⟩ : ∃ W, W = wc := ⟨_, rfl⟩
    rw [← hwc] at hs ⊢
    have S7 := Lib.hid hs
    clear hs hwc
    go_wp2_with fail
    have BD : Hid (Below W7.heap.size W7 W7.drew) := Lib.hid ((Below.refl _ W7).drew)
    have BE : Hid (Below g7 w3 W7.drew) := Lib.hid ((S7.out.below BD.out).bel)
    go_cut [] (fun wx => ∃ a3 k3 c3, Sx g7 w3 wx [.slice a0 k0 c0, .slice a1 k1 c1, .slice a2 k2 c2, .slice a3 k3 c3, .slice none 0 0, .slice none 0 0] [nrL l, nrL l, plL l t, plL l t, [], []])
    case first =>
      go_region_with (go_at_call 11; refine (PL.out _ BE.out).mono ?_; rintro e x3 ⟨a3, k3, c3, rfl, ho, hb⟩; have hb2 := BD.out.trans hb; have SF : Hid (Sx g7 w3 (x3.setCell ⟨g7, 3, none⟩ (.slice a3 k3 c3)) [.slice a0 k0 c0, .slice a1 k1 c1, .slice a2 k2 c2, .slice a3 k3 c3, .slice none 0 0, .slice none 0 0] [nrL l, nrL l, plL l t, plL l t, [], []]) := Lib.hid (S7.out.fill hb2 ho 3 (by decide)); have t3 : x3.cell? ⟨g7, 3, none⟩ = some (.slice none 0 0) := ((S7.out.below hb2).at 3 (by decide)).1; have f3 : x3.frozen? ⟨g7, 3, none⟩ = false := ((S7.out.below hb2).at 3 (by decide)).2; clear ho hb hb2)
      all_goals
        go_wp2_with fail
        go_meet
        exact ⟨a3, k3, c3, SF.out⟩
    case rest =>
      clear BD BE
      obtain ⟨a3, k3, c3, hs⟩ := hcut
      obtain ⟨W8, hwc⟩ : ∃ W, W = wc := ⟨_, rfl⟩
      rw [← hwc] at hs ⊢
      have S8 := Lib.hid hs
      clear hs hwc
      go_wp2_with fail
      have BD : Hid (Below W8.heap.size W8 W8.drew) := Lib.hid ((Below.refl _ W8).drew)
      have BE : Hid (Below g7 w3 W8.drew) := Lib.hid ((S8.out.below BD.out).bel)
      go_cut [] (fun wx => ∃ a4 k4 c4, Sx g7 w3 wx [.slice a0 k0 c0, .slice a1 k1 c1, .slice a2 k2 c2, .slice a3 k3 c3, .slice a4 k4 c4, .slice none 0 0] [nrL l, nrL l, plL l t, plL l t, mnL l t, []])
      case first =>
        go_region_with (go_at_call 12; refine (MI.out _ BE.out).mono ?_; rintro e x4 ⟨a4, k4, c4, rfl, ho, hb⟩; have hb2 := BD.out.trans hb; have SF : Hid (Sx g7 w3 (x4.setCell ⟨g7, 4, none⟩ (.slice a4 k4 c4)) [.slice a0 k0 c0, .slice a1 k1 c1, .slice a2 k2 c2, .slice a3 k3 c3, .slice a4 k4 c4, .slice none 0 0] [nrL l, nrL l, plL l t, plL l t, mnL l t, []]) := Lib.hid (S8.out.fill hb2 ho 4 (by decide)); have t4 : x4.cell? ⟨g7, 4, none⟩ = some (.slice none 0 0) := ((S8.out.below hb2).at 4 (by decide)).1; have f4 : x4.frozen? ⟨g7, 4, none⟩ = false := ((S8.out.below hb2).at 4 (by decide)).2; clear ho hb hb2)
        all_goals
          go_wp2_with fail
          go_meet
          exact ⟨a4, k4, c4, SF.out⟩
      case rest =>
        clear BD BE
        obtain ⟨a4, k4, c4, hs⟩ := hcut
        obtain ⟨W9, hwc⟩ : ∃ W, W = wc := ⟨_, rfl⟩
        rw [← hwc] at hs ⊢
        have S9 := Lib.hid hs
        clear hs hwc
        go_wp2_with fail
        refine (M0'.out W9 S9.out.bel).mono ?_
        rintro e x5 ⟨a5, k5, c5, rfl, ho, hb⟩
        have SF : Hid (Sx g7 w3 (x5.setCell ⟨g7, 5, none⟩ (.slice a5 k5 c5)) [.slice a0 k0 c0, .slice a1 k1 c1, .slice a2 k2 c2, .slice a3 k3 c3, .slice a4 k4 c4, .slice a5 k5 c5] [nrL l, nrL l, plL l t, plL l t, mnL l t, mnL l []]) := Lib.hid (S9.out.fill hb ho 5 (by decide))
        have t5 : x5.cell? ⟨g7, 5, none⟩ = some (.slice none 0 0) := ((S9.out.below hb).at 5 (by decide)).1
        have f5 : x5.frozen? ⟨g7, 5, none⟩ = false := ((S9.out.below hb).at 5 (by decide)).2
        clear ho hb
        go_wp2_with fail
        obtain ⟨W10, hW⟩ : ∃ W, W = x5.setCell ⟨g7, 5, none⟩ (.slice a5 k5 c5) := ⟨_, rfl⟩
        have HS : Hid (x5.heap.size = W10.heap.size) := Lib.hid (by rw [hW]; simp [World.setCell])
        rw [← hW] at SF ⊢
        have S10 := SF
        clear hW t5 f5 SF
        obtain ⟨g8, hg8⟩ : ∃ g, g = W10.heap.size := ⟨_, rfl⟩
        obtain ⟨WA, hWA⟩ : ∃ W, W = W10.alloc (.cells #[.int .i64 0, .int .i64 0, .int .i64 0, .int .i64 0, .int .i64 0, .int .i64 0] 30) := ⟨_, rfl⟩
        obtain ⟨VS, hVS⟩ : ∃ VS : List Value, VS = [.slice a0 k0 c0, .slice a1 k1 c1, .slice a2 k2 c2, .slice a3 k3 c3, .slice a4 k4 c4, .slice a5 k5 c5] := ⟨_, rfl⟩
        obtain ⟨LS, hLS⟩ : ∃ LS : List (List Am), LS = [nrL l, nrL l, plL l t, plL l t, mnL l t, mnL l []] := ⟨_, rfl⟩
        have SA : Hid (Sy g7 g8 w3 WA VS LS [0, 0, 0, 0, 0, 0]) := Lib.hid (by rw [hWA, hg8, hVS, hLS]; exact Sy.start S10.out)
        have L16 : Hid (∀ q, (LS.getD q []).length ≤ 16) := Lib.hid (by rw [hLS]; exact six_len l t)
        rw [← hWA, HS.out, ← hg8]
        clear hWA hg8 hVS hLS HS
        go_loopg [9] 6 (fun g si wr => ∃ (i : Nat) (Ls : List (List Am)) (sz : List Nat), g = 6 - i ∧ i ≤ 6 ∧ si = .int .i64 i ∧ Sy g7 g8 w3 wr VS Ls sz ∧ (∀ q, (Ls.getD q []).length = (LS.getD q []).length) ∧ (∀ q, q < i → Ls.getD q [] = List.replicate (LS.getD q []).length (eA q)) ∧ (∀ q, q < i → sz.getD q 0 = (LS.getD q []).length))
        case atStart => exact ⟨0, LS, _, rfl, Nat.zero_le _, rfl, SA.out, (fun _ => rfl), (fun q hq => by omega), (fun q hq => by omega)⟩
        case round =>
          obtain ⟨i, Ls, sz, hg, hi, rfl, hs, hl1, hl2, hl3⟩ := hrel
          have R : Hid (gk = 6 - i ∧ Sy g7 g8 w3 wr VS Ls sz ∧ (∀ q, (Ls.getD q []).length = (LS.getD q []).length) ∧ (∀ q, q < i → Ls.getD q [] = List.replicate (LS.getD q []).length (eA q)) ∧ (∀ q, q < i → sz.getD q 0 = (LS.getD q []).length)) := Lib.hid ⟨hg, hs, hl1, hl2, hl3⟩
          clear hg hs hl1 hl2 hl3
          by_cases hlt : i < 6
          · have hlt' : (i : Int) < 6 := by omega
            obtain ⟨N, hN⟩ : ∃ N, N = (LS.getD i []).length := ⟨_, rfl⟩
            have HL : Hid ((Ls.getD i []).length = N ∧ (LS.getD i []).length = N) := Lib.hid ⟨by rw [hN]; exact R.out.2.2.1 i, hN.symm⟩
            have N16 : N ≤ 16 := by rw [hN]; exact L16.out i
            clear hN
            obtain ⟨av, cv, hav⟩ : ∃ a c, VS.getD i nilV = .slice a N c := by obtain ⟨a, c, e⟩ := (R.out.2.1.x.own i hlt).slice; exact ⟨a, c, by rw [e, HL.out.1]⟩
            have AV := Lib.hid hav
            clear hav
            have t7 : wr.cell? ⟨g7, i, none⟩ = some (.slice av N cv) := by rw [← AV.out]; exact (R.out.2.1.x.at i hlt).1
            obtain ⟨z0, hz0⟩ : ∃ z : Int, z = ((sz.getD i 0 : Nat) : Int) := ⟨_, rfl⟩
            have t8 : wr.cell? ⟨g8, i, none⟩ = some (.int .i64 z0) := by rw [hz0]; exact (R.out.2.1.num i hlt).1
            have f8 := (R.out.2.1.num i hlt).2
            clear hz0
            obtain ⟨W1, hW1⟩ : ∃ W, W = wr.setCell ⟨g8, i, none⟩ (.int .i64 (N : Int)) := ⟨_, rfl⟩
            have S1 : Hid (Sy g7 g8 w3 W1 VS Ls (sz.set i N)) := Lib.hid (by rw [hW1]; exact R.out.2.1.set i N)
            go_wp2_with fail
            rw [← hW1]
            clear hW1 t7 t8 f8
            go_loopg [10] N (fun g sj wr => ∃ (j : Nat) (Ls : List (List Am)), g = N - j ∧ j ≤ N ∧ sj = .int .i64 j ∧ Sy g7 g8 w3 wr VS Ls (sz.set i N) ∧ (∀ q, (Ls.getD q []).length = (LS.getD q []).length) ∧ (∀ q, q < i → Ls.getD q [] = List.replicate (LS.getD q []).length (eA q)) ∧ (∀ p, p < j → (Ls.getD i []).getD p kAm.z = eA i))
            case atStart => exact ⟨0, Ls, rfl, Nat.zero_le _, rfl, S1.out, R.out.2.2.1, R.out.2.2.2.1, (fun p hp => by omega)⟩
            case round =>
              obtain ⟨j, Lt, hg, hj, rfl, hs, hl1, hl2, hl3⟩ := hrel
              have R2 : Hid (gk = N - j ∧ Sy g7 g8 w3 wr VS Lt (sz.set i N) ∧ (∀ q, (Lt.getD q []).length = (LS.getD q []).length) ∧ (∀ q, q < i → Lt.getD q [] = List.replicate (LS.getD q []).length (eA q)) ∧ (∀ p, p < j → (Lt.getD i []).getD p kAm.z = eA i)) := Lib.hid ⟨hg, hs, hl1, hl2, hl3⟩
              clear hg hs hl1 hl2 hl3
              have LN : Hid ((Lt.getD i []).length = N) := Lib.hid ((R2.out.2.2.1 i).trans HL.out.2)
              have t8 : wr.cell? ⟨g8, i, none⟩ = some (.int .i64 (N : Int)) := by have q := (R2.out.2.1.num i hlt).1; rw [getD_setL _ _ _ _ _ (by rw [R.out.2.1.sl]; exact hlt), if_pos rfl] at q; exact q
              have t7 : wr.cell? ⟨g7, i, none⟩ = some (.slice av N cv) := by rw [← AV.out]; exact (R2.out.2.1.x.at i hlt).1
              by_cases hjn : j < N
              · have hjn' : (j : Int) < (N : Int) := by omega
                have OW : Hid (OwnR kAm (g7 + 1) wr (.slice av N cv) (Lt.getD i [])) := Lib.hid (by have q := R2.out.2.1.x.own i hlt; rw [AV.out] at q; exact q)
                obtain ⟨g, ea, -, -, -⟩ := OW.out.someOf (by rw [LN.out]; omega)
                subst ea
                obtain ⟨y, hy⟩ : ∃ y, y = (Lt.getD i []).getD j kAm.z := ⟨_, rfl⟩
                obtain ⟨yn, yv⟩ := y
                obtain ⟨c0, c1, q0, q1⟩ : wr.cell? ⟨g, j * 2, none⟩ = some (.string yn) ∧ wr.cell? ⟨g, j * 2 + 1, none⟩ = some (.int .i64 yv) ∧ wr.frozen? ⟨g, j * 2, none⟩ = false ∧ wr.frozen? ⟨g, j * 2 + 1, none⟩ = false := by
                  obtain ⟨cur, -, -, hq, -⟩ := OW.out.parts
                  obtain ⟨b', off', e', hcc⟩ := (OW.out.row okAm).at j (by rw [LN.out]; exact hjn)
                  simp only [Option.some.injEq, Addr.mk.injEq, and_true] at e'
                  obtain ⟨rfl, rfl⟩ := e'
                  rw [← hy] at hcc
                  have t0 := hcc 0 _ rfl
                  have t1 := hcc 1 _ rfl
                  rw [Nat.zero_add] at t0 t1
                  exact ⟨t0, t1, frozen_row hq _, frozen_row hq _⟩
                have HM : Hid (N ≤ cv ∧ cv ≤ 9223372036854775807) := Lib.hid (by obtain ⟨_, _, e1, p1, p2⟩ := (OW.out.row okAm).len; simp only [Value.slice.injEq] at e1; unfold maxLen at p2; rw [← e1.2.2] at p1 p2; rw [LN.out] at p1; exact ⟨p1, p2⟩)
                have ew : wrap64 (100 + (i : Int)) = 100 + (i : Int) := by unfold wrap64; omega
                obtain ⟨W2, hW2⟩ : ∃ W, W = (wr.setCell ⟨g, j * 2, none⟩ (.string ⟨#[119]⟩)).setCell ⟨g, j * 2 + 1, none⟩ (.int .i64 (100 + (i : Int))) := ⟨_, rfl⟩
                have S2 : Hid (Sy g7 g8 w3 W2 VS (Lt.set i ((Lt.getD i []).set j (eA i))) (sz.set i N)) := Lib.hid (by rw [hW2]; exact R2.out.2.1.put i hlt AV.out j (by rw [LN.out]; exact hjn) (eA i))
                clear hy
                go_wp2_with fail
                rw [← hW2]
                clear hW2 c0 c1 q0 q1 t7 t8
                go_wp2_with fail
                go_roundg (N - (j + 1))
                case measure => have := R2.out.1; omega
                case rel =>
                  refine ⟨j + 1, _, rfl, by omega, by go_num, S2.out, fun q => ?_, fun q hq => ?_, fun p hp => ?_⟩
                  · rw [getD_setL _ _ _ _ _ (by rw [R2.out.2.1.x.ll]; exact hlt)]
                    split
                    · rename_i e; subst e; rw [List.length_set]; exact R2.out.2.2.1 i
                    · exact R2.out.2.2.1 q
                  · rw [getD_setL _ _ _ _ _ (by rw [R2.out.2.1.x.ll]; exact hlt), if_neg (by omega)]; exact R2.out.2.2.2.1 q hq
                  · rw [getD_setL _ _ _ _ _ (by rw [R2.out.2.1.x.ll]; exact hlt), if_pos rfl, getD_setL _ _ _ _ _ (by rw [LN.out]; exact hjn)]
                    split
                    · rfl
                    · exact R2.out.2.2.2.2 p (by omega)
              · have hjn' : ¬ (j : Int) < (N : Int) := by omega
                go_wp2_with fail
                go_roundg (6 - (i + 1))
                case measure => have := R.out.1; omega
                case rel =>
                  refine ⟨i + 1, Lt, sz.set i N, rfl, by omega, by go_num, R2.out.2.1, R2.out.2.2.1, fun q hq => ?_, fun q hq => ?_⟩
                  · by_cases e : q = i
                    · subst e
                      rw [HL.out.2]
                      refine all_same LN.out (fun p hp => R2.out.2.2.2.2 p (by omega))
                    · exact R2.out.2.2.2.1 q (by omega)
                  · rw [getD_setL _ _ _ _ _ (by rw [R.out.2.1.sl]; exact hlt)]
                    split
                    · rename_i e; subst e; exact HL.out.2.symm
                    · exact R.out.2.2.2.2 q (by omega)
          · have hin : ¬ (i : Int) < 6 := by omega
            obtain rfl : i = 6 := by omega
            obtain ⟨WB, hWB⟩ : ∃ W, W = wr := ⟨_, rfl⟩
            rw [← hWB] at R ⊢
            clear hWB
            go_wp2_with fail
            go_loopg [11] 6 (fun g si wr => ∃ (i : Nat) (vs : List Value) (Lt : List (List Am)), g = 6 - i ∧ i ≤ 6 ∧ si = .int .i64 i ∧ Sy g7 g8 w3 wr vs Lt sz ∧ (∀ q, q < i → Lt.getD q [] = List.replicate (LS.getD q []).length (eA q) ++ [fA q, mA m]) ∧ (∀ q, q < 6 → i ≤ q → Lt.getD q [] = List.replicate (LS.getD q []).length (eA q)))
            case atStart => exact ⟨0, VS, Ls, rfl, Nat.zero_le _, rfl, R.out.2.1, (fun q hq => by omega), (fun q hq _ => R.out.2.2.2.1 q hq)⟩
            case round =>
              obtain ⟨i, vs, Lt, hg, hi, rfl, hs, hl1, hl2⟩ := hrel
              have R3 : Hid (gk = 6 - i ∧ Sy g7 g8 w3 wr vs Lt sz ∧ (∀ q, q < i → Lt.getD q [] = List.replicate (LS.getD q []).length (eA q) ++ [fA q, mA m]) ∧ (∀ q, q < 6 → i ≤ q → Lt.getD q [] = List.replicate (LS.getD q []).length (eA q))) := Lib.hid ⟨hg, hs, hl1, hl2⟩
              clear hg hs hl1 hl2
              by_cases hlt : i < 6
              · have hlt' : (i : Int) < 6 := by omega
                obtain ⟨L0, hL0⟩ : ∃ L, L = Lt.getD i [] := ⟨_, rfl⟩
                obtain ⟨N, hN⟩ : ∃ N, N = L0.length := ⟨_, rfl⟩
                have HL0 : Hid (L0 = Lt.getD i [] ∧ L0 = List.replicate (LS.getD i []).length (eA i) ∧ N = L0.length ∧ N ≤ 16) := Lib.hid (by have q := R3.out.2.2.2 i hlt (Nat.le_refl _); rw [← hL0] at q; exact ⟨hL0, q, hN, by rw [hN, q, List.length_replicate]; exact L16.out i⟩)
                clear hL0 hN
                obtain ⟨av, cv, hav⟩ : ∃ a c, vs.getD i nilV = .slice a N c := by obtain ⟨a, c, e⟩ := (R3.out.2.1.x.own i hlt).slice; exact ⟨a, c, by rw [e, HL0.out.2.2.1, HL0.out.1]⟩
                have AV := Lib.hid hav
                clear hav
                have OW : Hid (OwnR kAm (g7 + 1) wr.drew (.slice av N cv) L0) := Lib.hid (by have q := R3.out.2.1.x.own i hlt; rw [AV.out, ← HL0.out.1] at q; exact q)
                have t7 : wr.cell? ⟨g7, i, none⟩ = some (.slice av N cv) := by rw [← AV.out]; exact (R3.out.2.1.x.at i hlt).1
                have d7 : wr.drew.cell? ⟨g7, i, none⟩ = some (.slice av N cv) := t7
                have d7b : ∀ ob, (wr.alloc ob).cell? ⟨g7, i, none⟩ = some (.slice av N cv) := fun ob => (((Below.refl wr.heap.size wr).alloc (Nat.le_refl _) ob).cell (block_lt_of_cell t7)).trans t7
                have d7a : ∀ ob, (wr.alloc ob).drew.cell? ⟨g7, i, none⟩ = some (.slice av N cv) := fun ob => d7b ob
                have MW : Hid (Mark wr m) := Lib.hid (M0.out.below (B3.out.trans (by have q := R3.out.2.1.x.bel; rw [G7.out] at q; exact q.mono B3.out.size)))
                have m0 : wr.drew.cell? ⟨0, 0, none⟩ = some (.string m.1) := MW.out.1
                have m1 : wr.drew.cell? ⟨0, 1, none⟩ = some (.int .i64 m.2) := MW.out.2
                have ew : wrap64 (200 + (i : Int)) = 200 + (i : Int) := by unfold wrap64; omega
                have ew2 : IntKind.i64.wrap (200 + (i : Int)) = 200 + (i : Int) := by simp [IntKind.wrap, IntKind.bits, IntKind.signed]; omega
                have LB : Hid (g7 + 1 ≤ wr.drew.heap.size) := Lib.hid (show g7 + 1 ≤ wr.heap.size from R3.out.2.1.x.lt)
                have LQ : Hid ((L0.length + 2) * 24 ≤ 140737488355328) := Lib.hid (by have := HL0.out; omega)
                have SD : Hid (∀ W, Below wr.heap.size wr W → Sy g7 g8 w3 W vs Lt sz) := Lib.hid fun W h => R3.out.2.1.below h
                have BDA : Hid (∀ ob, Below wr.heap.size wr (wr.drew.alloc ob)) := Lib.hid fun ob => ((Below.refl _ wr).drew).alloc (Nat.le_refl _) ob
                go_wp2_with fail
                go_region_law (refine step_app2 rfl (.tmp 118) (.tmp 123) rfl (B := g7 + 1) (w := wr.drew) (v := .slice av N cv) (L := L0) rfl OW.out LB.out (fA i) (mA m) rfl rfl LQ.out ?_; intro a7 n7 c7 w7 H7; have S7 : Hid (Sy g7 g8 w3 (w7.setCell ⟨g7, i, none⟩ (.slice a7 n7 c7)) (vs.set i (.slice a7 n7 c7)) (Lt.set i (L0 ++ [fA i, mA m])) sz) := Lib.hid ((SD.out _ (BDA.out _)).app i hlt H7.out.1 (by rw [AV.out]; exact H7.out.2.1) (by rw [AV.out]; exact H7.out.2.2)); have y1 : w7.cell? ⟨g7, i, none⟩ = some (.slice av N cv) := app_cell (SD.out _ (BDA.out _)) i hlt AV.out H7.out.2.1; have y2 : w7.frozen? ⟨g7, i, none⟩ = false := app_frozen (SD.out _ (BDA.out _)) i hlt AV.out H7.out.2.1)
                all_goals
                  obtain ⟨W9, hwc⟩ : ∃ W, W = w7.setCell ⟨g7, i, none⟩ (.slice a7 n7 c7) := ⟨_, rfl⟩
                  rw [← hwc] at S7 ⊢
                  clear hwc y1 y2
                  go_wp2_with fail
                  go_roundg (6 - (i + 1))
                  case measure => have := R3.out.1; omega
                  case rel =>
                    refine ⟨i + 1, _, _, rfl, by omega, by go_num, S7.out, fun q hq => ?_, fun q hq hq2 => ?_⟩
                    · rw [getD_setL _ _ _ _ _ (by rw [R3.out.2.1.x.ll]; exact hlt)]
                      split
                      · rename_i e; subst e; rw [HL0.out.2.1]
                      · exact R3.out.2.2.1 q (by omega)
                    · rw [getD_setL _ _ _ _ _ (by rw [R3.out.2.1.x.ll]; exact hlt), if_neg (by omega)]; exact R3.out.2.2.2 q hq (by omega)
              · have hin : ¬ (i : Int) < 6 := by omega
                obtain rfl : i = 6 := by omega
                obtain ⟨WC, hWC⟩ : ∃ W, W = wr := ⟨_, rfl⟩
                rw [← hWC] at R3 ⊢
                clear hWC
                go_wp2_with fail
                go_loopg [12] 6 (fun g si wr => ∃ (i : Nat), g = 6 - i ∧ i ≤ 6 ∧ si = .int .i64 i ∧ Sy g7 g8 w3 wr vs Lt sz)
                case atStart => exact ⟨0, rfl, Nat.zero_le _, rfl, R3.out.2.1⟩
                case round =>
                  obtain ⟨i, hg, hi, rfl, hs⟩ := hrel
                  have R4 : Hid (gk = 6 - i ∧ Sy g7 g8 w3 wr vs Lt sz) := Lib.hid ⟨hg, hs⟩
                  clear hg hs
                  by_cases hlt : i < 6
                  · have hlt' : (i : Int) < 6 := by omega
                    obtain ⟨N, hN⟩ : ∃ N, N = (LS.getD i []).length := ⟨_, rfl⟩
                    have HL0 : Hid (Lt.getD i [] = List.replicate N (eA i) ++ [fA i, mA m] ∧ N ≤ 16 ∧ sz.getD i 0 = N) := Lib.hid ⟨by rw [hN]; exact R3.out.2.2.1 i hlt, by rw [hN]; exact L16.out i, by rw [hN]; exact R.out.2.2.2.2 i hlt⟩
                    have N16 : N ≤ 16 := HL0.out.2.1
                    clear hN
                    have LE : Hid ((Lt.getD i []).length = N + 2) := Lib.hid (by rw [HL0.out.1, List.length_append, List.length_replicate]; rfl)
                    obtain ⟨av, cv, hav⟩ : ∃ a c, vs.getD i nilV = .slice a (N + 2) c := by obtain ⟨a, c, e⟩ := (R4.out.2.x.own i hlt).slice; exact ⟨a, c, by rw [e, LE.out]⟩
                    have AV := Lib.hid hav
                    clear hav
                    obtain ⟨g, ea⟩ : ∃ g, av = some ⟨g, 0, none⟩ := by have q := R4.out.2.x.own i hlt; rw [AV.out] at q; obtain ⟨g, e, _⟩ := q.someOf (by rw [LE.out]; omega); exact ⟨g, e⟩
                    subst ea
                    have CL : Hid (∀ W, Sy g7 g8 w3 W vs Lt sz → W.cell? ⟨g7, i, none⟩ = some (.slice (some ⟨g, 0, none⟩) (N + 2) cv) ∧ W.cell? ⟨g8, i, none⟩ = some (.int .i64 (N : Int)) ∧ (∀ p, p < N → W.cell? ⟨g, p * 2, none⟩ = some (.string ⟨#[119]⟩) ∧ W.cell? ⟨g, p * 2 + 1, none⟩ = some (.int .i64 (100 + (i : Int)))) ∧ W.cell? ⟨g, N * 2, none⟩ = some (.string ⟨#[118]⟩) ∧ W.cell? ⟨g, N * 2 + 1, none⟩ = some (.int .i64 (200 + (i : Int)))) := Lib.hid fun W hW => by
                      have q := hW.x.own i hlt
                      rw [AV.out, HL0.out.1] at q
                      have at1 : ∀ p, p < N + 2 → ∀ y, y = (List.replicate N (eA i) ++ [fA i, mA m]).getD p kAm.z → W.cell? ⟨g, p * 2, none⟩ = some (.string y.n) ∧ W.cell? ⟨g, p * 2 + 1, none⟩ = some (.int .i64 y.v) := by
                        intro p hp y hy
                        obtain ⟨b', off', e', hcc⟩ := (q.row okAm).at p (by rw [List.length_append, List.length_replicate]; exact hp)
                        simp only [Option.some.injEq, Addr.mk.injEq, and_true] at e'
                        obtain ⟨rfl, rfl⟩ := e'
                        rw [← hy] at hcc
                        have t0 := hcc 0 _ rfl
                        have t1 := hcc 1 _ rfl
                        rw [Nat.zero_add] at t0 t1
                        exact ⟨t0, t1⟩
                      refine ⟨by rw [← AV.out]; exact (hW.x.at i hlt).1, by have z := (hW.num i hlt).1; rw [HL0.out.2.2] at z; exact z, fun p hp => at1 p (by omega) (eA i) (by rw [List.getD_eq_getElem?_getD, List.getElem?_append_left (by simpa using hp)]; simp [hp]), at1 N (by omega) (fA i) (by rw [List.getD_eq_getElem?_getD, List.getElem?_append_right (by simp)]; simp)⟩
                    have ew : wrap64 (100 + (i : Int)) = 100 + (i : Int) := by unfold wrap64; omega
                    go_wp2_with fail
                    go_loopg [13] N (fun g sj wr => ∃ (j : Nat), g = N - j ∧ j ≤ N ∧ sj = .int .i64 j ∧ Sy g7 g8 w3 wr vs Lt sz)
                    case atStart => exact ⟨0, rfl, Nat.zero_le _, rfl, R4.out.2⟩
                    case round =>
                      obtain ⟨j, hg, hj, rfl, hs⟩ := hrel
                      have R5 : Hid (gk = N - j ∧ Sy g7 g8 w3 wr vs Lt sz) := Lib.hid ⟨hg, hs⟩
                      clear hg hs
                      obtain ⟨t7, t8, ce, cf, cg⟩ := CL.out wr R5.out.2
                      by_cases hjn : j < N
                      · have hjn' : (j : Int) < (N : Int) := by omega
                        obtain ⟨c0, c1⟩ := ce j hjn
                        have hj2 : (j : Int) < (N : Int) + 2 := by omega
                        clear ce cf cg
                        go_wp2_with fail
                        go_roundg (N - (j + 1))
                        case measure => have := R5.out.1; omega
                        case rel => exact ⟨j + 1, rfl, by omega, by go_num, R5.out.2⟩
                      · have hjn' : ¬ (j : Int) < (N : Int) := by omega
                        have r7 : ∀ (dq : Nat) (os : Array Obj), (grow (redrawn wr dq) os).cell? ⟨g7, i, none⟩ = some (.slice (some ⟨g, 0, none⟩) (N + 2) cv) := fun dq os => cell_regrown t7 dq os
                        have r8 : ∀ (dq : Nat) (os : Array Obj), (grow (redrawn wr dq) os).cell? ⟨g8, i, none⟩ = some (.int .i64 (N : Int)) := fun dq os => cell_regrown t8 dq os
                        have r9 : ∀ (dq : Nat) (os : Array Obj), (grow (redrawn wr dq) os).cell? ⟨g, N * 2, none⟩ = some (.string ⟨#[118]⟩) := fun dq os => cell_regrown cf dq os
                        have ra : ∀ (dq : Nat) (os : Array Obj), (grow (redrawn wr dq) os).cell? ⟨g, N * 2 + 1, none⟩ = some (.int .i64 (200 + (i : Int))) := fun dq os => cell_regrown cg dq os
                        have e1 : IntKind.i64.wrap ((N : Int) + 2) = (N : Int) + 2 := by simp [IntKind.wrap, IntKind.bits, IntKind.signed]; omega
                        have e2 : IntKind.i64.wrap (200 + (i : Int)) = 200 + (i : Int) := by simp [IntKind.wrap, IntKind.bits, IntKind.signed]; omega
                        have e3 : (N : Int) < (N : Int) + 2 := by omega
                        have e4 : (((N + 2 : Nat)) : Int) = (N : Int) + 2 := by omega
                        clear ce
                        go_wp2_with fail
                        refine wp_region_quiet_below (by kernel_rfl) (by kernel_rfl) ?_
                        repeat (go_big_quiet_step (fail))
                        refine wpQuiet_nil ?_
                        rintro _ ⟨⟨dq, osq⟩, hw''⟩
                        subst hw''
                        have QB := below_regrown wr dq osq
                        obtain ⟨W5, hW5⟩ : ∃ W, W = grow (redrawn wr dq) osq := ⟨_, rfl⟩
                        rw [← hW5] at QB ⊢
                        have S5 : Hid (Sy g7 g8 w3 W5 vs Lt sz) := Lib.hid (R5.out.2.below QB)
                        clear hW5 QB r7 r8 r9 ra t7 t8 cf cg
                        go_wp2_with fail
                        go_roundg (6 - (i + 1))
                        case measure => have := R4.out.1; omega
                        case rel => exact ⟨i + 1, rfl, by omega, by go_num, S5.out⟩
                  · have hin : ¬ (i : Int) < 6 := by omega
                    have BE : Hid (Below w3.heap.size w3 wr) := Lib.hid (by have q := R4.out.2.x.bel; rw [G7.out] at q; exact q)
                    have BF : Hid (Below w.heap.size w wr) := Lib.hid (B3.out.trans (BE.out.mono B3.out.size))
                    have UX := Lib.hid (untouched_row gx cx n (.slice va n vc) l m wr HN.out.1 (X3.out.2.below BE.out) (V0.out.below BF.out) (M0.out.below BF.out))
                    go_wp2_with fail
                    refine UX.out.mono ?_
                    rintro e wy ⟨rfl, hb⟩
                    have BG : Hid (Below w3.heap.size w3 wy ∧ Below w.heap.size w wy) := Lib.hid ⟨BE.out.trans (hb.mono BE.out.size), BF.out.trans (hb.mono BF.out.size)⟩
                    clear hb
                    have UY := Lib.hid (untouched_row gy cy n' (.slice ua n' uc) t m wy HN.out.2 (Y3.out.2.below BG.out.1) (U0.out.below BG.out.2) (M0.out.below BG.out.2))
                    go_wp2_with fail
                    refine UY.out.mono ?_
                    rintro e wz ⟨rfl, hb⟩
                    have BH := Lib.hid (BG.out.2.trans (hb.mono BG.out.2.size))
                    clear hb
                    go_wp2_with fail
                    go_ret
                    exact ⟨rfl, BH.out⟩
theorem quantApart_walk (v : Value) (l : List Am) (u : Value) (t : List Am) (w : World) (hN : Glob w ∧ ∃ m, Mark w m) (hv : Row kAm w v l) (hs : (l.length + 1) * 24 ≤ 140737488355328 ∧ ∀ x ∈ l, x.v ≤ 9223372036854775807) (hu : Row kAm w u t) (hs' : (t.length + 1) * 24 ≤ 140737488355328 ∧ ∀ x ∈ t, x.v ≤ 9223372036854775807) :
    Calls Tryd.prog 3 #[v, u] w fun e w' => e = .returned (.bool true) ∧ Below w.heap.size w w' := by
  obtain ⟨G, m, hm⟩ := hN
  exact apart_core v u l t m _ _ w G hm hv hu hs.1 hs'.1 hs.2 hs'.2 rfl rfl
end Go.Proofs.YtendjedlcobhlaaDoor
