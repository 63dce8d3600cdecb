/-
  Minus of every two lists.
-/
import Derived.Test.YtendjedlcobhlaaDoorNrX
namespace Go.Proofs.YtendjedlcobhlaaDoor
open Go.RowKit Go.Lib
/-- The names that only the second has, with 0. -/
def addN (l t : List Am) : List Am := (t.filter fun x => !(findA x.n (toA l)).2).map fun x => ⟨x.n, 0⟩
/-- An amount less what stands under its name. -/
def subV (t : List Am) (x : Am) : Am := ⟨x.n, x.v - (findA x.n (toA t)).1⟩
def mnD (l t : List Am) : List Am := l ++ addN l t
def mnB (l t : List Am) : Bool := (mnD l t).all fun x => decide ((findA x.n (toA t)).1 ≤ x.v)
def mnS (l t : List Am) : List Am := (mnD l t).map (subV t)
noncomputable def mnE (l t : List Am) : Int := if bothB l t = true then (if mnB l t = true then nrE (mnS l t) else 1) else 31
noncomputable def mnL (l t : List Am) : List Am := if bothB l t = true then (if mnB l t = true then nrL (mnS l t) else []) else []
theorem addN_app (l t s : List Am) : addN l (t ++ s) = addN l t ++ addN l s := by simp [addN]
theorem addN_len (l t : List Am) : (addN l t).length ≤ t.length := by unfold addN; rw [List.length_map]; exact List.length_filter_le _ _
theorem addN_yes {l : List Am} {x : Am} (h : (findA x.n (toA l)).2 = true) : addN l [x] = [] := by unfold addN; rw [List.filter_cons, h]; rfl
theorem addN_no {l : List Am} {x : Am} (h : (findA x.n (toA l)).2 = false) : addN l [x] = [⟨x.n, 0⟩] := by unfold addN; rw [List.filter_cons, h]; rfl
def mix (t D : List Am) (k : Nat) : List Am := (D.take k).map (subV t) ++ D.drop k
theorem mix_len (t D : List Am) (k : Nat) (h : k ≤ D.length) : (mix t D k).length = D.length := by unfold mix; simp; omega
theorem mix_zero (t D : List Am) : mix t D 0 = D := by simp [mix]
theorem mix_all (t D : List Am) (k : Nat) (h : D.length ≤ k) : mix t D k = D.map (subV t) := by unfold mix; rw [List.take_of_length_le h, List.drop_eq_nil_of_le h, List.append_nil]
theorem mix_at (t D : List Am) (k : Nat) (h : k < D.length) : (mix t D k).getD k kAm.z = D.getD k kAm.z := by
  unfold mix
  rw [List.getD_eq_getElem?_getD, List.getElem?_append_right (by simp; omega), List.getElem?_drop, List.getD_eq_getElem?_getD]
  congr 2
  simp; omega
theorem mix_set (t D : List Am) (k : Nat) (h : k < D.length) : mix t D (k + 1) = (mix t D k).set k (subV t (D.getD k kAm.z)) := by
  unfold mix
  rw [take_onez D k kAm.z h, List.map_append, List.drop_eq_getElem_cons h, List.set_append_right _ _ (by simp; omega)]
  have e : k - ((D.take k).map (subV t)).length = 0 := by simp; omega
  rw [e, List.set_cons_zero, List.append_assoc]; rfl
theorem mn_bad {l t : List Am} {x : Am} (hx : x ∈ mnD l t) (h : x.v < (findA x.n (toA t)).1) : mnB l t = false := by
  cases q : mnB l t with
  | false => rfl
  | true =>
    have := of_decide_eq_true (List.all_eq_true.1 q x hx)
    omega
theorem find_pos {t : List Am} (h : ∀ x ∈ t, 0 ≤ x.v) (hf : ∀ x ∈ t, x.v ≤ 9223372036854775807) (n : ByteArray) : 0 ≤ (findA n (toA t)).1 ∧ (findA n (toA t)).1 ≤ 9223372036854775807 := by
  induction t with
  | nil => exact ⟨by simp [toA, findA], by simp [toA, findA]⟩
  | cons x r ih =>
    have h1 := h x (by simp)
    have h2 := hf x (by simp)
    have h3 := ih (fun y hy => h y (by simp [hy])) (fun y hy => hf y (by simp [hy]))
    have e : toA (x :: r) = (x.n, x.v) :: toA r := rfl
    rw [e, findA]
    split
    · exact ⟨h1, h2⟩
    · exact h3
theorem both_of {l t : List Am} (h : bothB l t = true) : amsC l = 0 ∧ amsC t = 0 := by
  unfold bothB at h
  rw [Bool.and_eq_true] at h
  exact ⟨of_decide_eq_true h.1, of_decide_eq_true h.2⟩
theorem sub_bad (x y : Int) (hy : 0 ≤ y) (h : x < y) (w : World) : Calls Tryd.prog 25 #[.int .i64 x, .int .i64 y] w fun e w' => e = .returned (.tuple #[.int .i64 0, .int .i64 1]) ∧ w' = w := by
  have gx : decide (y < 0) = false := decide_eq_false (by omega)
  have gy : decide (x < y) = true := decide_eq_true (by omega)
  go_enter Tryd.func25, Tryd.ntmps25
  go_wp2_with fail
  go_ret2
  exact ⟨rfl, rfl⟩
set_option maxHeartbeats 4000000 in
set_option maxRecDepth 100000 in
theorem minus_no (v u : Value) (l t : List Am) (w : World) (hv : Row kAm w v l) (hu : Row kAm w u t) (hb : bothB l t = false) :
    Calls Tryd.prog 12 #[v, u] w fun e w' => e = .returned (.tuple #[.slice none 0 0, .int .i64 31]) ∧ Below w.heap.size w w' := by
  have VB : Hid (Calls Tryd.prog 34 #[v, u] w fun e w' => e = .returned (.bool false) ∧ Below w.heap.size w w') := Lib.hid (by have q := bothValid_any v u l t w hv hu; rw [hb] at q; exact q)
  clear hb hv hu
  go_enter Tryd.func12, Tryd.ntmps12
  go_wp2_with fail
  refine VB.out.mono ?_
  rintro e w1 ⟨rfl, hb⟩
  have B1 := Lib.hid hb
  clear hb
  go_wp2_with fail
  go_ret2
  exact ⟨rfl, B1.out⟩
set_option maxHeartbeats 8000000 in
set_option maxRecDepth 100000 in
theorem minus_yes (v u : Value) (l t : List Am) (w : World) (hv : Row kAm w v l) (hpl : ∀ ad n c, v = .slice (some ad) n c → ∃ b off, ad = ⟨b, off, none⟩) (hu : Row kAm w u t) (hb : bothB l t = true) (e0 : Int) (X : List Am)
    (hf : ∀ x ∈ l, x.v ≤ 9223372036854775807) (hft : ∀ x ∈ t, x.v ≤ 9223372036854775807) (hX : (mnB l t = false ∧ e0 = 1 ∧ X = []) ∨ (mnB l t = true ∧ e0 = nrE (mnS l t) ∧ X = nrL (mnS l t))) :
    Calls Tryd.prog 12 #[v, u] w fun e w' => ∃ a n c, e = .returned (.tuple #[.slice a n c, .int .i64 e0]) ∧ OwnR kAm w.heap.size w' (.slice a n c) X ∧ Below w.heap.size w w' := by
  have VB : Hid (Calls Tryd.prog 34 #[v, u] w fun e w' => e = .returned (.bool true) ∧ Below w.heap.size w w') := Lib.hid (by have q := bothValid_any v u l t w hv hu; rw [hb] at q; exact q)
  have V := Lib.hid hv
  have U := Lib.hid hu
  have PL := Lib.hid hpl
  have LT : Hid (l.length ≤ 16 ∧ t.length ≤ 16 ∧ (∀ x ∈ l, 0 ≤ x.v) ∧ (∀ x ∈ t, 0 ≤ x.v)) := Lib.hid (by
    obtain ⟨h1, h2⟩ := both_of hb
    rw [amsC_zero] at h1 h2
    obtain ⟨a1, a2, a3⟩ := ams_parts h1
    obtain ⟨b1, b2, b3⟩ := ams_parts h2
    exact ⟨a1, b1, am_pos a2, am_pos b2⟩)
  have FF := Lib.hid (And.intro hf hft)
  have HX := Lib.hid hX
  obtain ⟨ua, uc, rfl, hlc, hcm⟩ := hu.len
  unfold maxLen at hcm
  obtain ⟨n, hn⟩ : ∃ n, n = t.length := ⟨_, rfl⟩
  rw [← hn] at hlc U VB ⊢
  have HN := Lib.hid hn
  obtain ⟨va, vc, rfl, -, -⟩ := hv.len
  clear hb hv hu hn hpl hf hft hX
  go_enter Tryd.func12, Tryd.ntmps12
  go_wp2_with fail
  refine VB.out.mono ?_
  rintro e w1 ⟨rfl, hb⟩
  have B1 := Lib.hid hb
  clear hb VB
  go_wp2_with fail
  refine (clone_row (.slice va l.length vc) l w1 (V.out.below B1.out) PL.out (by have := LT.out; omega)).mono ?_
  rintro e w2 ⟨ca, cn, cc, rfl, ho, hb⟩
  have O2 : Hid (OwnR kAm w.heap.size w2 (.slice ca cn cc) l ∧ Below w.heap.size w w2) := Lib.hid ⟨ho.mono B1.out.size, B1.out.trans (hb.mono B1.out.size)⟩
  clear ho hb B1
  go_wp2_with fail
  go_loopg [6, 25] n (fun g sl si wr => ∃ (k : Nat) (sa : Option Addr) (m c : Nat), k ≤ n ∧ g = n - k ∧ si = .int .i64 k ∧ sl = .slice sa m c ∧ OwnR kAm w.heap.size wr (.slice sa m c) (l ++ addN l (t.take k)) ∧ Below w.heap.size w wr)
  case atStart => exact ⟨0, ca, cn, cc, Nat.zero_le _, rfl, rfl, rfl, by simpa [addN] using O2.out.1, O2.out.2⟩
  case round =>
    obtain ⟨k, sa, m, c, hk, hg, rfl, rfl, ho, hb⟩ := hrel
    have R : Hid (gk = n - k ∧ OwnR kAm w.heap.size wr (.slice sa m c) (l ++ addN l (t.take k)) ∧ Below w.heap.size w wr) := Lib.hid ⟨hg, ho, hb⟩
    clear hg ho hb
    by_cases hlt : k < n
    · have TK : Hid (t.take (k + 1) = t.take k ++ [t.getD k kAm.z]) := Lib.hid (take_onez t k kAm.z (by rw [← HN.out]; exact hlt))
      obtain ⟨b, off, rfl, pc⟩ := (U.out.below R.out.2.2).at k (by rw [← HN.out]; exact hlt)
      obtain ⟨⟨xn, xv⟩, hx⟩ : ∃ x, x = t.getD k kAm.z := ⟨_, rfl⟩
      rw [← hx] at pc TK
      have c0 : wr.cell? ⟨b, off + k * 2, none⟩ = some (.string xn) := pc 0 _ rfl
      have c1 : wr.cell? ⟨b, off + k * 2 + 1, none⟩ = some (.int .i64 xv) := pc 1 _ rfl
      clear hx pc
      have hlt' : (k : Int) < (n : Int) := by omega
      obtain ⟨y, hy⟩ : ∃ y, y = findA xn (toA l) := ⟨_, rfl⟩
      obtain ⟨yv, yb⟩ := y
      have OF : Hid (∀ W, Below w.heap.size w W → Calls Tryd.prog 17 #[.slice va l.length vc, .string xn] W fun e w' => e = .returned (.tuple #[.int .i64 yv, .bool yb]) ∧ Below W.heap.size W w') := Lib.hid fun W h => by
        have q := of_any (.slice va l.length vc) (toA l) xn W (amts_row (V.out.below h))
        rw [← hy] at q; exact q
      have YB : Hid ((findA (⟨xn, xv⟩ : Am).n (toA l)).2 = yb) := Lib.hid (by rw [← hy])
      clear hy
      have BA : Hid (∀ o, Below w.heap.size w (wr.alloc o) ∧ Below wr.heap.size wr (wr.alloc o)) := Lib.hid fun o => ⟨R.out.2.2.trans (((Below.refl _ wr).alloc (Nat.le_refl _) o).mono R.out.2.2.size), (Below.refl _ wr).alloc (Nat.le_refl _) o⟩
      go_wp2_with fail
      refine (OF.out _ (BA.out _).1).mono ?_
      rintro e w3 ⟨rfl, hb⟩
      have B3 : Hid (Below w.heap.size w w3 ∧ OwnR kAm w.heap.size w3 (.slice sa m c) (l ++ addN l (t.take k)) ∧ w.heap.size ≤ w3.heap.size) := Lib.hid ⟨(BA.out _).1.trans (hb.mono (BA.out _).1.size), (R.out.2.1.below (BA.out _).2).below hb, ((BA.out _).1.trans (hb.mono (BA.out _).1.size)).size⟩
      have d0 : w3.cell? ⟨wr.heap.size, 0, none⟩ = some (.string xn) := (hb.cell (by simp)).trans (by rw [World.cell?_alloc_new]; rfl)
      clear hb BA OF c0 c1
      cases yb with
      | true =>
        have AD : Hid (addN l [⟨xn, xv⟩] = []) := Lib.hid (addN_yes YB.out)
        go_wp2_with fail
        go_roundg (n - (k + 1))
        case measure => have := R.out.1; omega
        case rel => exact ⟨k + 1, sa, m, c, by omega, rfl, by go_num, rfl, by have q := B3.out.2.1; rw [TK.out, addN_app, AD.out, List.append_nil]; exact q, B3.out.1⟩
      | false =>
        have AD : Hid (addN l [⟨xn, xv⟩] = [⟨xn, 0⟩]) := Lib.hid (addN_no YB.out)
        have LN : Hid (((l ++ addN l (t.take k)).length + 1) * kAm.b ≤ 140737488355328) := Lib.hid (by
          have q := addN_len l (t.take k)
          rw [List.length_take] at q
          rw [List.length_append]
          have := LT.out
          show (l.length + (addN l (t.take k)).length + 1) * 24 ≤ _
          omega)
        go_wp2_with (at_builtin; refine app_rowB okAm (gg := w3.heap.size) rfl _ _ rfl rfl B3.out.2.1 B3.out.2.2 ⟨xn, 0⟩ (by simp) rfl rfl LN.out ?_; intro v' w' h1 h2)
        obtain ⟨a2, c2, rfl⟩ := h1.slice
        have Z2 : Hid (OwnR kAm w.heap.size w' (.slice a2 (l ++ addN l (t.take k) ++ [(⟨xn, 0⟩ : Am)]).length c2) (l ++ addN l (t.take (k + 1))) ∧ Below w.heap.size w w') := Lib.hid ⟨by rw [TK.out, addN_app, AD.out, ← List.append_assoc]; exact h1, B3.out.1.trans (grown_belowR h2 B3.out.2.1 B3.out.2.2)⟩
        clear h1 h2 d0
        go_wp2_with fail
        go_roundg (n - (k + 1))
        case measure => have := R.out.1; omega
        case rel => exact ⟨k + 1, a2, _, c2, by omega, rfl, by go_num, rfl, Z2.out.1, Z2.out.2⟩
    · obtain ⟨DD, hDD⟩ : ∃ DD, DD = mnD l t := ⟨_, rfl⟩
      have HD := Lib.hid hDD
      have S0 : Hid (OwnR kAm w.heap.size wr (.slice sa m c) DD ∧ Below w.heap.size w wr) := Lib.hid ⟨by have q := R.out.2.1; rw [List.take_of_length_le (by rw [← HN.out]; omega)] at q; rw [hDD]; exact q, R.out.2.2⟩
      have MM : Hid (m = DD.length) := Lib.hid (by obtain ⟨_, _, e⟩ := S0.out.1.slice; simp only [Value.slice.injEq] at e; exact e.2.1)
      have DL : Hid (DD.length ≤ 32 ∧ (∀ x ∈ DD, x.v ≤ 9223372036854775807)) := Lib.hid (by
        rw [hDD]
        unfold mnD
        refine ⟨?_, ?_⟩
        · rw [List.length_append]
          have := addN_len l t
          have := LT.out
          omega
        · intro x hx
          rcases List.mem_append.1 hx with q | q
          · exact FF.out.1 x q
          · unfold addN at q
            obtain ⟨y, _, rfl⟩ := List.mem_map.1 q
            simp only; omega)
      clear hDD
      have hin : ¬ (k : Int) < (n : Int) := by omega
      clear R
      go_wp2_with fail
      go_loopg [47] m (fun g si wr => ∃ (k : Nat), k ≤ m ∧ g = m - k ∧ si = .int .i64 k ∧ OwnR kAm w.heap.size wr (.slice sa m c) (mix t DD k) ∧ (∀ x ∈ DD.take k, (findA x.n (toA t)).1 ≤ x.v) ∧ Below w.heap.size w wr)
      case atStart => exact ⟨0, Nat.zero_le _, rfl, rfl, by rw [mix_zero]; exact S0.out.1, (fun x hx => by simp at hx), S0.out.2⟩
      case round =>
        obtain ⟨i, hi, hg, rfl, ho, hal, hb⟩ := hrel
        have R : Hid (gk = m - i ∧ OwnR kAm w.heap.size wr (.slice sa m c) (mix t DD i) ∧ (∀ x ∈ DD.take i, (findA x.n (toA t)).1 ≤ x.v) ∧ Below w.heap.size w wr) := Lib.hid ⟨hg, ho, hal, hb⟩
        clear hg ho hal hb
        by_cases him : i < m
        · have hiD : i < DD.length := by rw [← MM.out]; exact him
          have ML : Hid ((mix t DD i).length = DD.length) := Lib.hid (mix_len t DD i (by omega))
          obtain ⟨g, ea, -, hBg, hgl⟩ := R.out.2.1.someOf (by rw [ML.out]; omega)
          subst ea
          have AT : Hid ((mix t DD i).getD i kAm.z = DD.getD i kAm.z) := Lib.hid (mix_at t DD i hiD)
          have IN := Lib.hid (getD_in (d := kAm.z) hiD)
          have TK : Hid (DD.take (i + 1) = DD.take i ++ [DD.getD i kAm.z]) := Lib.hid (take_onez DD i kAm.z hiD)
          have MS : Hid (mix t DD (i + 1) = (mix t DD i).set i (subV t (DD.getD i kAm.z))) := Lib.hid (mix_set t DD i hiD)
          obtain ⟨⟨xn, xv⟩, hx⟩ : ∃ x, x = DD.getD i kAm.z := ⟨_, rfl⟩
          rw [← hx] at AT IN TK MS
          clear hx
          have YC : Hid (∀ W, OwnR kAm w.heap.size W (.slice (some ⟨g, 0, none⟩) m c) (mix t DD i) → W.cell? ⟨g, i * 2, none⟩ = some (.string xn) ∧ W.cell? ⟨g, i * 2 + 1, none⟩ = some (.int .i64 xv) ∧ W.frozen? ⟨g, i * 2 + 1, none⟩ = false) := Lib.hid fun W hW => by
            obtain ⟨cur, -, -, hq, -⟩ := hW.parts
            obtain ⟨b', off', e', hcc⟩ := (hW.row okAm).at i (by rw [ML.out]; exact hiD)
            simp only [Option.some.injEq, Addr.mk.injEq, and_true] at e'
            obtain ⟨rfl, rfl⟩ := e'
            rw [AT.out] at hcc
            have t0 := hcc 0 _ rfl
            have t1 := hcc 1 _ rfl
            rw [Nat.zero_add] at t0 t1
            exact ⟨t0, t1, frozen_row hq _⟩
          obtain ⟨c0, c1, -⟩ := YC.out wr R.out.2.1
          have him' : (i : Int) < (m : Int) := by omega
          have hmc : m ≤ c ∧ c ≤ 9223372036854775807 := by
            obtain ⟨_, _, e1, q1, q2⟩ := (R.out.2.1.row okAm).len
            simp only [Value.slice.injEq] at e1
            unfold maxLen at q2
            rw [← e1.2.2] at q1 q2
            rw [ML.out, ← MM.out] at q1
            exact ⟨q1, q2⟩
          obtain ⟨hmc1, hmc2⟩ := hmc
          obtain ⟨y, hy⟩ : ∃ y, y = findA xn (toA t) := ⟨_, rfl⟩
          obtain ⟨yv, yb⟩ := y
          have OF : Hid (∀ W, Below w.heap.size w W → Calls Tryd.prog 17 #[.slice ua n uc, .string xn] W fun e w' => e = .returned (.tuple #[.int .i64 yv, .bool yb]) ∧ Below W.heap.size W w') := Lib.hid fun W h => by
            have q := of_any (.slice ua n uc) (toA t) xn W (amts_row (U.out.below h))
            rw [← hy] at q; exact q
          have YV : Hid ((findA xn (toA t)).1 = yv ∧ 0 ≤ yv) := Lib.hid (by
            have q := find_pos LT.out.2.2.2 FF.out.2 xn
            rw [← hy] at q ⊢
            exact ⟨rfl, q.1⟩)
          clear hy
          have BA : Hid (∀ o, Below w.heap.size w (wr.alloc o) ∧ Below wr.heap.size wr (wr.alloc o)) := Lib.hid fun o => ⟨R.out.2.2.2.trans (((Below.refl _ wr).alloc (Nat.le_refl _) o).mono R.out.2.2.2.size), (Below.refl _ wr).alloc (Nat.le_refl _) o⟩
          go_wp2_with fail
          refine (OF.out _ (BA.out _).1).mono ?_
          rintro e w3 ⟨rfl, hb⟩
          have B3 : Hid (Below w.heap.size w w3 ∧ OwnR kAm w.heap.size w3 (.slice (some ⟨g, 0, none⟩) m c) (mix t DD i)) := Lib.hid ⟨(BA.out _).1.trans (hb.mono (BA.out _).1.size), (R.out.2.1.below (BA.out _).2).below hb⟩
          have d1 : w3.cell? ⟨wr.heap.size, 1, none⟩ = some (.int .i64 xv) := (hb.cell (by simp)).trans (by rw [World.cell?_alloc_new]; rfl)
          clear hb BA OF c0 c1
          by_cases hs : yv ≤ xv
          · have SB := Lib.hid (sub_yes xv yv YV.out.2 hs (DL.out.2 _ IN.out) w3)
            obtain ⟨-, u1, u2⟩ := YC.out w3 B3.out.2
            have ST : Hid (OwnR kAm w.heap.size (w3.setCell ⟨g, i * 2 + 1, none⟩ (.int .i64 (xv - yv))) (.slice (some ⟨g, 0, none⟩) m c) (mix t DD (i + 1)) ∧ Below w.heap.size w (w3.setCell ⟨g, i * 2 + 1, none⟩ (.int .i64 (xv - yv))) ∧ ∀ x ∈ DD.take (i + 1), (findA x.n (toA t)).1 ≤ x.v) := Lib.hid ⟨by
              rw [MS.out]
              exact B3.out.2.set okAm i 1 (by rw [ML.out]; exact hiD) (by decide) (subV t ⟨xn, xv⟩) (.int .i64 (xv - yv)) (by rw [AT.out]; unfold subV; simp only; rw [YV.out.1]; rfl), B3.out.1.setCell (p := ⟨g, i * 2 + 1, none⟩) hBg _, by
              intro x hx
              rw [TK.out] at hx
              rcases List.mem_append.1 hx with q | q
              · exact R.out.2.2.1 x q
              · rw [List.mem_singleton] at q; subst q; simp only; rw [YV.out.1]; exact hs⟩
            clear hs
            go_wp2_with fail
            refine SB.out.mono ?_
            rintro e w4 ⟨rfl, rfl⟩
            go_wp2_with fail
            obtain ⟨W7, hW7⟩ : ∃ W, W = w4.setCell ⟨g, i * 2 + 1, none⟩ (.int .i64 (xv - yv)) := ⟨_, rfl⟩
            rw [← hW7] at ST ⊢
            clear hW7 u1 u2 d1
            go_wp2_with fail
            go_roundg (m - (i + 1))
            case measure => have := R.out.1; omega
            case rel => exact ⟨i + 1, by omega, rfl, by go_num, ST.out.1, ST.out.2.2, ST.out.2.1⟩
          · have SB := Lib.hid (sub_bad xv yv YV.out.2 (by omega) w3)
            have BB : Hid (mnB l t = false) := Lib.hid (mn_bad (x := ⟨xn, xv⟩) (by rw [← HD.out]; exact IN.out) (by simp only; rw [YV.out.1]; omega))
            clear hs
            have EX : Hid (e0 = 1 ∧ X = []) := Lib.hid (HX.out.elim (fun q => q.2) (fun q => by rw [BB.out] at q; cases q.1))
            obtain rfl : e0 = 1 := EX.out.1
            obtain rfl : X = [] := EX.out.2
            go_wp2_with fail
            refine SB.out.mono ?_
            rintro e w4 ⟨rfl, rfl⟩
            go_wp2_with fail
            go_ret2
            exact ⟨none, 0, 0, rfl, OwnR.nil _ _ _, B3.out.1⟩
        · have hin2 : ¬ (i : Int) < (m : Int) := by omega
          have BB : Hid (mnB l t = true) := Lib.hid (by
            unfold mnB
            rw [← HD.out]
            have q := R.out.2.2.1
            rw [List.take_of_length_le (by rw [← MM.out]; omega)] at q
            exact List.all_eq_true.2 fun x hx => decide_eq_true (q x hx))
          have EX : Hid (e0 = nrE (mnS l t) ∧ X = nrL (mnS l t)) := Lib.hid (HX.out.elim (fun q => by rw [BB.out] at q; cases q.1) (fun q => q.2))
          have MX : Hid (mix t DD i = mnS l t) := Lib.hid (by unfold mnS; rw [← HD.out]; exact mix_all t DD i (by rw [← MM.out]; omega))
          have O9 : Hid (OwnR kAm w.heap.size wr (.slice sa m c) (mnS l t) ∧ Below w.heap.size w wr) := Lib.hid ⟨by rw [← MX.out]; exact R.out.2.1, R.out.2.2.2⟩
          have NR := Lib.hid (normal_any (.slice sa m c) (mnS l t) wr (O9.out.1.row okAm) (own_plQ O9.out.1) (by
            unfold mnS; rw [List.length_map, ← HD.out]; have := DL.out.1; omega) (by
            intro x hx
            unfold mnS at hx
            obtain ⟨y, hy, rfl⟩ := List.mem_map.1 hx
            rw [← HD.out] at hy
            have q1 := DL.out.2 y hy
            have q2 := (find_pos LT.out.2.2.2 FF.out.2 y.n).1
            unfold subV
            simp only
            omega))
          rw [← EX.out.1, ← EX.out.2] at NR
          go_wp2_with fail
          refine NR.out.mono ?_
          rintro e w5 ⟨a5, n5, c5, rfl, ho5, hb5⟩
          have S5 : Hid (OwnR kAm w.heap.size w5 (.slice a5 n5 c5) X ∧ Below w.heap.size w w5) := Lib.hid ⟨ho5.mono O9.out.2.size, O9.out.2.trans (hb5.mono O9.out.2.size)⟩
          clear ho5 hb5
          go_wp2_with fail
          go_ret2
          exact ⟨a5, n5, c5, rfl, S5.out.1, S5.out.2⟩
theorem minus_any (v u : Value) (l t : List Am) (w : World) (hv : Row kAm w v l) (hpl : ∀ ad n c, v = .slice (some ad) n c → ∃ b off, ad = ⟨b, off, none⟩) (hu : Row kAm w u t)
    (hf : ∀ x ∈ l, x.v ≤ 9223372036854775807) (hft : ∀ x ∈ t, x.v ≤ 9223372036854775807) :
    Calls Tryd.prog 12 #[v, u] w fun e w' => ∃ a n c, e = .returned (.tuple #[.slice a n c, .int .i64 (mnE l t)]) ∧ OwnR kAm w.heap.size w' (.slice a n c) (mnL l t) ∧ Below w.heap.size w w' := by
  cases hb : bothB l t with
  | false =>
    refine (minus_no v u l t w hv hu hb).mono ?_
    rintro e w' ⟨rfl, h⟩
    exact ⟨none, 0, 0, by unfold mnE; rw [hb]; rfl, by unfold mnL; rw [hb]; exact OwnR.nil _ _ _, h⟩
  | true =>
    refine minus_yes v u l t w hv hpl hu hb (mnE l t) (mnL l t) hf hft ?_
    unfold mnE mnL
    rw [hb]
    cases hB : mnB l t with
    | false => exact Or.inl ⟨rfl, rfl, rfl⟩
    | true => exact Or.inr ⟨rfl, rfl, rfl⟩
end Go.Proofs.YtendjedlcobhlaaDoor
