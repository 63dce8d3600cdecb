/-
  NrT, NrP, NrQ, NrW, NrX, NrY, NrZ, LawOrders, NrU, joined.
-/
import Derived.Test.YtmkdmfjdhajiaaaGreatDoorNrB
import Derived.Laws.AppendOwnNone
import Derived.Test.YtmkdmfjdhajiaaaGreatDoorConcatK
import Derived.Test.YtmkdmfjdhajiaaaGreatDoorKnownK
import Derived.Deep.RegionWith
import Derived.Deep.LoopGhost
import Derived.Deep.DeepCutAuto
section S0
namespace Go.Proofs.YtmkdmfjdhajiaaaGreatDoor
open Go.RowKit Go.Lib
open Go.Sort (grow)
section
variable {α : Type} {K : Kd α}
theorem app_rows (ok : K.Ok) {ops : Array Oper} {rest : List Oper} {o : Oper} {a : Act} {Q : Exit → Act → World → Prop} (hgd : o.guard = none) (s x : Operand)
    (ho : o.op = .call { callee := .builtin .append, args := #[s, x], argTypes := #[K.s, K.s] })
    {B : Nat} {w : World} {v u : Value} {l m : List α} (hs : a.eval s = v) (hown : OwnR K B w v l) (hB : B ≤ w.heap.size) (hx : a.eval x = u) (hu : Row K w u m) (hl : (l.length + m.length) * K.b ≤ 140737488355328)
    (h : ∀ v' w', OwnR K B w' v' (l ++ m) → w.grownBy w' v.ownBlock → wpList Tryz.prog ops Q rest (a.put o.dst v') w') :
    wpList Tryz.prog ops Q (o :: rest) a w := by
  obtain ⟨zv, hinf, hzc⟩ := ok.inf
  obtain ⟨i0, hi, hz0, hz1, hz2⟩ := info_parts hinf
  have hb := ok.by0
  obtain ⟨ad, cap, rfl, hlc, hcm, hn, hc⟩ := hu
  cases ad with
  | none =>
    obtain rfl := hn rfl
    obtain rfl : m = [] := by simpa using hlc
    refine wpList_append_own_none hgd s x K.s ho B K.t i0 K.k ok.und hi v l.length (cellsR K l) hs hown hx ?_
    exact h v w (by simpa using hown) ⟨rfl, rfl, rfl, Nat.le_refl _, fun _ _ _ => rfl⟩
  | some ad =>
    refine wpList_append_own_at w hgd s x K.s ho B K.t i0 _ K.k K.b ok.und hi hz0 hz1 hz2 hzc ok.pos v l.length (cellsR K l) hs hown ad m.length cap (cellsR K m) hx (by rw [cellsR_length ok]) ?_ (cellsR_one ok m) (by have := Nat.le_mul_of_pos_right (l.length + m.length) hb.1; unfold maxLen; omega) hl hB ?_
    · intro j y hj
      have hjl : j < m.length * K.k := by
        rcases Nat.lt_or_ge j (m.length * K.k) with q | q
        · exact q
        · rw [List.getElem?_eq_none (by rw [cellsR_length ok]; exact q)] at hj; simp at hj
      have hkp := ok.pos
      have hq : j / K.k < m.length := Nat.div_lt_of_lt_mul (by rw [Nat.mul_comm]; exact hjl)
      have hr : j % K.k < K.k := Nat.mod_lt _ hkp
      have e : j = j / K.k * K.k + j % K.k := by rw [Nat.mul_comm]; exact (Nat.div_add_mod j K.k).symm
      obtain ⟨b, off, ea, hcc⟩ := hc (j / K.k) hq
      simp only [Option.some.injEq] at ea
      subst ea
      rw [add_plain]
      rw [e, cellsR_at ok m _ hq _ hr] at hj
      have := hcc _ _ hj
      rw [e, ← Nat.add_assoc]
      exact this
    · intro v' w' h1 h2 _ _
      refine h v' w' ?_ h2
      show w'.ownsRow _ _ _ _ _ _
      rw [cellsR_app, List.length_append]; exact h1
end
theorem wrap64_in {x : Int} (h : 0 ≤ x) (h2 : x < 4611686018427387904) : wrap64 x = x := by
  unfold wrap64
  omega
theorem u64_remT (x : Int) (m : Nat) (hm : 0 < m) : ∃ i : Nat, i < m ∧ (IntKind.u64.wrap x).tmod m = i := by
  have h0 : 0 ≤ IntKind.u64.wrap x := by
    unfold IntKind.wrap
    simp [IntKind.bits, IntKind.signed]
    omega
  refine ⟨((IntKind.u64.wrap x) % m).toNat, ?_, ?_⟩
  · have := Int.emod_lt_of_pos (IntKind.u64.wrap x) (b := (m : Int)) (by omega)
    have := Int.emod_nonneg (IntKind.u64.wrap x) (b := (m : Int)) (by omega)
    omega
  · rw [Int.tmod_eq_emod_of_nonneg h0]
    have := Int.emod_nonneg (IntKind.u64.wrap x) (b := (m : Int)) (by omega)
    omega
theorem row_take {w : World} {b off n cap : Nat} {l : List Am} (H : Row kAm w (.slice (some ⟨b, off, none⟩) n cap) l) (k : Nat) (hk : k ≤ l.length) : Row kAm w (.slice (some ⟨b, off, none⟩) k cap) (l.take k) := by
  obtain ⟨a', cap', e', h1, h2, h0, hc⟩ := H
  simp only [Value.slice.injEq] at e'
  obtain ⟨rfl, rfl, rfl⟩ := e'
  have e : (l.take k).length = k := by rw [List.length_take]; omega
  refine ⟨some ⟨b, off, none⟩, cap, by rw [e], by rw [e]; omega, h2, h0, fun j hj => ?_⟩
  rw [e] at hj
  obtain ⟨b', off', ea, hcc⟩ := hc j (by omega)
  refine ⟨b', off', ea, fun i y hy => hcc i y ?_⟩
  have e2 : (l.take k).getD j kAm.z = l.getD j kAm.z := by rw [List.getD_eq_getElem?_getD, List.getElem?_take_of_lt hj, List.getD_eq_getElem?_getD]
  rw [e2] at hy; exact hy
theorem row_drop {w : World} {b off n cap : Nat} {l : List Am} (H : Row kAm w (.slice (some ⟨b, off, none⟩) n cap) l) (k : Nat) (hk : k ≤ l.length) : Row kAm w (.slice (some ⟨b, off + k * 2, none⟩) (n - k) (cap - k)) (l.drop k) := by
  obtain ⟨a', cap', e', h1, h2, h0, hc⟩ := H
  simp only [Value.slice.injEq] at e'
  obtain ⟨rfl, rfl, rfl⟩ := e'
  have e : (l.drop k).length = l.length - k := List.length_drop
  refine ⟨some ⟨b, off + k * 2, none⟩, cap - k, by rw [e], by rw [e]; omega, by omega, (fun h => by cases h), fun j hj => ?_⟩
  rw [e] at hj
  obtain ⟨b', off', ea, hcc⟩ := hc (k + j) (by omega)
  simp only [Option.some.injEq, Addr.mk.injEq, and_true] at ea
  obtain ⟨rfl, rfl⟩ := ea
  refine ⟨b, off + k * 2, rfl, fun i y hy => ?_⟩
  have e2 : (l.drop k).getD j kAm.z = l.getD (k + j) kAm.z := by rw [List.getD_eq_getElem?_getD, List.getElem?_drop, List.getD_eq_getElem?_getD]
  rw [e2] at hy
  have q := hcc i y hy
  have e3 : off + (k + j) * kAm.k + i = off + k * 2 + j * kAm.k + i := by show off + (k + j) * 2 + i = off + k * 2 + j * 2 + i; omega
  rw [e3] at q; exact q
end Go.Proofs.YtmkdmfjdhajiaaaGreatDoor
end S0

section S1
namespace Go.Proofs.YtmkdmfjdhajiaaaGreatDoor
open Go.RowKit Go.Lib
def bothB (l m : List Am) : Bool := decide (amsC l = 0) && decide (amsC m = 0)
set_option maxHeartbeats 4000000 in
set_option maxRecDepth 100000 in
theorem bothValid_any (v u : Value) (l m : List Am) (w : World) (hv : Row kAm w v l) (hu : Row kAm w u m) :
    Calls Tryz.prog 31 #[v, u] w fun e w' => e = .returned (.bool (bothB l m)) ∧ Below w.heap.size w w' := by
  have V := Lib.hid (valid_any v l w hv)
  have U : Hid (∀ W, Below w.heap.size w W → Calls Tryz.prog 6 #[u] W fun e w' => e = .returned (.int .i64 (amsC m)) ∧ Below W.heap.size W w') := Lib.hid fun W h => valid_any u m W (hu.below h)
  have hB : Hid (bothB l m = (decide (amsC l = 0) && decide (amsC m = 0))) := Lib.hid rfl
  obtain ⟨r, hr⟩ : ∃ r, r = bothB l m := ⟨_, rfl⟩
  rw [← hr] at hB ⊢
  obtain ⟨c, hc⟩ : ∃ c, c = amsC l := ⟨_, rfl⟩
  obtain ⟨d, hd⟩ : ∃ d, d = amsC m := ⟨_, rfl⟩
  rw [← hc] at V hB
  rw [← hd] at U hB
  clear hr hc hd hv hu
  by_cases h0 : c = 0
  · subst h0
    go_enter Tryz.func31, Tryz.ntmps31
    go_wp2_with fail
    refine V.out.mono ?_
    rintro e w1 ⟨rfl, hb⟩
    have B1 := Lib.hid hb
    clear hb
    by_cases h1 : d = 0
    · subst h1
      go_wp2_with fail
      refine (U.out w1 B1.out).mono ?_
      rintro e w2 ⟨rfl, hb⟩
      have B2 := Lib.hid (B1.out.trans (hb.mono B1.out.size))
      clear hb
      go_wp2_with fail
      go_ret
      exact ⟨by rw [hB.out]; rfl, B2.out⟩
    · have g1 : (d == 0) = false := by rw [beq_eq_false_iff_ne]; exact h1
      have HB : Hid (r = false) := Lib.hid (by rw [hB.out, decide_eq_false h1]; simp)
      clear h1
      go_wp2_with fail
      refine (U.out w1 B1.out).mono ?_
      rintro e w2 ⟨rfl, hb⟩
      have B2 := Lib.hid (B1.out.trans (hb.mono B1.out.size))
      clear hb
      go_wp2_with fail
      go_ret
      exact ⟨by rw [HB.out]; rfl, B2.out⟩
  · have g0 : (c == 0) = false := by rw [beq_eq_false_iff_ne]; exact h0
    have HB : Hid (r = false) := Lib.hid (by rw [hB.out, decide_eq_false h0]; simp)
    clear h0
    go_enter Tryz.func31, Tryz.ntmps31
    go_wp2_with fail
    refine V.out.mono ?_
    rintro e w1 ⟨rfl, hb⟩
    have B1 := Lib.hid hb
    clear hb
    go_wp2_with fail
    go_ret
    exact ⟨by rw [HB.out]; rfl, B1.out⟩
set_option maxRecDepth 100000 in
theorem grow_zero (k : Int) (hk : k = 0) (w : World) : Calls Tryz.prog 49 #[.slice none 0 0, .int .i64 k] w fun e w' => ∃ v, e = .returned v ∧ w'.ownsRow w.heap.size 36 2 v 0 [] ∧ Below w.heap.size w w' := by
  subst hk
  go_enter Tryz.func49, Tryz.ntmps49
  go_wp2_with fail
  go_ret
  exact ⟨_, rfl, World.ownsRow_nil _ _ _ _, Below.refl _ _⟩
theorem grow_row (n : Nat) (k : Int) (hk : k = n) (w : World) (hn : n * 24 ≤ 140737488355328) : Calls Tryz.prog 49 #[.slice none 0 0, .int .i64 k] w fun e w' => ∃ v, e = .returned v ∧ OwnR kAm w.heap.size w' v [] ∧ Below w.heap.size w w' := by
  rcases Nat.eq_zero_or_pos n with h | h
  · exact grow_zero k (by omega) w
  · exact grow_nil n k hk w h hn
set_option maxHeartbeats 8000000 in
set_option maxRecDepth 100000 in
theorem concat_row (g : Nat) (v u : Value) (l t : List Am) (w : World) (hv : Row kAm w v l) (hu : Row kAm w u t) (hz : (l.length + t.length) * 24 ≤ 140737488355328)
    (c0 : w.cell? ⟨g, 0, none⟩ = some v) (c1 : w.cell? ⟨g, 1, none⟩ = some u) :
    Calls Tryz.prog 32 #[.slice (some ⟨g, 0, none⟩) 2 2] w fun e w' => ∃ v, e = .returned v ∧ OwnR kAm w.heap.size w' v (l ++ t) ∧ Below w.heap.size w w' := by
  have V := Lib.hid hv
  have U := Lib.hid hu
  obtain ⟨va, vc, rfl, hlc, hcm⟩ := hv.len
  obtain ⟨ua, uc, rfl, hlc', hcm'⟩ := hu.len
  unfold maxLen at hcm hcm'
  obtain ⟨n, hn⟩ : ∃ n, n = l.length := ⟨_, rfl⟩
  obtain ⟨m, hm⟩ : ∃ m, m = t.length := ⟨_, rfl⟩
  rw [← hn] at hlc hz V c0
  rw [← hm] at hlc' hz U c1
  have L1 : Hid ((([] : List Am).length + l.length) * kAm.b ≤ 140737488355328) := Lib.hid (by rw [← hn]; show (0 + n) * 24 ≤ _; omega)
  have L2 : Hid ((l.length + t.length) * kAm.b ≤ 140737488355328) := Lib.hid (by rw [← hn, ← hm]; exact hz)
  have n1 : ¬ ((n : Int) < 0) := by omega
  have n2 : ¬ ((n : Int) + (m : Int) < 0) := by omega
  have w2 : wrap64 ((n : Int) + (m : Int)) = (n : Int) + (m : Int) := by unfold wrap64; omega
  clear hv hu hn hm
  go_enter Tryz.func32, Tryz.ntmps32
  go_wp2_with fail
  refine wp_loop_rounds 3 ?_
  rw [rounds_succ]
  go_wp2_with fail
  rw [rounds_succ]
  go_wp2_with fail
  rw [rounds_succ]
  go_wp2_with fail
  refine (grow_row (n + m) _ (by omega) w hz).mono ?_
  rintro e w1 ⟨v1, rfl, O, hb⟩
  have O1 := Lib.hid O
  have B1 := Lib.hid hb
  have d0 := (hb.cell (block_lt_of_cell c0)).trans c0
  have d1 := (hb.cell (block_lt_of_cell c1)).trans c1
  have hg := block_lt_of_cell c0
  clear O hb
  go_wp2_with fail
  refine wp_loop_rounds 3 ?_
  rw [rounds_succ]
  go_wp2_with (at_builtin; refine app_rows okAm (B := w.heap.size) (w := w1) (v := v1) (u := .slice va n vc) (l := []) (m := l) rfl _ _ rfl rfl O1.out B1.out.size rfl (V.out.below B1.out) L1.out ?_)
  intro v2 w2' own2 grown2
  have B2 := Lib.hid (B1.out.trans (grown_belowR grown2 O1.out B1.out.size))
  have O2 : Hid (OwnR kAm w.heap.size w2' v2 l) := Lib.hid (by simpa using own2)
  have e1 := (B2.out.cell (p := ⟨g, 1, none⟩) hg).trans c1
  clear own2 grown2 d0 d1 O1 B1
  go_wp2_with fail
  rw [rounds_succ]
  go_wp2_with (at_builtin; refine app_rows okAm (B := w.heap.size) (w := w2') (v := v2) (u := .slice ua m uc) (l := l) (m := t) rfl _ _ rfl rfl O2.out B2.out.size rfl (U.out.below B2.out) L2.out ?_)
  intro v3 w3 own3 grown3
  have B3 := Lib.hid (B2.out.trans (grown_belowR grown3 O2.out B2.out.size))
  have O3 := Lib.hid own3
  clear own3 grown3 O2 B2 e1
  go_wp2_with fail
  rw [rounds_succ]
  go_wp2_with fail
  go_ret
  exact ⟨v3, rfl, O3.out, B3.out⟩
end Go.Proofs.YtmkdmfjdhajiaaaGreatDoor
end S1

section S2
namespace Go.Proofs.YtmkdmfjdhajiaaaGreatDoor
open Go.RowKit Go.Lib
noncomputable def plE (l t : List Am) : Int := if bothB l t = true then nrE (l ++ t) else 31
noncomputable def plL (l t : List Am) : List Am := if bothB l t = true then nrL (l ++ t) else []
theorem own_plQ {B : Nat} {w : World} {v : Value} {l : List Am} (H : OwnR kAm B w v l) : ∀ ad n c, v = .slice (some ad) n c → ∃ b off, ad = ⟨b, off, none⟩ := by
  obtain ⟨_, ⟨hv, hn⟩ | ⟨g, cap, cur, hv, _⟩⟩ := H
  · intro ad n c e; rw [hv] at e; injection e with e; cases e
  · intro ad n c e; rw [hv] at e; injection e with e; injection e with e; exact ⟨g, 0, e.symm⟩
set_option maxHeartbeats 4000000 in
set_option maxRecDepth 100000 in
theorem plus_any (v u : Value) (l t : List Am) (w : World) (hv : Row kAm w v l) (hu : Row kAm w u t) (hz : (l.length + t.length) * 24 ≤ 140737488355328) (hf : ∀ x ∈ l, x.v ≤ 9223372036854775807) (hf' : ∀ x ∈ t, x.v ≤ 9223372036854775807) :
    Calls Tryz.prog 12 #[v, u] w fun e w' => ∃ a n c, e = .returned (.tuple #[.slice a n c, .int .i64 (plE l t)]) ∧ OwnR kAm w.heap.size w' (.slice a n c) (plL l t) ∧ Below w.heap.size w w' := by
  have V := Lib.hid hv
  have U := Lib.hid hu
  have Z := Lib.hid hz
  obtain ⟨va, vc, rfl, -, -⟩ := hv.len
  obtain ⟨ua, uc, rfl, -, -⟩ := hu.len
  have FF : Hid (∀ x ∈ l ++ t, x.v ≤ 9223372036854775807) := Lib.hid fun x hx => (List.mem_append.1 hx).elim (hf x) (hf' x)
  clear hz hf hf'
  cases hb : bothB l t with
  | false =>
    have e1 : plE l t = 31 := by unfold plE; rw [hb]; rfl
    have e2 : plL l t = [] := by unfold plL; rw [hb]; rfl
    have VB : Hid (Calls Tryz.prog 31 #[.slice va l.length vc, .slice ua t.length uc] w fun e w' => e = .returned (.bool false) ∧ Below w.heap.size w w') := Lib.hid (by have q := bothValid_any _ _ l t w hv hu; rw [hb] at q; exact q)
    rw [e1, e2]
    clear e1 e2 hb hv hu
    go_enter Tryz.func12, Tryz.ntmps12
    go_wp2_with fail
    refine VB.out.mono ?_
    rintro e w1 ⟨rfl, hb⟩
    have B1 := Lib.hid hb
    clear hb
    go_wp2_with fail
    go_ret2
    exact ⟨none, 0, 0, rfl, OwnR.nil _ _ _, B1.out⟩
  | true =>
    have e1 : plE l t = nrE (l ++ t) := by unfold plE; rw [hb]; rfl
    have e2 : plL l t = nrL (l ++ t) := by unfold plL; rw [hb]; rfl
    have VB : Hid (Calls Tryz.prog 31 #[.slice va l.length vc, .slice ua t.length uc] w fun e w' => e = .returned (.bool true) ∧ Below w.heap.size w w') := Lib.hid (by have q := bothValid_any _ _ l t w hv hu; rw [hb] at q; exact q)
    rw [e1, e2]
    clear e1 e2 hb hv hu
    obtain ⟨E, hE⟩ : ∃ E, E = nrE (l ++ t) := ⟨_, rfl⟩
    rw [← hE]
    have HE := Lib.hid hE
    clear hE
    go_enter Tryz.func12, Tryz.ntmps12
    go_wp2_with fail
    refine VB.out.mono ?_
    rintro e w1 ⟨rfl, hb⟩
    have B1 := Lib.hid hb
    clear hb
    go_wp2_with fail
    have BA : ∀ o, Below w1.heap.size w1 (w1.alloc o) := fun o => (Below.refl _ w1).alloc (Nat.le_refl _) o
    refine (concat_row _ (.slice va l.length vc) (.slice ua t.length uc) l t _ ?r0 ?r1 Z.out ?c0 ?c1).mono ?_
    case r0 => exact V.out.below (B1.out.trans ((BA _).mono B1.out.size))
    case r1 => exact U.out.below (B1.out.trans ((BA _).mono B1.out.size))
    case c0 => rw [World.cell?_alloc_new]; rfl
    case c1 => rw [World.cell?_alloc_new]; rfl
    rintro e w2 ⟨v2, rfl, ho, hb⟩
    have O2 := Lib.hid ho
    have B2 : Hid (Below w.heap.size w w2) := Lib.hid (B1.out.trans (((BA _).trans (hb.mono (BA _).size)).mono B1.out.size))
    clear ho hb BA
    go_wp2_with fail
    refine (normal_any v2 (l ++ t) w2 (O2.out.row okAm) (own_plQ O2.out) (by rw [List.length_append]; exact Z.out) FF.out).mono ?_
    rintro e w3 ⟨a, n, c, rfl, ho, hb⟩
    have O3 : Hid (OwnR kAm w.heap.size w3 (.slice a n c) (nrL (l ++ t)) ∧ Below w.heap.size w w3) := Lib.hid ⟨ho.mono B2.out.size, B2.out.trans (hb.mono B2.out.size)⟩
    rw [← HE.out]
    clear ho hb
    go_wp2_with fail
    go_ret2
    exact ⟨a, n, c, rfl, O3.out.1, O3.out.2⟩
end Go.Proofs.YtmkdmfjdhajiaaaGreatDoor
end S2

section S3
namespace Go.Proofs.YtmkdmfjdhajiaaaGreatDoor
open Go.RowKit Go.Lib
/-- Whether a name's value passes the most. -/
def overB (l : List Am) (x : Am) : Bool := decide ((findA x.n (toA l)).1 > x.v)
def wiT (l t : List Am) : ByteArray := ((t.find? (overB l)).map Am.n).getD ⟨#[]⟩
theorem wi_at {l t : List Am} {k : Nat} (hk : k < t.length) (h : ∀ j, j < k → overB l (t.getD j kAm.z) = false) (h1 : overB l (t.getD k kAm.z) = true) : wiT l t = (t.getD k kAm.z).n := by
  unfold wiT
  have e : t.find? (overB l) = some (t.getD k kAm.z) := by
    rw [List.find?_eq_some_iff_getElem]
    refine ⟨h1, k, hk, (getD_ge _ _ _ hk).symm, fun j hj => ?_⟩
    have := h j hj
    rw [getD_ge _ _ _ (by omega)] at this
    rw [this]; rfl
  rw [e]; rfl
theorem wi_none {l t : List Am} (h : ∀ j, j < t.length → overB l (t.getD j kAm.z) = false) : wiT l t = ⟨#[]⟩ := by
  unfold wiT
  have e : t.find? (overB l) = none := by
    rw [List.find?_eq_none]
    intro x hx
    obtain ⟨j, hj, rfl⟩ := List.getElem_of_mem hx
    have := h j hj
    rw [getD_ge _ _ _ hj] at this
    rw [this]; exact Bool.false_ne_true
  rw [e]; rfl
set_option maxHeartbeats 4000000 in
set_option maxRecDepth 100000 in
theorem within_no (v u : Value) (l t : List Am) (w : World) (hv : Row kAm w v l) (hu : Row kAm w u t) (hb : bothB l t = false) :
    Calls Tryz.prog 16 #[v, u] w fun e w' => e = .returned (.tuple #[.string ⟨#[]⟩, .int .i64 31]) ∧ Below w.heap.size w w' := by
  have VB : Hid (Calls Tryz.prog 31 #[v, u] w fun e w' => e = .returned (.bool false) ∧ Below w.heap.size w w') := Lib.hid (by have q := bothValid_any v u l t w hv hu; rw [hb] at q; exact q)
  clear hb hv hu
  go_enter Tryz.func16, Tryz.ntmps16
  go_wp2_with fail
  refine VB.out.mono ?_
  rintro e w1 ⟨rfl, hb⟩
  have B1 := Lib.hid hb
  clear hb
  go_wp2_with fail
  go_ret2
  exact ⟨rfl, B1.out⟩
set_option maxHeartbeats 4000000 in
set_option maxRecDepth 100000 in
theorem within_yes (v u : Value) (l t : List Am) (w : World) (hv : Row kAm w v l) (hu : Row kAm w u t) (hb : bothB l t = true) :
    Calls Tryz.prog 16 #[v, u] w fun e w' => e = .returned (.tuple #[.string (wiT l t), .int .i64 0]) ∧ Below w.heap.size w w' := by
  have VB : Hid (Calls Tryz.prog 31 #[v, u] w fun e w' => e = .returned (.bool true) ∧ Below w.heap.size w w') := Lib.hid (by have q := bothValid_any v u l t w hv hu; rw [hb] at q; exact q)
  have V := Lib.hid hv
  have U := Lib.hid hu
  obtain ⟨ua, uc, rfl, hlc, hcm⟩ := hu.len
  unfold maxLen at hcm
  obtain ⟨n, hn⟩ : ∃ n, n = t.length := ⟨_, rfl⟩
  rw [← hn] at hlc U VB ⊢
  have HN := Lib.hid hn
  obtain ⟨r, hr⟩ : ∃ r, r = wiT l t := ⟨_, rfl⟩
  rw [← hr]
  have HR := Lib.hid hr
  clear hb hv hu hn hr
  go_enter Tryz.func16, Tryz.ntmps16
  go_wp2_with fail
  refine VB.out.mono ?_
  rintro e w1 ⟨rfl, hb⟩
  have B1 := Lib.hid hb
  clear hb VB
  go_wp2_with fail
  go_loopg [16] n (fun g si wr => ∃ (k : Nat), k ≤ n ∧ g = n - k ∧ si = .int .i64 k ∧ (∀ j, j < k → overB l (t.getD j kAm.z) = false) ∧ Below w.heap.size w wr)
  case atStart => exact ⟨0, Nat.zero_le _, rfl, rfl, (fun j hj => by omega), B1.out⟩
  case round =>
    obtain ⟨k, hk, hg, rfl, hno, hb⟩ := hrel
    have R : Hid (gk = n - k ∧ (∀ j, j < k → overB l (t.getD j kAm.z) = false) ∧ Below w.heap.size w wr) := Lib.hid ⟨hg, hno, hb⟩
    clear hg hno hb
    by_cases hlt : k < n
    · obtain ⟨b, off, rfl, pc⟩ := (U.out.below R.out.2.2).at k (by rw [← HN.out]; exact hlt)
      obtain ⟨⟨xn, xv⟩, hx⟩ : ∃ x, x = t.getD k kAm.z := ⟨_, rfl⟩
      rw [← hx] at pc
      have X := Lib.hid hx
      have c0 : wr.cell? ⟨b, off + k * 2, none⟩ = some (.string xn) := pc 0 _ rfl
      have c1 : wr.cell? ⟨b, off + k * 2 + 1, none⟩ = some (.int .i64 xv) := pc 1 _ rfl
      clear hx pc
      have hlt' : (k : Int) < (n : Int) := by omega
      obtain ⟨y, hy⟩ : ∃ y, y = findA xn (toA l) := ⟨_, rfl⟩
      obtain ⟨yv, yb⟩ := y
      have OF : Hid (∀ W, Below w.heap.size w W → Calls Tryz.prog 33 #[v, .string xn] W fun e w' => e = .returned (.tuple #[.int .i64 yv, .bool yb]) ∧ Below W.heap.size W w') := Lib.hid fun W h => by
        have q := of_any v (toA l) xn W (amts_row (V.out.below h))
        rw [← hy] at q; exact q
      have OV : Hid (overB l ⟨xn, xv⟩ = decide (yv > xv)) := Lib.hid (by unfold overB; simp only; rw [← hy])
      clear hy
      have BA : Hid (∀ o, Below w.heap.size w (wr.alloc o) ∧ Below wr.heap.size wr (wr.alloc o)) := Lib.hid fun o => ⟨R.out.2.2.trans (((Below.refl _ wr).alloc (Nat.le_refl _) o).mono R.out.2.2.size), (Below.refl _ wr).alloc (Nat.le_refl _) o⟩
      go_wp2_with fail
      refine (OF.out _ (BA.out _).1).mono ?_
      rintro e w2 ⟨rfl, hb⟩
      have B2 := Lib.hid ((BA.out _).1.trans (hb.mono (BA.out _).1.size))
      have d0 : w2.cell? ⟨wr.heap.size, 0, none⟩ = some (.string xn) := (hb.cell (by simp)).trans (by rw [World.cell?_alloc_new]; rfl)
      have d1 : w2.cell? ⟨wr.heap.size, 1, none⟩ = some (.int .i64 xv) := (hb.cell (by simp)).trans (by rw [World.cell?_alloc_new]; rfl)
      clear hb
      by_cases ho : yv > xv
      · have go : decide (yv > xv) = true := decide_eq_true ho
        have E : Hid (r = xn) := Lib.hid (by
          rw [HR.out, wi_at (by rw [← HN.out]; exact hlt) R.out.2.1 (by rw [← X.out, OV.out]; exact go), ← X.out])
        go_wp2_with fail
        go_ret2
        exact ⟨by rw [E.out]; rfl, B2.out⟩
      · have go : decide (yv > xv) = false := decide_eq_false ho
        have NO : Hid (∀ j, j < k + 1 → overB l (t.getD j kAm.z) = false) := Lib.hid fun j hj => by
          by_cases e : j = k
          · subst e; rw [← X.out, OV.out]; exact go
          · exact R.out.2.1 j (by omega)
        go_wp2_with fail
        go_roundg (n - (k + 1))
        case measure => have := R.out.1; omega
        case rel => exact ⟨k + 1, by omega, rfl, by go_num, NO.out, B2.out⟩
    · have E : Hid (r = ⟨#[]⟩) := Lib.hid (by
        rw [HR.out]
        exact wi_none fun j hj => R.out.2.1 j (by rw [← HN.out] at hj; omega))
      go_wp2_with fail
      go_ret2
      exact ⟨by rw [E.out]; rfl, R.out.2.2⟩
end Go.Proofs.YtmkdmfjdhajiaaaGreatDoor
end S3

section S4
namespace Go.Proofs.YtmkdmfjdhajiaaaGreatDoor
open Go.RowKit Go.Lib
set_option maxRecDepth 100000 in
theorem sub_yes (x y : Int) (hy : 0 ≤ y) (h : y ≤ x) (hx : x ≤ 9223372036854775807) (w : World) : Calls Tryz.prog 34 #[.int .i64 x, .int .i64 y] w fun e w' => e = .returned (.tuple #[.int .i64 (x - y), .int .i64 0]) ∧ w' = w := by
  have gx : decide (y < 0) = false := decide_eq_false (by omega)
  have gy : decide (x < y) = false := decide_eq_false (by omega)
  have W : Hid (wrap64 (x - y) = x - y) := Lib.hid (by unfold wrap64; omega)
  clear hx hy h
  go_enter Tryz.func34, Tryz.ntmps34
  go_wp2_with fail
  go_ret2
  exact ⟨by first | rfl | (rw [W.out]; rfl) | (simp [W.out]), rfl⟩
set_option maxRecDepth 100000 in
theorem sub_no (x y : Int) (hy : 0 ≤ y) (h : x < y) (w : World) : Calls Tryz.prog 34 #[.int .i64 x, .int .i64 y] w fun e w' => ∃ c : Int, e = .returned (.tuple #[.int .i64 0, .int .i64 c]) ∧ c ≠ 0 ∧ w' = w := by
  have gx : decide (y < 0) = false := decide_eq_false (by omega)
  have gy : decide (x < y) = true := decide_eq_true (by omega)
  go_enter Tryz.func34, Tryz.ntmps34
  go_wp2_with fail
  go_ret2
  exact ⟨_, rfl, by decide, rfl⟩
set_option maxRecDepth 100000 in
theorem clone_row (v : Value) (l : List Am) (w : World) (hv : Row kAm w v l) (hpl : ∀ ad n c, v = .slice (some ad) n c → ∃ b off, ad = ⟨b, off, none⟩) (hz : l.length * 24 ≤ 140737488355328) :
    Calls Tryz.prog 22 #[v] w fun e w' => ∃ a n c, e = .returned (.slice a n c) ∧ OwnR kAm w.heap.size w' (.slice a n c) l ∧ Below w.heap.size w w' := by
  have V := hv
  obtain ⟨va, vc, rfl, hlc, hcm⟩ := hv.len
  cases va with
  | none =>
    have l0 : l = [] := by
      obtain ⟨a, cap, e, h1, h2, h0, _⟩ := hv
      simp only [Value.slice.injEq] at e
      have z : cap = 0 := h0 e.1.symm
      exact List.length_eq_zero_iff.1 (by omega)
    subst l0
    refine (Tryz.slices_Clone_nil 0 vc w).mono ?_
    rintro e w2 ⟨rfl, rfl⟩
    exact ⟨none, 0, 0, rfl, OwnR.nil _ _ _, Below.refl _ _⟩
  | some ad =>
    obtain ⟨b, off, rfl⟩ := hpl ad _ _ rfl
    obtain ⟨i0, hi, hz0, hz1, hz2⟩ := amt_info
    refine (Tryz.slices_Clone i0 _ 2 24 hi hz0 hz1 hz2 rfl (by decide) amt_size b off l.length vc (cellsR kAm l) w (by rw [cellsR_length okAm]; rfl) (by unfold maxLen; omega) hz (row_cells V) (cellsR_one okAm l)).mono ?_
    rintro e w2 ⟨v', rfl, hown, hne, hb2⟩
    have hO : OwnR kAm w.heap.size w2 v' l := hown
    obtain ⟨a', c', e'⟩ := hO.slice
    subst e'
    exact ⟨a', _, c', rfl, hO, hb2⟩
end Go.Proofs.YtmkdmfjdhajiaaaGreatDoor
end S4

section S5
namespace Go.Proofs.YtmkdmfjdhajiaaaGreatDoor
open Go.RowKit Go.Lib
/-- The names that only the second has, with 0. -/
def addN (l t : List Am) : List Am := (t.filter fun x => !(findA x.n (toA l)).2).map fun x => ⟨x.n, 0⟩
/-- An amount less what stands under its name. -/
def subV (t : List Am) (x : Am) : Am := ⟨x.n, x.v - (findA x.n (toA t)).1⟩
def mnD (l t : List Am) : List Am := l ++ addN l t
def mnB (l t : List Am) : Bool := (mnD l t).all fun x => decide ((findA x.n (toA t)).1 ≤ x.v)
def mnS (l t : List Am) : List Am := (mnD l t).map (subV t)
noncomputable def mnE (l t : List Am) : Int := if bothB l t = true then (if mnB l t = true then nrE (mnS l t) else 1) else 31
noncomputable def mnL (l t : List Am) : List Am := if bothB l t = true then (if mnB l t = true then nrL (mnS l t) else []) else []
theorem addN_app (l t s : List Am) : addN l (t ++ s) = addN l t ++ addN l s := by simp [addN]
theorem addN_len (l t : List Am) : (addN l t).length ≤ t.length := by unfold addN; rw [List.length_map]; exact List.length_filter_le _ _
theorem addN_yes {l : List Am} {x : Am} (h : (findA x.n (toA l)).2 = true) : addN l [x] = [] := by unfold addN; rw [List.filter_cons, h]; rfl
theorem addN_no {l : List Am} {x : Am} (h : (findA x.n (toA l)).2 = false) : addN l [x] = [⟨x.n, 0⟩] := by unfold addN; rw [List.filter_cons, h]; rfl
def mix (t D : List Am) (k : Nat) : List Am := (D.take k).map (subV t) ++ D.drop k
theorem mix_len (t D : List Am) (k : Nat) (h : k ≤ D.length) : (mix t D k).length = D.length := by unfold mix; simp; omega
theorem mix_zero (t D : List Am) : mix t D 0 = D := by simp [mix]
theorem mix_all (t D : List Am) (k : Nat) (h : D.length ≤ k) : mix t D k = D.map (subV t) := by unfold mix; rw [List.take_of_length_le h, List.drop_eq_nil_of_le h, List.append_nil]
theorem mix_at (t D : List Am) (k : Nat) (h : k < D.length) : (mix t D k).getD k kAm.z = D.getD k kAm.z := by
  unfold mix
  rw [List.getD_eq_getElem?_getD, List.getElem?_append_right (by simp; omega), List.getElem?_drop, List.getD_eq_getElem?_getD]
  congr 2
  simp; omega
theorem mix_set (t D : List Am) (k : Nat) (h : k < D.length) : mix t D (k + 1) = (mix t D k).set k (subV t (D.getD k kAm.z)) := by
  unfold mix
  rw [take_onez D k kAm.z h, List.map_append, List.drop_eq_getElem_cons h, List.set_append_right _ _ (by simp; omega)]
  have e : k - ((D.take k).map (subV t)).length = 0 := by simp; omega
  rw [e, List.set_cons_zero, List.append_assoc]; rfl
theorem mn_bad {l t : List Am} {x : Am} (hx : x ∈ mnD l t) (h : x.v < (findA x.n (toA t)).1) : mnB l t = false := by
  cases q : mnB l t with
  | false => rfl
  | true =>
    have := of_decide_eq_true (List.all_eq_true.1 q x hx)
    omega
theorem find_pos {t : List Am} (h : ∀ x ∈ t, 0 ≤ x.v) (hf : ∀ x ∈ t, x.v ≤ 9223372036854775807) (n : ByteArray) : 0 ≤ (findA n (toA t)).1 ∧ (findA n (toA t)).1 ≤ 9223372036854775807 := by
  induction t with
  | nil => exact ⟨by simp [toA, findA], by simp [toA, findA]⟩
  | cons x r ih =>
    have h1 := h x (by simp)
    have h2 := hf x (by simp)
    have h3 := ih (fun y hy => h y (by simp [hy])) (fun y hy => hf y (by simp [hy]))
    have e : toA (x :: r) = (x.n, x.v) :: toA r := rfl
    rw [e, findA]
    split
    · exact ⟨h1, h2⟩
    · exact h3
theorem both_of {l t : List Am} (h : bothB l t = true) : amsC l = 0 ∧ amsC t = 0 := by
  unfold bothB at h
  rw [Bool.and_eq_true] at h
  exact ⟨of_decide_eq_true h.1, of_decide_eq_true h.2⟩
theorem sub_bad (x y : Int) (hy : 0 ≤ y) (h : x < y) (w : World) : Calls Tryz.prog 34 #[.int .i64 x, .int .i64 y] w fun e w' => e = .returned (.tuple #[.int .i64 0, .int .i64 1]) ∧ w' = w := by
  have gx : decide (y < 0) = false := decide_eq_false (by omega)
  have gy : decide (x < y) = true := decide_eq_true (by omega)
  go_enter Tryz.func34, Tryz.ntmps34
  go_wp2_with fail
  go_ret2
  exact ⟨rfl, rfl⟩
set_option maxHeartbeats 4000000 in
set_option maxRecDepth 100000 in
theorem minus_no (v u : Value) (l t : List Am) (w : World) (hv : Row kAm w v l) (hu : Row kAm w u t) (hb : bothB l t = false) :
    Calls Tryz.prog 14 #[v, u] w fun e w' => e = .returned (.tuple #[.slice none 0 0, .int .i64 31]) ∧ Below w.heap.size w w' := by
  have VB : Hid (Calls Tryz.prog 31 #[v, u] w fun e w' => e = .returned (.bool false) ∧ Below w.heap.size w w') := Lib.hid (by have q := bothValid_any v u l t w hv hu; rw [hb] at q; exact q)
  clear hb hv hu
  go_enter Tryz.func14, Tryz.ntmps14
  go_wp2_with fail
  refine VB.out.mono ?_
  rintro e w1 ⟨rfl, hb⟩
  have B1 := Lib.hid hb
  clear hb
  go_wp2_with fail
  go_ret2
  exact ⟨rfl, B1.out⟩
set_option maxHeartbeats 8000000 in
set_option maxRecDepth 100000 in
theorem minus_yes (v u : Value) (l t : List Am) (w : World) (hv : Row kAm w v l) (hpl : ∀ ad n c, v = .slice (some ad) n c → ∃ b off, ad = ⟨b, off, none⟩) (hu : Row kAm w u t) (hb : bothB l t = true) (e0 : Int) (X : List Am)
    (hf : ∀ x ∈ l, x.v ≤ 9223372036854775807) (hft : ∀ x ∈ t, x.v ≤ 9223372036854775807) (hX : (mnB l t = false ∧ e0 = 1 ∧ X = []) ∨ (mnB l t = true ∧ e0 = nrE (mnS l t) ∧ X = nrL (mnS l t))) :
    Calls Tryz.prog 14 #[v, u] w fun e w' => ∃ a n c, e = .returned (.tuple #[.slice a n c, .int .i64 e0]) ∧ OwnR kAm w.heap.size w' (.slice a n c) X ∧ Below w.heap.size w w' := by
  have VB : Hid (Calls Tryz.prog 31 #[v, u] w fun e w' => e = .returned (.bool true) ∧ Below w.heap.size w w') := Lib.hid (by have q := bothValid_any v u l t w hv hu; rw [hb] at q; exact q)
  have V := Lib.hid hv
  have U := Lib.hid hu
  have PL := Lib.hid hpl
  have LT : Hid (l.length ≤ 16 ∧ t.length ≤ 16 ∧ (∀ x ∈ l, 0 ≤ x.v) ∧ (∀ x ∈ t, 0 ≤ x.v)) := Lib.hid (by
    obtain ⟨h1, h2⟩ := both_of hb
    rw [amsC_zero] at h1 h2
    obtain ⟨a1, a2, a3⟩ := ams_parts h1
    obtain ⟨b1, b2, b3⟩ := ams_parts h2
    exact ⟨a1, b1, am_pos a2, am_pos b2⟩)
  have FF := Lib.hid (And.intro hf hft)
  have HX := Lib.hid hX
  obtain ⟨ua, uc, rfl, hlc, hcm⟩ := hu.len
  unfold maxLen at hcm
  obtain ⟨n, hn⟩ : ∃ n, n = t.length := ⟨_, rfl⟩
  rw [← hn] at hlc U VB ⊢
  have HN := Lib.hid hn
  obtain ⟨va, vc, rfl, -, -⟩ := hv.len
  clear hb hv hu hn hpl hf hft hX
  go_enter Tryz.func14, Tryz.ntmps14
  go_wp2_with fail
  refine VB.out.mono ?_
  rintro e w1 ⟨rfl, hb⟩
  have B1 := Lib.hid hb
  clear hb VB
  go_wp2_with fail
  refine (clone_row (.slice va l.length vc) l w1 (V.out.below B1.out) PL.out (by have := LT.out; omega)).mono ?_
  rintro e w2 ⟨ca, cn, cc, rfl, ho, hb⟩
  have O2 : Hid (OwnR kAm w.heap.size w2 (.slice ca cn cc) l ∧ Below w.heap.size w w2) := Lib.hid ⟨ho.mono B1.out.size, B1.out.trans (hb.mono B1.out.size)⟩
  clear ho hb B1
  go_wp2_with fail
  go_loopg [6, 25] n (fun g sl si wr => ∃ (k : Nat) (sa : Option Addr) (m c : Nat), k ≤ n ∧ g = n - k ∧ si = .int .i64 k ∧ sl = .slice sa m c ∧ OwnR kAm w.heap.size wr (.slice sa m c) (l ++ addN l (t.take k)) ∧ Below w.heap.size w wr)
  case atStart => exact ⟨0, ca, cn, cc, Nat.zero_le _, rfl, rfl, rfl, by simpa [addN] using O2.out.1, O2.out.2⟩
  case round =>
    obtain ⟨k, sa, m, c, hk, hg, rfl, rfl, ho, hb⟩ := hrel
    have R : Hid (gk = n - k ∧ OwnR kAm w.heap.size wr (.slice sa m c) (l ++ addN l (t.take k)) ∧ Below w.heap.size w wr) := Lib.hid ⟨hg, ho, hb⟩
    clear hg ho hb
    by_cases hlt : k < n
    · have TK : Hid (t.take (k + 1) = t.take k ++ [t.getD k kAm.z]) := Lib.hid (take_onez t k kAm.z (by rw [← HN.out]; exact hlt))
      obtain ⟨b, off, rfl, pc⟩ := (U.out.below R.out.2.2).at k (by rw [← HN.out]; exact hlt)
      obtain ⟨⟨xn, xv⟩, hx⟩ : ∃ x, x = t.getD k kAm.z := ⟨_, rfl⟩
      rw [← hx] at pc TK
      have c0 : wr.cell? ⟨b, off + k * 2, none⟩ = some (.string xn) := pc 0 _ rfl
      have c1 : wr.cell? ⟨b, off + k * 2 + 1, none⟩ = some (.int .i64 xv) := pc 1 _ rfl
      clear hx pc
      have hlt' : (k : Int) < (n : Int) := by omega
      obtain ⟨y, hy⟩ : ∃ y, y = findA xn (toA l) := ⟨_, rfl⟩
      obtain ⟨yv, yb⟩ := y
      have OF : Hid (∀ W, Below w.heap.size w W → Calls Tryz.prog 33 #[.slice va l.length vc, .string xn] W fun e w' => e = .returned (.tuple #[.int .i64 yv, .bool yb]) ∧ Below W.heap.size W w') := Lib.hid fun W h => by
        have q := of_any (.slice va l.length vc) (toA l) xn W (amts_row (V.out.below h))
        rw [← hy] at q; exact q
      have YB : Hid ((findA (⟨xn, xv⟩ : Am).n (toA l)).2 = yb) := Lib.hid (by rw [← hy])
      clear hy
      have BA : Hid (∀ o, Below w.heap.size w (wr.alloc o) ∧ Below wr.heap.size wr (wr.alloc o)) := Lib.hid fun o => ⟨R.out.2.2.trans (((Below.refl _ wr).alloc (Nat.le_refl _) o).mono R.out.2.2.size), (Below.refl _ wr).alloc (Nat.le_refl _) o⟩
      go_wp2_with fail
      refine (OF.out _ (BA.out _).1).mono ?_
      rintro e w3 ⟨rfl, hb⟩
      have B3 : Hid (Below w.heap.size w w3 ∧ OwnR kAm w.heap.size w3 (.slice sa m c) (l ++ addN l (t.take k)) ∧ w.heap.size ≤ w3.heap.size) := Lib.hid ⟨(BA.out _).1.trans (hb.mono (BA.out _).1.size), (R.out.2.1.below (BA.out _).2).below hb, ((BA.out _).1.trans (hb.mono (BA.out _).1.size)).size⟩
      have d0 : w3.cell? ⟨wr.heap.size, 0, none⟩ = some (.string xn) := (hb.cell (by simp)).trans (by rw [World.cell?_alloc_new]; rfl)
      clear hb BA OF c0 c1
      cases yb with
      | true =>
        have AD : Hid (addN l [⟨xn, xv⟩] = []) := Lib.hid (addN_yes YB.out)
        go_wp2_with fail
        go_roundg (n - (k + 1))
        case measure => have := R.out.1; omega
        case rel => exact ⟨k + 1, sa, m, c, by omega, rfl, by go_num, rfl, by have q := B3.out.2.1; rw [TK.out, addN_app, AD.out, List.append_nil]; exact q, B3.out.1⟩
      | false =>
        have AD : Hid (addN l [⟨xn, xv⟩] = [⟨xn, 0⟩]) := Lib.hid (addN_no YB.out)
        have LN : Hid (((l ++ addN l (t.take k)).length + 1) * kAm.b ≤ 140737488355328) := Lib.hid (by
          have q := addN_len l (t.take k)
          rw [List.length_take] at q
          rw [List.length_append]
          have := LT.out
          show (l.length + (addN l (t.take k)).length + 1) * 24 ≤ _
          omega)
        go_wp2_with (at_builtin; refine app_rowB okAm (gg := w3.heap.size) rfl _ _ rfl rfl B3.out.2.1 B3.out.2.2 ⟨xn, 0⟩ (by simp) rfl rfl LN.out ?_; intro v' w' h1 h2)
        obtain ⟨a2, c2, rfl⟩ := h1.slice
        have Z2 : Hid (OwnR kAm w.heap.size w' (.slice a2 (l ++ addN l (t.take k) ++ [(⟨xn, 0⟩ : Am)]).length c2) (l ++ addN l (t.take (k + 1))) ∧ Below w.heap.size w w') := Lib.hid ⟨by rw [TK.out, addN_app, AD.out, ← List.append_assoc]; exact h1, B3.out.1.trans (grown_belowR h2 B3.out.2.1 B3.out.2.2)⟩
        clear h1 h2 d0
        go_wp2_with fail
        go_roundg (n - (k + 1))
        case measure => have := R.out.1; omega
        case rel => exact ⟨k + 1, a2, _, c2, by omega, rfl, by go_num, rfl, Z2.out.1, Z2.out.2⟩
    · obtain ⟨DD, hDD⟩ : ∃ DD, DD = mnD l t := ⟨_, rfl⟩
      have HD := Lib.hid hDD
      have S0 : Hid (OwnR kAm w.heap.size wr (.slice sa m c) DD ∧ Below w.heap.size w wr) := Lib.hid ⟨by have q := R.out.2.1; rw [List.take_of_length_le (by rw [← HN.out]; omega)] at q; rw [hDD]; exact q, R.out.2.2⟩
      have MM : Hid (m = DD.length) := Lib.hid (by obtain ⟨_, _, e⟩ := S0.out.1.slice; simp only [Value.slice.injEq] at e; exact e.2.1)
      have DL : Hid (DD.length ≤ 32 ∧ (∀ x ∈ DD, x.v ≤ 9223372036854775807)) := Lib.hid (by
        rw [hDD]
        unfold mnD
        refine ⟨?_, ?_⟩
        · rw [List.length_append]
          have := addN_len l t
          have := LT.out
          omega
        · intro x hx
          rcases List.mem_append.1 hx with q | q
          · exact FF.out.1 x q
          · unfold addN at q
            obtain ⟨y, _, rfl⟩ := List.mem_map.1 q
            simp only; omega)
      clear hDD
      have hin : ¬ (k : Int) < (n : Int) := by omega
      clear R
      go_wp2_with fail
      go_loopg [47] m (fun g si wr => ∃ (k : Nat), k ≤ m ∧ g = m - k ∧ si = .int .i64 k ∧ OwnR kAm w.heap.size wr (.slice sa m c) (mix t DD k) ∧ (∀ x ∈ DD.take k, (findA x.n (toA t)).1 ≤ x.v) ∧ Below w.heap.size w wr)
      case atStart => exact ⟨0, Nat.zero_le _, rfl, rfl, by rw [mix_zero]; exact S0.out.1, (fun x hx => by simp at hx), S0.out.2⟩
      case round =>
        obtain ⟨i, hi, hg, rfl, ho, hal, hb⟩ := hrel
        have R : Hid (gk = m - i ∧ OwnR kAm w.heap.size wr (.slice sa m c) (mix t DD i) ∧ (∀ x ∈ DD.take i, (findA x.n (toA t)).1 ≤ x.v) ∧ Below w.heap.size w wr) := Lib.hid ⟨hg, ho, hal, hb⟩
        clear hg ho hal hb
        by_cases him : i < m
        · have hiD : i < DD.length := by rw [← MM.out]; exact him
          have ML : Hid ((mix t DD i).length = DD.length) := Lib.hid (mix_len t DD i (by omega))
          obtain ⟨g, ea, -, hBg, hgl⟩ := R.out.2.1.someOf (by rw [ML.out]; omega)
          subst ea
          have AT : Hid ((mix t DD i).getD i kAm.z = DD.getD i kAm.z) := Lib.hid (mix_at t DD i hiD)
          have IN := Lib.hid (getD_in (d := kAm.z) hiD)
          have TK : Hid (DD.take (i + 1) = DD.take i ++ [DD.getD i kAm.z]) := Lib.hid (take_onez DD i kAm.z hiD)
          have MS : Hid (mix t DD (i + 1) = (mix t DD i).set i (subV t (DD.getD i kAm.z))) := Lib.hid (mix_set t DD i hiD)
          obtain ⟨⟨xn, xv⟩, hx⟩ : ∃ x, x = DD.getD i kAm.z := ⟨_, rfl⟩
          rw [← hx] at AT IN TK MS
          clear hx
          have YC : Hid (∀ W, OwnR kAm w.heap.size W (.slice (some ⟨g, 0, none⟩) m c) (mix t DD i) → W.cell? ⟨g, i * 2, none⟩ = some (.string xn) ∧ W.cell? ⟨g, i * 2 + 1, none⟩ = some (.int .i64 xv) ∧ W.frozen? ⟨g, i * 2 + 1, none⟩ = false) := Lib.hid fun W hW => by
            obtain ⟨cur, -, -, hq, -⟩ := hW.parts
            obtain ⟨b', off', e', hcc⟩ := (hW.row okAm).at i (by rw [ML.out]; exact hiD)
            simp only [Option.some.injEq, Addr.mk.injEq, and_true] at e'
            obtain ⟨rfl, rfl⟩ := e'
            rw [AT.out] at hcc
            have t0 := hcc 0 _ rfl
            have t1 := hcc 1 _ rfl
            rw [Nat.zero_add] at t0 t1
            exact ⟨t0, t1, frozen_row hq _⟩
          obtain ⟨c0, c1, -⟩ := YC.out wr R.out.2.1
          have him' : (i : Int) < (m : Int) := by omega
          have hmc : m ≤ c ∧ c ≤ 9223372036854775807 := by
            obtain ⟨_, _, e1, q1, q2⟩ := (R.out.2.1.row okAm).len
            simp only [Value.slice.injEq] at e1
            unfold maxLen at q2
            rw [← e1.2.2] at q1 q2
            rw [ML.out, ← MM.out] at q1
            exact ⟨q1, q2⟩
          obtain ⟨hmc1, hmc2⟩ := hmc
          obtain ⟨y, hy⟩ : ∃ y, y = findA xn (toA t) := ⟨_, rfl⟩
          obtain ⟨yv, yb⟩ := y
          have OF : Hid (∀ W, Below w.heap.size w W → Calls Tryz.prog 33 #[.slice ua n uc, .string xn] W fun e w' => e = .returned (.tuple #[.int .i64 yv, .bool yb]) ∧ Below W.heap.size W w') := Lib.hid fun W h => by
            have q := of_any (.slice ua n uc) (toA t) xn W (amts_row (U.out.below h))
            rw [← hy] at q; exact q
          have YV : Hid ((findA xn (toA t)).1 = yv ∧ 0 ≤ yv) := Lib.hid (by
            have q := find_pos LT.out.2.2.2 FF.out.2 xn
            rw [← hy] at q ⊢
            exact ⟨rfl, q.1⟩)
          clear hy
          have BA : Hid (∀ o, Below w.heap.size w (wr.alloc o) ∧ Below wr.heap.size wr (wr.alloc o)) := Lib.hid fun o => ⟨R.out.2.2.2.trans (((Below.refl _ wr).alloc (Nat.le_refl _) o).mono R.out.2.2.2.size), (Below.refl _ wr).alloc (Nat.le_refl _) o⟩
          go_wp2_with fail
          refine (OF.out _ (BA.out _).1).mono ?_
          rintro e w3 ⟨rfl, hb⟩
          have B3 : Hid (Below w.heap.size w w3 ∧ OwnR kAm w.heap.size w3 (.slice (some ⟨g, 0, none⟩) m c) (mix t DD i)) := Lib.hid ⟨(BA.out _).1.trans (hb.mono (BA.out _).1.size), (R.out.2.1.below (BA.out _).2).below hb⟩
          have d1 : w3.cell? ⟨wr.heap.size, 1, none⟩ = some (.int .i64 xv) := (hb.cell (by simp)).trans (by rw [World.cell?_alloc_new]; rfl)
          clear hb BA OF c0 c1
          by_cases hs : yv ≤ xv
          · have SB := Lib.hid (sub_yes xv yv YV.out.2 hs (DL.out.2 _ IN.out) w3)
            obtain ⟨-, u1, u2⟩ := YC.out w3 B3.out.2
            have ST : Hid (OwnR kAm w.heap.size (w3.setCell ⟨g, i * 2 + 1, none⟩ (.int .i64 (xv - yv))) (.slice (some ⟨g, 0, none⟩) m c) (mix t DD (i + 1)) ∧ Below w.heap.size w (w3.setCell ⟨g, i * 2 + 1, none⟩ (.int .i64 (xv - yv))) ∧ ∀ x ∈ DD.take (i + 1), (findA x.n (toA t)).1 ≤ x.v) := Lib.hid ⟨by
              rw [MS.out]
              exact B3.out.2.set okAm i 1 (by rw [ML.out]; exact hiD) (by decide) (subV t ⟨xn, xv⟩) (.int .i64 (xv - yv)) (by rw [AT.out]; unfold subV; simp only; rw [YV.out.1]; rfl), B3.out.1.setCell (p := ⟨g, i * 2 + 1, none⟩) hBg _, by
              intro x hx
              rw [TK.out] at hx
              rcases List.mem_append.1 hx with q | q
              · exact R.out.2.2.1 x q
              · rw [List.mem_singleton] at q; subst q; simp only; rw [YV.out.1]; exact hs⟩
            clear hs
            go_wp2_with fail
            refine SB.out.mono ?_
            rintro e w4 ⟨rfl, rfl⟩
            go_wp2_with fail
            obtain ⟨W7, hW7⟩ : ∃ W, W = w4.setCell ⟨g, i * 2 + 1, none⟩ (.int .i64 (xv - yv)) := ⟨_, rfl⟩
            rw [← hW7] at ST ⊢
            clear hW7 u1 u2 d1
            go_wp2_with fail
            go_roundg (m - (i + 1))
            case measure => have := R.out.1; omega
            case rel => exact ⟨i + 1, by omega, rfl, by go_num, ST.out.1, ST.out.2.2, ST.out.2.1⟩
          · have SB := Lib.hid (sub_bad xv yv YV.out.2 (by omega) w3)
            have BB : Hid (mnB l t = false) := Lib.hid (mn_bad (x := ⟨xn, xv⟩) (by rw [← HD.out]; exact IN.out) (by simp only; rw [YV.out.1]; omega))
            clear hs
            have EX : Hid (e0 = 1 ∧ X = []) := Lib.hid (HX.out.elim (fun q => q.2) (fun q => by rw [BB.out] at q; cases q.1))
            obtain rfl : e0 = 1 := EX.out.1
            obtain rfl : X = [] := EX.out.2
            go_wp2_with fail
            refine SB.out.mono ?_
            rintro e w4 ⟨rfl, rfl⟩
            go_wp2_with fail
            go_ret2
            exact ⟨none, 0, 0, rfl, OwnR.nil _ _ _, B3.out.1⟩
        · have hin2 : ¬ (i : Int) < (m : Int) := by omega
          have BB : Hid (mnB l t = true) := Lib.hid (by
            unfold mnB
            rw [← HD.out]
            have q := R.out.2.2.1
            rw [List.take_of_length_le (by rw [← MM.out]; omega)] at q
            exact List.all_eq_true.2 fun x hx => decide_eq_true (q x hx))
          have EX : Hid (e0 = nrE (mnS l t) ∧ X = nrL (mnS l t)) := Lib.hid (HX.out.elim (fun q => by rw [BB.out] at q; cases q.1) (fun q => q.2))
          have MX : Hid (mix t DD i = mnS l t) := Lib.hid (by unfold mnS; rw [← HD.out]; exact mix_all t DD i (by rw [← MM.out]; omega))
          have O9 : Hid (OwnR kAm w.heap.size wr (.slice sa m c) (mnS l t) ∧ Below w.heap.size w wr) := Lib.hid ⟨by rw [← MX.out]; exact R.out.2.1, R.out.2.2.2⟩
          have NR := Lib.hid (normal_any (.slice sa m c) (mnS l t) wr (O9.out.1.row okAm) (own_plQ O9.out.1) (by
            unfold mnS; rw [List.length_map, ← HD.out]; have := DL.out.1; omega) (by
            intro x hx
            unfold mnS at hx
            obtain ⟨y, hy, rfl⟩ := List.mem_map.1 hx
            rw [← HD.out] at hy
            have q1 := DL.out.2 y hy
            have q2 := (find_pos LT.out.2.2.2 FF.out.2 y.n).1
            unfold subV
            simp only
            omega))
          rw [← EX.out.1, ← EX.out.2] at NR
          go_wp2_with fail
          refine NR.out.mono ?_
          rintro e w5 ⟨a5, n5, c5, rfl, ho5, hb5⟩
          have S5 : Hid (OwnR kAm w.heap.size w5 (.slice a5 n5 c5) X ∧ Below w.heap.size w w5) := Lib.hid ⟨ho5.mono O9.out.2.size, O9.out.2.trans (hb5.mono O9.out.2.size)⟩
          clear ho5 hb5
          go_wp2_with fail
          go_ret2
          exact ⟨a5, n5, c5, rfl, S5.out.1, S5.out.2⟩
theorem minus_any (v u : Value) (l t : List Am) (w : World) (hv : Row kAm w v l) (hpl : ∀ ad n c, v = .slice (some ad) n c → ∃ b off, ad = ⟨b, off, none⟩) (hu : Row kAm w u t)
    (hf : ∀ x ∈ l, x.v ≤ 9223372036854775807) (hft : ∀ x ∈ t, x.v ≤ 9223372036854775807) :
    Calls Tryz.prog 14 #[v, u] w fun e w' => ∃ a n c, e = .returned (.tuple #[.slice a n c, .int .i64 (mnE l t)]) ∧ OwnR kAm w.heap.size w' (.slice a n c) (mnL l t) ∧ Below w.heap.size w w' := by
  cases hb : bothB l t with
  | false =>
    refine (minus_no v u l t w hv hu hb).mono ?_
    rintro e w' ⟨rfl, h⟩
    exact ⟨none, 0, 0, by unfold mnE; rw [hb]; rfl, by unfold mnL; rw [hb]; exact OwnR.nil _ _ _, h⟩
  | true =>
    refine minus_yes v u l t w hv hpl hu hb (mnE l t) (mnL l t) hf hft ?_
    unfold mnE mnL
    rw [hb]
    cases hB : mnB l t with
    | false => exact Or.inl ⟨rfl, rfl, rfl⟩
    | true => exact Or.inr ⟨rfl, rfl, rfl⟩
end Go.Proofs.YtmkdmfjdhajiaaaGreatDoor
end S5

section S6
namespace Go.Proofs.YtmkdmfjdhajiaaaGreatDoor
open Go.RowKit Go.Lib
theorem find_in (t : List Am) (n : ByteArray) : (findA n (toA t)).2 = true ↔ ∃ x ∈ t, x.n.data.toList = n.data.toList := by
  induction t with
  | nil => simp [toA, findA]
  | cons x r ih =>
    have e : toA (x :: r) = (x.n, x.v) :: toA r := rfl
    rw [e, findA]
    split
    · rename_i h; simp only [true_iff]; exact ⟨x, by simp, h⟩
    · rename_i h
      rw [ih]
      constructor
      · rintro ⟨y, hy, q⟩; exact ⟨y, by simp [hy], q⟩
      · rintro ⟨y, hy, q⟩
        rcases List.mem_cons.1 hy with e2 | e2
        · subst e2; exact absurd q h
        · exact ⟨y, e2, q⟩
theorem find_no {t : List Am} {n : ByteArray} (h : ¬ ∃ x ∈ t, x.n.data.toList = n.data.toList) : (findA n (toA t)).1 = 0 := by
  rw [findA_none n (toA t) (by
    intro y hy q
    unfold toA at hy
    obtain ⟨x, hx, rfl⟩ := List.mem_map.1 hy
    exact h ⟨x, hx, q⟩)]
theorem mem_ent {t : List Am} {n : List UInt8} : n ∈ (ent t).map Prod.fst ↔ ∃ x ∈ t, x.n.data.toList = n := by
  unfold ent
  rw [List.map_map, List.mem_map]
  exact Iff.rfl
theorem find_tot {t : List Am} (h : Str t) (n : ByteArray) : (findA n (toA t)).1 = Tot (ent t) n.data.toList := by
  induction t with
  | nil => rfl
  | cons x r ih =>
    have e : toA (x :: r) = (x.n, x.v) :: toA r := rfl
    have e2 : ent (x :: r) = (x.n.data.toList, x.v) :: ent r := rfl
    obtain ⟨h1, h2⟩ := List.pairwise_cons.1 h
    rw [e, e2, findA, Tot]
    simp only
    split
    · rename_i q
      rw [Tot_none (fun c => by
        obtain ⟨y, hy, qy⟩ := mem_ent.1 c
        have := h1 y hy
        rw [qy, ← q] at this
        exact List.lt_irrefl _ this)]
      simp
    · rw [ih h2]; omega
theorem ams_of {l : List Am} (h16 : l.length ≤ 16) (ha : l.all amB = true) (hs : Str l) : amsB l = true := by
  refine ams_yes h16 fun k hk => ⟨List.all_eq_true.1 ha _ (getD_in hk), fun h0 => ?_⟩
  rw [ltS_eq]
  refine decide_eq_true ?_
  have q := List.pairwise_iff_getElem.1 hs (k - 1) k (by omega) hk (by omega)
  rw [getD_ge _ _ _ (by omega), getD_ge _ _ _ hk]; exact q
theorem outL_congr {es fs : List En} (hn : ∀ n, n ∈ es.map Prod.fst ↔ n ∈ fs.map Prod.fst) (ht : ∀ n, Tot es n = Tot fs n) : outL es = outL fs := by
  have e1 : nmsOf es = nmsOf fs := nms_of_perm (ded_nodup _) (fun n => by rw [mem_ded]; exact hn n)
  unfold outL
  rw [e1]
  exact List.map_congr_left fun n _ => by rw [ht n]
theorem out_ent_names (es : List En) (n : List UInt8) : n ∈ (ent (outL es)).map Prod.fst ↔ n ∈ es.map Prod.fst := by
  rw [mem_ent, ← mem_nms]
  unfold outL
  constructor
  · rintro ⟨x, hx, rfl⟩
    obtain ⟨m, hm, rfl⟩ := List.mem_map.1 hx
    exact hm
  · intro h; exact ⟨_, List.mem_map.2 ⟨n, h, rfl⟩, rfl⟩
theorem out_str (es : List En) : Str (outL es) := by
  unfold Str outL
  rw [List.pairwise_map]
  exact (nms_rise es).imp fun h => h
theorem Tot_mem {t : List Am} (h : Str t) {x : Am} (hx : x ∈ t) : Tot (ent t) x.n.data.toList = x.v := by
  induction t with
  | nil => cases hx
  | cons y r ih =>
    obtain ⟨h1, h2⟩ := List.pairwise_cons.1 h
    have e2 : ent (y :: r) = (y.n.data.toList, y.v) :: ent r := rfl
    rw [e2, Tot]
    simp only
    rcases List.mem_cons.1 hx with e | e
    · subst e
      rw [if_pos rfl, Tot_none (fun c => by
        obtain ⟨z, hz, qz⟩ := mem_ent.1 c
        have := h1 z hz
        rw [qz] at this
        exact List.lt_irrefl _ this)]
      simp
    · have := h1 x e
      rw [if_neg (fun q => by rw [q] at this; exact List.lt_irrefl _ this), ih h2 e]; omega
theorem out_tot (es : List En) (n : List UInt8) : Tot (ent (outL es)) n = Tot es n := by
  by_cases h : n ∈ es.map Prod.fst
  · have hm : (⟨⟨n.toArray⟩, Tot es n⟩ : Am) ∈ outL es := by
      unfold outL
      exact List.mem_map.2 ⟨n, (mem_nms es n).2 h, rfl⟩
    have q := Tot_mem (out_str es) hm
    exact q
  · rw [Tot_none h, Tot_none (fun c => h ((out_ent_names es n).1 c))]
/-- Both lists stand, and Plus is not refused: what Minus and Within tell of the sum. -/
theorem plus_back {l t : List Am} (hb : bothB l t = true) (hf : ∀ x ∈ l, x.v ≤ 9223372036854775807) (he : nrE (l ++ t) = 0) :
    mnE (nrL (l ++ t)) t = 0 ∧ mnL (nrL (l ++ t)) t = (nrL (l ++ t)).map (subV t) ∧ (∀ x ∈ nrL (l ++ t), (subV t x).v = (findA x.n (toA l)).1) ∧ wiT l (nrL (l ++ t)) = ⟨#[]⟩ ∧ bothB l (nrL (l ++ t)) = true := by
  obtain ⟨h1, h2⟩ := both_of hb
  rw [amsC_zero] at h1 h2
  obtain ⟨a1, a2, a3⟩ := ams_parts h1
  obtain ⟨b1, b2, b3⟩ := ams_parts h2
  obtain ⟨c1, c2⟩ := nr_told he
  obtain ⟨d1, d2, d3, d4⟩ := nr_zero he
  have hv : ∀ x ∈ nrL (l ++ t), x.v = Tot (ent l) x.n.data.toList + Tot (ent t) x.n.data.toList := by
    intro x hx
    rw [d4] at hx
    have q := Tot_mem (out_str _) hx
    rw [out_tot, ent_app, Tot_app] at q
    exact q.symm
  have pl := fun n => Tot_pos (ent_pos (am_pos a2)) n
  have pt := fun n => Tot_pos (ent_pos (am_pos b2)) n
  have hin : ∀ x ∈ t, ∃ y ∈ nrL (l ++ t), y.n.data.toList = x.n.data.toList := by
    intro x hx
    rw [d4]
    have hm : x.n.data.toList ∈ nmsOf (ent (l ++ t)) := (mem_nms _ _).2 (mem_ent.2 ⟨x, by simp [hx], rfl⟩)
    refine ⟨⟨⟨x.n.data.toList.toArray⟩, Tot (ent (l ++ t)) x.n.data.toList⟩, ?_, rfl⟩
    unfold outL
    exact List.mem_map.2 ⟨_, hm, rfl⟩
  have ha : addN (nrL (l ++ t)) t = [] := by
    unfold addN
    rw [List.filter_eq_nil_iff.2 (fun x hx => by rw [(find_in _ _).2 (hin x hx)]; decide)]; rfl
  have hD : mnD (nrL (l ++ t)) t = nrL (l ++ t) := by unfold mnD; rw [ha, List.append_nil]
  have hB : mnB (nrL (l ++ t)) t = true := by
    unfold mnB
    rw [hD]
    refine List.all_eq_true.2 fun x hx => decide_eq_true ?_
    rw [find_tot b3, hv x hx]
    have := pl x.n.data.toList
    omega
  have hsv : ∀ x ∈ nrL (l ++ t), (subV t x).v = (findA x.n (toA l)).1 := by
    intro x hx
    unfold subV
    simp only
    rw [find_tot b3, find_tot a3, hv x hx]; omega
  have hbb : bothB (nrL (l ++ t)) t = true := by
    unfold bothB
    rw [Bool.and_eq_true]
    exact ⟨decide_eq_true ((amsC_zero _).2 c1), decide_eq_true ((amsC_zero _).2 h2)⟩
  have hS : mnS (nrL (l ++ t)) t = (nrL (l ++ t)).map (subV t) := by unfold mnS; rw [hD]
  obtain ⟨e1, e2, e3⟩ := ams_parts c1
  have hval : amsB ((nrL (l ++ t)).map (subV t)) = true := by
    refine ams_of (by rw [List.length_map]; exact e1) ?_ ?_
    · rw [List.all_map]
      refine List.all_eq_true.2 fun x hx => ?_
      show amB (subV t x) = true
      have q := List.all_eq_true.1 e2 x hx
      unfold amB at q ⊢
      rw [Bool.and_eq_true] at q ⊢
      refine ⟨decide_eq_true ?_, q.2⟩
      rw [hsv x hx, find_tot a3]
      exact pl _
    · unfold Str
      rw [List.pairwise_map]
      exact e3
  have hfit : ∀ x ∈ (nrL (l ++ t)).map (subV t), x.v ≤ 9223372036854775807 := by
    intro x hx
    obtain ⟨y, hy, rfl⟩ := List.mem_map.1 hx
    rw [hsv y hy]
    exact (find_pos (am_pos a2) hf y.n).2
  have nv := nr_valid hval hfit
  refine ⟨?_, ?_, hsv, ?_, ?_⟩
  · unfold mnE; rw [if_pos hbb, if_pos hB, hS]; exact nv.1
  · unfold mnL; rw [if_pos hbb, if_pos hB, hS]; exact nv.2
  · refine wi_none fun j hj => ?_
    have hx := getD_in (d := kAm.z) hj
    unfold overB
    refine decide_eq_false ?_
    rw [find_tot a3, hv _ hx]
    have := pt ((nrL (l ++ t)).getD j kAm.z).n.data.toList
    omega
  · unfold bothB
    rw [Bool.and_eq_true]
    exact ⟨decide_eq_true ((amsC_zero _).2 h1), decide_eq_true ((amsC_zero _).2 c1)⟩
/-- Those of the first whose names the second has. -/
def nam (l t : List Am) : List Am := l.filter fun x => (findA x.n (toA t)).2
theorem nam_app (l s t : List Am) : nam (l ++ s) t = nam l t ++ nam s t := by simp [nam]
theorem nam_len (l t : List Am) : (nam l t).length ≤ l.length := List.length_filter_le _ _
theorem nam_mem {l t : List Am} {x : Am} (h : x ∈ nam l t) : x ∈ l := (List.mem_filter.1 h).1
theorem res_empty : resB ⟨#[]⟩ = false := by rfl
theorem nam_minus {l t : List Am} (hb : bothB l t = true) (hf : ∀ x ∈ l, x.v ≤ 9223372036854775807) (hf' : ∀ x ∈ t, x.v ≤ 9223372036854775807) :
    bothB t (nam l t) = true ∧ ((mnE t (nam l t) = 0 ∧ wiT l t = ⟨#[]⟩) ∨ (mnE t (nam l t) = 1 ∧ 0 < (wiT l t).size)) := by
  obtain ⟨h1, h2⟩ := both_of hb
  rw [amsC_zero] at h1 h2
  obtain ⟨a1, a2, a3⟩ := ams_parts h1
  obtain ⟨b1, b2, b3⟩ := ams_parts h2
  have n3 : Str (nam l t) := List.Pairwise.sublist List.filter_sublist a3
  have hn : amsB (nam l t) = true := ams_of (Nat.le_trans (nam_len l t) a1) (List.all_eq_true.2 fun x hx => List.all_eq_true.1 a2 x (nam_mem hx)) n3
  have hbb : bothB t (nam l t) = true := by
    unfold bothB
    rw [Bool.and_eq_true]
    exact ⟨decide_eq_true ((amsC_zero _).2 h2), decide_eq_true ((amsC_zero _).2 hn)⟩
  have ha : addN t (nam l t) = [] := by
    unfold addN
    rw [List.filter_eq_nil_iff.2 (fun x hx => by
      have q := (List.mem_filter.1 hx).2
      rw [q]; decide)]; rfl
  have hD : mnD t (nam l t) = t := by unfold mnD; rw [ha, List.append_nil]
  have hfe : ∀ x ∈ t, (findA x.n (toA (nam l t))).1 = (findA x.n (toA l)).1 := by
    intro x hx
    by_cases q : ∃ y ∈ l, y.n.data.toList = x.n.data.toList
    · obtain ⟨y, hy, e⟩ := q
      have hy2 : y ∈ nam l t := List.mem_filter.2 ⟨hy, (find_in t y.n).2 ⟨x, hx, e.symm⟩⟩
      have e1 := find_tot n3 x.n
      have e2 := find_tot a3 x.n
      rw [← e, Tot_mem n3 hy2] at e1
      rw [← e, Tot_mem a3 hy] at e2
      rw [e1, e2]
    · rw [find_no q, find_no (fun ⟨y, hy, e⟩ => q ⟨y, nam_mem hy, e⟩)]
  refine ⟨hbb, ?_⟩
  by_cases hB : mnB t (nam l t) = true
  · left
    have hB2 : ∀ x ∈ t, (findA x.n (toA (nam l t))).1 ≤ x.v := fun x hx => of_decide_eq_true (List.all_eq_true.1 hB x (by rw [hD]; exact hx))
    have hS : mnS t (nam l t) = t.map (subV (nam l t)) := by unfold mnS; rw [hD]
    have hval : amsB (t.map (subV (nam l t))) = true := by
      refine ams_of (by rw [List.length_map]; exact b1) ?_ ?_
      · rw [List.all_map]
        refine List.all_eq_true.2 fun x hx => ?_
        show amB (subV (nam l t) x) = true
        have q := List.all_eq_true.1 b2 x hx
        unfold amB at q ⊢
        rw [Bool.and_eq_true] at q ⊢
        refine ⟨decide_eq_true ?_, q.2⟩
        have := hB2 x hx
        unfold subV
        simp only
        omega
      · unfold Str
        rw [List.pairwise_map]
        exact b3
    have hfit : ∀ x ∈ t.map (subV (nam l t)), x.v ≤ 9223372036854775807 := by
      intro x hx
      obtain ⟨y, hy, rfl⟩ := List.mem_map.1 hx
      have := hf' y hy
      have := (find_pos (t := nam l t) (fun z hz => am_pos a2 z (nam_mem hz)) (fun z hz => hf z (nam_mem hz)) y.n).1
      unfold subV
      simp only
      omega
    refine ⟨?_, ?_⟩
    · unfold mnE; rw [if_pos hbb, if_pos hB, hS]; exact (nr_valid hval hfit).1
    · refine wi_none fun j hj => ?_
      have hx := getD_in (d := kAm.z) hj
      unfold overB
      refine decide_eq_false ?_
      have := hB2 _ hx
      rw [hfe _ hx] at this
      omega
  · right
    refine ⟨by unfold mnE; rw [if_pos hbb, if_neg hB], ?_⟩
    have hex : ∃ x ∈ t, x.v < (findA x.n (toA l)).1 := by
      refine Classical.byContradiction fun c => hB ?_
      unfold mnB
      rw [hD]
      refine List.all_eq_true.2 fun x hx => decide_eq_true ?_
      rw [hfe x hx]
      exact Int.not_lt.1 fun q => c ⟨x, hx, q⟩
    have hs : (t.find? (overB l)).isSome = true := by
      rw [List.find?_isSome]
      obtain ⟨x, hx, q⟩ := hex
      exact ⟨x, hx, decide_eq_true q⟩
    obtain ⟨y, hy⟩ := Option.isSome_iff_exists.1 hs
    have hm := List.mem_of_find?_eq_some hy
    unfold wiT
    rw [hy]
    show 0 < y.n.size
    have q := List.all_eq_true.1 b2 y hm
    unfold amB at q
    rw [Bool.and_eq_true] at q
    rcases Nat.eq_zero_or_pos y.n.size with z | z
    · have e : y.n = ⟨#[]⟩ := by
        have : y.n.data.size = 0 := z
        have e2 : y.n.data = #[] := Array.eq_empty_of_size_eq_zero this
        cases hh : y.n; rw [hh] at e2; simp only at e2; rw [e2]
      rw [e, res_empty] at q
      exact absurd q.2 (by decide)
    · exact z
/-- Three lists, added up in two ways. -/
theorem plus_three {l t s : List Am} (h1 : plE l t = 0) (h2 : plE (plL l t) s = 0) (h3 : plE t s = 0) (h4 : plE l (plL t s) = 0) : plL (plL l t) s = plL l (plL t s) := by
  have key : ∀ {a b : List Am}, plE a b = 0 → bothB a b = true ∧ nrE (a ++ b) = 0 ∧ plL a b = outL (ent (a ++ b)) := by
    intro a b h
    unfold plE at h
    split at h
    · rename_i q
      refine ⟨q, h, ?_⟩
      unfold plL
      rw [if_pos q]
      exact (nr_zero h).2.2.2
    · omega
  obtain ⟨-, -, e1⟩ := key h1
  obtain ⟨-, -, e2⟩ := key h2
  obtain ⟨-, -, e3⟩ := key h3
  obtain ⟨-, -, e4⟩ := key h4
  rw [e2, e4, e1, e3]
  refine outL_congr (fun n => ?_) (fun n => ?_)
  · simp only [ent_app, List.map_append, List.mem_append, out_ent_names]
    constructor
    · rintro ((h | h) | h)
      · exact Or.inl h
      · exact Or.inr (Or.inl h)
      · exact Or.inr (Or.inr h)
    · rintro (h | h | h)
      · exact Or.inl (Or.inl h)
      · exact Or.inl (Or.inr h)
      · exact Or.inr h
  · simp only [ent_app, Tot_app, out_tot]; omega
theorem nr_perm' {l t : List Am} (h : t.Perm l) : nrE t = nrE l ∧ nrL t = nrL l := by
  have h1 : t.all amB = l.all amB := h.all_eq
  have h2 : Ov (ent t) ↔ Ov (ent l) := Ov_perm (ent_perm h)
  have h3 : outL (ent t) = outL (ent l) := outL_perm (ent_perm h)
  have h4 : (nmsOf (ent t)).length = (nmsOf (ent l)).length := by rw [← out_len, h3, out_len]
  unfold nrE nrL
  rw [h1, h3, h4]
  by_cases q : Ov (ent l)
  · have q2 := h2.2 q
    simp only [q, q2]; exact ⟨trivial, trivial⟩
  · have q2 : ¬ Ov (ent t) := fun c => q (h2.1 c)
    simp only [q, q2]; exact ⟨trivial, trivial⟩
theorem plus_comm {l t : List Am} : plE t l = plE l t ∧ plL t l = plL l t := by
  have hb : bothB t l = bothB l t := by unfold bothB; rw [Bool.and_comm]
  have hp := nr_perm' (l := l ++ t) (t := t ++ l) List.perm_append_comm
  unfold plE plL
  rw [hb, hp.1, hp.2]; exact ⟨rfl, rfl⟩
theorem plus_told (l t : List Am) : (plL l t).length ≤ 16 ∧ (∀ x ∈ plL l t, x.v ≤ 9223372036854775807) ∧ (plE l t ≠ 0 → plL l t = []) := by
  by_cases h : plE l t = 0
  · have h' := h
    unfold plE at h
    split at h
    · rename_i q
      have e : plL l t = nrL (l ++ t) := by unfold plL; rw [if_pos q]
      have q2 := nr_told h
      rw [e]
      exact ⟨(ams_parts q2.1).1, q2.2, fun c => absurd h' c⟩
    · omega
  · have e : plL l t = [] := by
      unfold plE at h
      unfold plL
      split
      · rename_i q
        rw [if_pos q] at h
        unfold nrE at h
        unfold nrL
        repeat' split
        all_goals first | rfl | (simp_all; done)
      · rfl
    rw [e]
    exact ⟨by simp, (fun x hx => by cases hx), fun _ => rfl⟩
theorem plus_no {l t : List Am} (h : bothB l t = false) : plE l t = 31 ∧ plL l t = [] := by unfold plE plL; rw [h]; exact ⟨rfl, rfl⟩
theorem plus_yes {l t : List Am} (h : bothB l t = true) : plE l t = nrE (l ++ t) ∧ plL l t = nrL (l ++ t) := by unfold plE plL; rw [h]; exact ⟨rfl, rfl⟩
end Go.Proofs.YtmkdmfjdhajiaaaGreatDoor
end S6

section S7
namespace Go.Proofs.YtmkdmfjdhajiaaaGreatDoor
open Go.RowKit Go.Lib
theorem own_pl {B : Nat} {w : World} {v : Value} {l : List Am} (H : OwnR kAm B w v l) : ∀ ad n c, v = .slice (some ad) n c → ∃ b off, ad = ⟨b, off, none⟩ := by
  obtain ⟨_, ⟨hv, hn⟩ | ⟨g, cap, cur, hv, _⟩⟩ := H
  · intro ad n c e; rw [hv] at e; injection e with e; cases e
  · intro ad n c e; rw [hv] at e; injection e with e; injection e with e; exact ⟨g, 0, e.symm⟩
theorem nr_perm {l t : List Am} (h : t.Perm l) : nrE t = nrE l ∧ nrL t = nrL l := by
  have h1 : t.all amB = l.all amB := h.all_eq
  have h2 : Ov (ent t) ↔ Ov (ent l) := Ov_perm (ent_perm h)
  have h3 : outL (ent t) = outL (ent l) := outL_perm (ent_perm h)
  have h4 : (nmsOf (ent t)).length = (nmsOf (ent l)).length := by rw [← out_len, h3, out_len]
  unfold nrE nrL
  rw [h1, h3, h4]
  by_cases q : Ov (ent l)
  · have q2 := h2.2 q
    simp only [q, q2]; exact ⟨trivial, trivial⟩
  · have q2 : ¬ Ov (ent t) := fun c => q (h2.1 c)
    simp only [q, q2]; exact ⟨trivial, trivial⟩
theorem behind_n (v : Value) (l : List Am) (m : Amt) (w : World) (n : Nat) (hn : n = l.length) (hv : Row kAm w v l) (hm : Mark w m) (hl : (n + 1) * 24 ≤ 140737488355328) :
    Calls Tryz.prog 5 #[v] w fun e w' => ∃ g cap, e = .returned (.slice (some ⟨g, 0, none⟩) (n + 1) cap) ∧ n + 1 ≤ cap ∧ cap ≤ 9223372036854775807 ∧ Row kAm w' (.slice (some ⟨g, 0, none⟩) n cap) l ∧ Below w.heap.size w w' := by
  subst hn; exact behind_row v l m w hv hm hl
theorem normal_n (v : Value) (l L : List Am) (E : Int) (k : Nat) (w : World) (hv : Row kAm w v l) (hpl : ∀ ad n c, v = .slice (some ad) n c → ∃ b off, ad = ⟨b, off, none⟩) (hz : l.length * 24 ≤ 140737488355328) (hf : ∀ x ∈ l, x.v ≤ 9223372036854775807)
    (hE : nrE l = E) (hL : nrL l = L) (hk : k = L.length) :
    Calls Tryz.prog 9 #[v] w fun e w' => ∃ a c, e = .returned (.tuple #[.slice a k c, .int .i64 E]) ∧ k ≤ c ∧ c ≤ 9223372036854775807 ∧ Row kAm w' (.slice a k c) L ∧ Below w.heap.size w w' := by
  subst hE hL hk
  refine (normal_any v l w hv hpl hz hf).mono ?_
  rintro e w' ⟨a, n, c, rfl, ho, hb⟩
  obtain ⟨a', c', e', h1, h2⟩ := (ho.row okAm).len
  simp only [Value.slice.injEq] at e'
  obtain ⟨rfl, rfl, rfl⟩ := e'
  unfold maxLen at h2
  exact ⟨a, c, rfl, h1, h2, ho.row okAm, hb⟩
theorem row_sum {l : List Am} (h : nrE l = 0) {i : Nat} (hi : i < (nrL l).length) {y : Am} (hy : y = (nrL l).getD i kAm.z) : Tot (ent l) y.n.data.toList = y.v ∧ y.v ≤ 9223372036854775807 ∧ ∃ x ∈ l, x.n.data.toList = y.n.data.toList := by
  have hq := (nr_told h).2 y (by rw [hy]; exact getD_in hi)
  obtain ⟨h1, h2, h3, h4⟩ := nr_zero h
  rw [h4] at hy hi
  have hi' : i < (nmsOf (ent l)).length := by rw [← out_len]; exact hi
  rw [out_at _ _ hi'] at hy
  subst hy
  refine ⟨rfl, hq, ?_⟩
  have hm : (nmsOf (ent l)).getD i [] ∈ nmsOf (ent l) := getD_in hi'
  rw [mem_nms] at hm
  unfold ent at hm
  rw [List.map_map] at hm
  obtain ⟨x, hx, e⟩ := List.mem_map.1 hm
  exact ⟨x, hx, e⟩
theorem row_names {l : List Am} (h : nrE l = 0) {x : Am} (hx : x ∈ l) : ∃ y ∈ nrL l, y.n.data.toList = x.n.data.toList := by
  obtain ⟨h1, h2, h3, h4⟩ := nr_zero h
  have hm : x.n.data.toList ∈ nmsOf (ent l) := by
    rw [mem_nms]; unfold ent; rw [List.map_map]
    exact List.mem_map.2 ⟨x, hx, rfl⟩
  refine ⟨⟨⟨x.n.data.toList.toArray⟩, Tot (ent l) x.n.data.toList⟩, ?_, rfl⟩
  rw [h4]; unfold outL
  exact List.mem_map.2 ⟨_, hm, rfl⟩
def parS (l : List Am) (n : List UInt8) (j : Nat) : Int := Tot (ent (l.take j)) n
def parT (l : List Am) (n : List UInt8) (j : Nat) : Bool := (l.take j).any fun x => decide (x.n.data.toList = n)
theorem par_yes {l : List Am} {n : List UInt8} {j : Nat} (hj : j < l.length) (h : (l.getD j kAm.z).n.data.toList = n) : parS l n (j + 1) = parS l n j + (l.getD j kAm.z).v ∧ parT l n (j + 1) = true := by
  unfold parS parT
  rw [take_onez l j kAm.z hj, ent_app, Tot_app, List.any_append]
  refine ⟨?_, ?_⟩
  · congr 1
    show Tot [((l.getD j kAm.z).n.data.toList, (l.getD j kAm.z).v)] n = _
    rw [Tot_one, if_pos h]
  · rw [List.any_cons, List.any_nil, decide_eq_true h]; simp
theorem par_no {l : List Am} {n : List UInt8} {j : Nat} (hj : j < l.length) (h : ¬ (l.getD j kAm.z).n.data.toList = n) : parS l n (j + 1) = parS l n j ∧ parT l n (j + 1) = parT l n j := by
  unfold parS parT
  rw [take_onez l j kAm.z hj, ent_app, Tot_app, List.any_append]
  refine ⟨?_, ?_⟩
  · have : Tot [((l.getD j kAm.z).n.data.toList, (l.getD j kAm.z).v)] n = 0 := by rw [Tot_one, if_neg h]
    show _ + Tot [((l.getD j kAm.z).n.data.toList, (l.getD j kAm.z).v)] n = _
    rw [this]; omega
  · rw [List.any_cons, List.any_nil, decide_eq_false h]; simp
theorem par_le {l : List Am} (h : nrE l = 0) (n : List UInt8) (j : Nat) : 0 ≤ parS l n j ∧ parS l n j ≤ 9223372036854775807 := by
  obtain ⟨h1, h2, h3, h4⟩ := nr_zero h
  have hp := ent_pos (am_pos h1)
  have hs : ∀ m, (∀ x ∈ m, x ∈ l) → 0 ≤ Tot (ent m) n := fun m hm => Tot_pos (fun e he => by
    unfold ent at he
    obtain ⟨x, hx, rfl⟩ := List.mem_map.1 he
    exact hp _ (List.mem_map.2 ⟨x, hm x hx, rfl⟩)) n
  have e : Tot (ent l) n = Tot (ent (l.take j)) n + Tot (ent (l.drop j)) n := by rw [← Tot_app, ← ent_app, List.take_append_drop]
  have q1 := hs (l.take j) (fun x hx => List.mem_of_mem_take hx)
  have q2 := hs (l.drop j) (fun x hx => List.mem_of_mem_drop hx)
  have q3 : ¬ 9223372036854775807 < Tot (ent l) n := fun c => h2 ⟨n, c⟩
  unfold parS
  omega
theorem wrap_sum {x : Int} (h : 0 ≤ x ∧ x ≤ 9223372036854775807) : wrap64 x = x := by unfold wrap64; omega

end Go.Proofs.YtmkdmfjdhajiaaaGreatDoor
end S7

section S8
namespace Go.Proofs.YtmkdmfjdhajiaaaGreatDoor
open Go.RowKit Go.Lib
open Go.Sort (grow)
set_option maxHeartbeats 4000000 in
set_option maxRecDepth 100000 in
theorem plus_bad (v u : Value) (l t : List Am) (w : World) (hv : Row kAm w v l) (hu : Row kAm w u t) (hb : bothB l t = false) :
    Calls Tryz.prog 12 #[v, u] w fun e w' => e = .returned (.tuple #[.slice none 0 0, .int .i64 31]) ∧ Below w.heap.size w w' := by
  have VB : Hid (Calls Tryz.prog 31 #[v, u] w fun e w' => e = .returned (.bool false) ∧ Below w.heap.size w w') := Lib.hid (by have q := bothValid_any v u l t w hv hu; rw [hb] at q; exact q)
  clear hb hv hu
  go_enter Tryz.func12, Tryz.ntmps12
  go_wp2_with fail
  refine VB.out.mono ?_
  rintro e w1 ⟨rfl, hb⟩
  have B1 := Lib.hid hb
  clear hb
  go_wp2_with fail
  go_ret2
  exact ⟨rfl, B1.out⟩
theorem plus_all (v u : Value) (l t : List Am) (w : World) (hv : Row kAm w v l) (hu : Row kAm w u t) (hf : ∀ x ∈ l, x.v ≤ 9223372036854775807) (hf' : ∀ x ∈ t, x.v ≤ 9223372036854775807) :
    Calls Tryz.prog 12 #[v, u] w fun e w' => ∃ a n c, e = .returned (.tuple #[.slice a n c, .int .i64 (plE l t)]) ∧ OwnR kAm w.heap.size w' (.slice a n c) (plL l t) ∧ Below w.heap.size w w' := by
  cases hb : bothB l t with
  | false =>
    refine (plus_bad v u l t w hv hu hb).mono ?_
    rintro e w' ⟨rfl, h⟩
    obtain ⟨h1, h2⟩ := plus_no hb
    exact ⟨none, 0, 0, by rw [h1], by rw [h2]; exact OwnR.nil _ _ _, h⟩
  | true =>
    obtain ⟨h1, h2⟩ := both_of hb
    rw [amsC_zero] at h1 h2
    have a1 := (ams_parts h1).1
    have b1 := (ams_parts h2).1
    exact plus_any v u l t w hv hu (by omega) hf hf'
end Go.Proofs.YtmkdmfjdhajiaaaGreatDoor
end S8
