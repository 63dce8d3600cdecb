/-
  Parse: of every text below 2^32 bytes.
-/
import Derived.Test.YtjlpcklcnabldaaDoorLReadA
import Derived.Test.YtjlpcklcnabldaaDoorLWrB
import Derived.Test.YtjlpcklcnabldaaDoorLParseK
namespace Go.Proofs.YtjlpcklcnabldaaDoor.L
open Go.RowKit
def ps3 (s : List UInt8) : Option (List T3) :=
  if s = [] then some [] else match all3 (spl9 44 s) with
  | none => none
  | some xs => if ok3 xs = true then some xs else none
theorem all3_snoc (ps : List (List UInt8)) (p : List UInt8) : all3 (ps ++ [p]) = match all3 ps, rd3 p with
  | some xs, some x => some (xs ++ [x])
  | _, _ => none := by
  induction ps with
  | nil => cases h : rd3 p <;> simp [all3, h]
  | cons q r ih =>
    rw [List.cons_append, all3, ih, all3]
    cases rd3 q <;> cases all3 r <;> cases rd3 p <;> rfl
theorem all3_none {ps : List (List UInt8)} {p : List UInt8} (h : p ∈ ps) (hp : rd3 p = none) : all3 ps = none := by
  induction ps with
  | nil => simp at h
  | cons q r ih =>
    rw [all3]
    rw [List.mem_cons] at h
    rcases h with rfl | h
    · rw [hp]
    · rw [ih h]
      cases rd3 q <;> rfl
theorem OwnS.set_ne {B : Nat} {w : World} {v : Value} {ts : List ByteArray} (h : OwnS B w v ts) {p : Addr} (hp : v.ownBlock ≠ some p.block) (u : Value) : OwnS B (w.setCell p u) v ts := by
  obtain ⟨h1, h | ⟨g, cap, cur, hv, hB, hg, hr⟩⟩ := h
  · exact ⟨h1, .inl h⟩
  · refine ⟨h1, .inr ⟨g, cap, cur, hv, hB, ?_, hr⟩⟩
    have : p.block ≠ g := by
      intro e
      apply hp
      rw [hv, e]
      rfl
    simp [World.setCell, Array.getElem?_modify, this, hg]
def zeroT : Trm := ⟨⟨#[]⟩, 0, .slice none 0 0, []⟩
/-- A row of terms, as it was made. -/
def RowT (w : World) (g : Nat) (xs : List Trm) : Prop := w.heap[g]? = some (.cells (cellsT xs).toArray 36 (0, 0))
theorem RowT.below {w w' : World} {g : Nat} {xs : List Trm} (h : RowT w g xs) (hg : g < w.heap.size) (hb : Below w.heap.size w w') : RowT w' g xs := by
  unfold RowT at *
  rw [hb.block g hg]; exact h
theorem RowT.lt {w : World} {g : Nat} {xs : List Trm} (h : RowT w g xs) : g < w.heap.size := by
  unfold RowT at h
  rcases Nat.lt_or_ge g w.heap.size with h' | h'
  · exact h'
  · rw [Array.getElem?_eq_none h'] at h; cases h
theorem RowT.cell {w : World} {g : Nat} {xs : List Trm} (h : RowT w g xs) (k i : Nat) (hi : i < 3) (hk : k < xs.length) : w.cell? ⟨g, k * 3 + i, none⟩ = (xs.getD k zeroT).cells[i]? ∧ w.frozen? ⟨g, k * 3 + i, none⟩ = false := by
  refine ⟨?_, frozen_of_row _ _ _ _ _ h⟩
  rw [cell_of_row _ _ _ _ _ _ h, ← cellsT_at xs k i hi zeroT hk]
  simp
theorem cellsT_set (xs : List Trm) (k : Nat) (hk : k < xs.length) (y : Trm) : cellsT (xs.set k y) = (((cellsT xs).set (k * 3) (.string y.key)).set (k * 3 + 1) (.int .i64 y.how)).set (k * 3 + 2) y.vals := by
  induction xs generalizing k with
  | nil => simp at hk
  | cons x r ih =>
    cases k with
    | zero =>
      show y.cells ++ cellsT r = _
      show _ = (((x.cells ++ cellsT r).set (0 * 3) _).set (0 * 3 + 1) _).set (0 * 3 + 2) _
      rfl
    | succ k =>
      show x.cells ++ cellsT (r.set k y) = (((x.cells ++ cellsT r).set ((k + 1) * 3) _).set ((k + 1) * 3 + 1) _).set ((k + 1) * 3 + 2) _
      have l : x.cells.length = 3 := rfl
      rw [ih k (by simpa using hk), List.set_append_right _ _ (by omega), List.set_append_right _ _ (by omega), List.set_append_right _ _ (by omega), l, show (k + 1) * 3 - 3 = k * 3 by omega, show (k + 1) * 3 + 1 - 3 = k * 3 + 1 by omega, show (k + 1) * 3 + 2 - 3 = k * 3 + 2 by omega]
theorem RowT.set {w : World} {g : Nat} {xs : List Trm} (h : RowT w g xs) (k : Nat) (hk : k < xs.length) (y : Trm) : RowT (set3 w g (k * 3) (.string y.key) (.int .i64 y.how) y.vals) g (xs.set k y) := by
  unfold RowT at *
  rw [cellsT_set xs k hk y]
  unfold set3
  simp [World.setCell, Array.getElem?_modify, h]
theorem made_trm : ∀ n : Nat, n ≤ 9 → madeCells (Value.agg #[.string ⟨#[]⟩, .int .i64 0, .slice none 0 0]).cells (n * 3) = (cellsT (List.replicate n zeroT)).toArray
  | 0, _ => by kernel_rfl
  | 1, _ => by kernel_rfl
  | 2, _ => by kernel_rfl
  | 3, _ => by kernel_rfl
  | 4, _ => by kernel_rfl
  | 5, _ => by kernel_rfl
  | 6, _ => by kernel_rfl
  | 7, _ => by kernel_rfl
  | 8, _ => by kernel_rfl
  | 9, _ => by kernel_rfl
  | n + 10, h => by omega
theorem info_trm' : (Tryd.prog.info? 36).map (fun i => (i.zero, i.size, i.bytes)) = some (some (.agg #[.string ⟨#[]⟩, .int .i64 0, .slice none 0 0]), 3, 48) := by kernel_rfl
theorem make_trm (n : Nat) (hn : n ≤ 9) (w : World) : (Instr.makeSlice 31 (.int .i64 n) (.int .i64 n)).run Tryd.prog w = .ok (.slice (some ⟨w.heap.size, 0, none⟩) n n) (w.alloc (.cells (cellsT (List.replicate n zeroT)).toArray 36)) := by
  obtain ⟨i0, hi, hz0, hz1, hz2⟩ := info_parts info_trm'
  have h := run_make (P := Tryd.prog) w 31 36 i0 _ Tryd.underlying31 hi hz0 .i64 .i64 n n (by omega) (by omega) (by rw [hz2]; omega) (by omega)
  rw [hz1] at h
  rw [← made_trm n hn]
  exact h
/-- The terms lie in new memory, each apart from the others. -/
def OwnTs (B : Nat) (w : World) (v : Value) (ys : List Trm) : Prop :=
  (∃ g, v = .slice (some ⟨g, 0, none⟩) ys.length ys.length ∧ B ≤ g ∧ RowT w g ys ∧ ∀ y ∈ ys, OwnS (g + 1) w y.vals y.ts ∧ ∀ t ∈ y.ts, t.size ≤ maxLen) ∧ ys.Pairwise fun a b => ∀ k, a.vals.ownBlock = some k → b.vals.ownBlock ≠ some k
theorem OwnTs.trms {B : Nat} {w : World} {v : Value} {ys : List Trm} (h : OwnTs B w v ys) (hl : ys.length ≤ 9) : Trms w v ys := by
  obtain ⟨⟨g, rfl, _, hrow, hy⟩, _⟩ := h
  refine ⟨fun x hx => ⟨(hy x hx).1.strs, (hy x hx).2⟩, _, ys.length, rfl, Nat.le_refl _, by unfold maxLen; omega, (fun h => by cases h), fun _ => ⟨g, 0, rfl, fun j hj i u hu => ?_⟩⟩
  have hi : i < 3 := by
    have := (List.getElem?_eq_some_iff.1 hu).1
    exact this
  rw [Nat.zero_add, (hrow.cell j i hi hj).1]
  exact hu
def ParseR (B : Nat) (w' : World) (r : Option (List T3)) (e : Ending) : Prop :=
  match r with
  | none => e = .returned (.tuple #[.slice none 0 0, .int .i64 43])
  | some xs => ∃ v ys, e = .returned (.tuple #[v, .int .i64 0]) ∧ ys.map t3 = xs ∧ (v = .slice none 0 0 ∧ ys = [] ∨ OwnTs B w' v ys)
set_option maxHeartbeats 8000000 in
set_option maxRecDepth 100000 in
theorem parse_any (s : ByteArray) (w : World) (hm : HasM w) (hs : s.size < 4294967281) :
    Calls Tryd.prog 10 #[.string s] w fun e w' => ParseR w.heap.size w' (ps3 s.data.toList) e ∧ Below w.heap.size w w' := by
  have H := Lib.hid hm
  have SZ := Lib.hid hs
  have SN := Lib.hid fun W h => splitN_any 44 s W h hs
  have RE : Hid (∀ t ∈ spls 44 s, ∀ W, HasM W → Calls Tryd.prog 21 #[.string t] W fun e w' => ReadR W.heap.size w' (rd3 t.data.toList) e ∧ Below W.heap.size W w') := Lib.hid fun t ht W h => read_any t W h (by have := spls_small 44 s t ht; omega)
  have SD := Lib.hid (spls_data 44 s)
  have n9 : (spls 44 s).length ≤ 9 := by have := spls_le 44 s; omega
  have n1 : (spls 44 s).length ≠ 0 := by have := spls_ne 44 s; intro h; exact this (List.length_eq_zero_iff.1 h)
  clear hm hs
  by_cases h0 : s.data.toList = []
  · have e0 : s.toList.isEmpty = true := by rw [list_of_bytes, h0]; rfl
    have hr : Hid (ps3 s.data.toList = some []) := Lib.hid (by unfold ps3; rw [if_pos h0])
    clear h0
    go_enter Tryd.func10, Tryd.ntmps10
    go_wp2_with fail
    go_ret2
    rw [hr.out]
    exact ⟨⟨.slice none 0 0, [], rfl, rfl, .inl ⟨rfl, rfl⟩⟩, Below.refl _ _⟩
  · have e0 : s.toList.isEmpty = false := by
      rw [list_of_bytes]
      cases h : s.data.toList with
      | nil => exact absurd h h0
      | cons x r => rfl
    have PD : Hid (ps3 s.data.toList = match all3 ((spls 44 s).map (·.data.toList)) with
      | none => none
      | some xs => if ok3 xs = true then some xs else none) := Lib.hid (by unfold ps3; rw [if_neg h0, SD.out])
    obtain ⟨ps, hps⟩ : ∃ ps, ps = spls 44 s := ⟨_, rfl⟩
    rw [← hps] at SN RE PD n9 n1
    obtain ⟨n, hn⟩ : ∃ n, n = ps.length := ⟨_, rfl⟩
    have HN := Lib.hid hn
    rw [← hn] at SN n9 n1
    clear hps hn h0 SD
    go_enter Tryd.func10, Tryd.ntmps10
    go_wp2_with fail
    refine (SN.out w H.out).mono ?_
    rintro e w2 ⟨cap, rfl, hl, hc, own, hb⟩
    have O2 := Lib.hid own
    have B2 := Lib.hid hb
    have l2 : Hid (w.heap.size < w2.heap.size) := Lib.hid ((own.lt _ rfl).2)
    have mk := make_trm n n9 w2
    clear own hb SN
    go_wp2_with fail
    clear mk e0
    go_loopg [19] n (fun g si wr => ∃ (k : Nat) (ys : List Trm), k ≤ n ∧ g = n - k ∧ si = .int .i64 k ∧ ys.length = k ∧ all3 ((ps.take k).map (·.data.toList)) = some (ys.map t3) ∧ RowT wr w2.heap.size (ys ++ List.replicate (n - k) zeroT) ∧ (∀ y ∈ ys, OwnS (w2.heap.size + 1) wr y.vals y.ts ∧ ∀ t ∈ y.ts, t.size ≤ maxLen) ∧ (ys.Pairwise fun a b => ∀ k, a.vals.ownBlock = some k → b.vals.ownBlock ≠ some k) ∧ OwnS w.heap.size wr (.slice (some ⟨w.heap.size, 0, none⟩) n cap) ps ∧ Below w.heap.size w wr)
    case atStart => exact ⟨0, [], Nat.zero_le _, rfl, rfl, rfl, rfl, heap_alloc_new w2 _, by simp, List.Pairwise.nil, O2.out.below ((Below.refl _ w2).alloc (Nat.le_refl _) _), B2.out.alloc B2.out.size _⟩
    case round =>
      obtain ⟨k, ys, hk, hg, rfl, hyl, hall, hrow, hys, hpw, hpo, hb⟩ := hrel
      have R : Aside (gk = n - k ∧ ys.length = k ∧ all3 ((ps.take k).map (·.data.toList)) = some (ys.map t3) ∧ RowT wr w2.heap.size (ys ++ List.replicate (n - k) zeroT) ∧ (∀ y ∈ ys, OwnS (w2.heap.size + 1) wr y.vals y.ts ∧ ∀ t ∈ y.ts, t.size ≤ maxLen) ∧ (ys.Pairwise fun a b => ∀ k, a.vals.ownBlock = some k → b.vals.ownBlock ≠ some k) ∧ OwnS w.heap.size wr (.slice (some ⟨w.heap.size, 0, none⟩) n cap) ps ∧ Below w.heap.size w wr) := ⟨hg, hyl, hall, hrow, hys, hpw, hpo, hb⟩
      clear hg hyl hall hrow hys hpw hpo hb
      by_cases hlt : k < n
      · have hlt' : (k : Int) < (n : Int) := by omega
        obtain ⟨_, _, ea, p0⟩ := R.out.2.2.2.2.2.2.1.strs.at k (by rw [← HN.out]; exact hlt)
        cases ea
        rw [Nat.zero_add] at p0
        obtain ⟨t, ht⟩ : ∃ t, t = ps.getD k ⟨#[]⟩ := ⟨_, rfl⟩
        rw [← ht] at p0
        have tm : t ∈ ps := by
          rw [ht, List.getD_eq_getElem?_getD, List.getElem?_eq_getElem (by rw [← HN.out]; exact hlt)]
          exact List.getElem_mem _
        have RR := Lib.hid (RE.out t tm wr (H.out.below R.out.2.2.2.2.2.2.2))
        have TK := Lib.hid (And.intro ht tm)
        clear ht tm
        go_wp2_with fail
        refine RR.out.mono ?_
        rintro e w3 ⟨hr, hb⟩
        have B3 := Lib.hid hb
        clear hb RR
        cases hx : rd3 t.data.toList with
        | none =>
          rw [hx] at hr
          have he : e = _ := hr
          subst he
          have hN : Hid (ps3 s.data.toList = none) := Lib.hid (by
            rw [PD.out, all3_none (ps := ps.map (·.data.toList)) (p := t.data.toList) (List.mem_map.2 ⟨t, TK.out.2, rfl⟩) hx])
          clear hx
          go_wp2_with fail
          go_ret2
          rw [hN.out]
          exact ⟨rfl, R.out.2.2.2.2.2.2.2.trans ((B3.out.alloc B3.out.size _).mono R.out.2.2.2.2.2.2.2.size)⟩
        | some x =>
          rw [hx] at hr
          obtain ⟨y, rfl, hy, own, hsz⟩ := hr
          have Y := Lib.hid (And.intro hy (And.intro own hsz))
          have YL : Hid (∀ j, y.vals.ownBlock = some j → wr.heap.size ≤ j) := Lib.hid fun j hj => (own.lt j hj).1
          obtain ⟨av, cv, ev, _, _⟩ := own.shape
          obtain ⟨m, hm⟩ : ∃ m, m = y.ts.length := ⟨_, rfl⟩
          rw [← hm] at ev
          have EV := Lib.hid ev
          obtain ⟨key, hkey⟩ : ∃ key, key = y.key := ⟨_, rfl⟩
          obtain ⟨how, hhow⟩ : ∃ how, how = y.how := ⟨_, rfl⟩
          unfold Trm.cells
          rw [ev, ← hkey, ← hhow]
          have KH := Lib.hid (And.intro hkey hhow)
          have HX := Lib.hid hx
          clear hy own hsz ev hm hkey hhow hx
          obtain ⟨X, hX⟩ : ∃ X, X = w3.alloc (.cells #[.string key, .int .i64 how, .slice av m cv] 36) := ⟨_, rfl⟩
          have AX : Hid (Below w3.heap.size w3 X) := Lib.hid (by rw [hX]; exact (Below.refl _ w3).alloc (Nat.le_refl _) _)
          have BX : Hid (Below wr.heap.size wr X) := Lib.hid (B3.out.trans (AX.out.mono B3.out.size))
          have b0 : X.cell? ⟨w3.heap.size, 0, none⟩ = some (.string key) := by rw [hX, World.cell?_alloc_new]; rfl
          have b1 : X.cell? ⟨w3.heap.size, 1, none⟩ = some (.int .i64 how) := by rw [hX, World.cell?_alloc_new]; rfl
          have b2 : X.cell? ⟨w3.heap.size, 2, none⟩ = some (.slice av m cv) := by rw [hX, World.cell?_alloc_new]; rfl
          have RX := Lib.hid (R.out.2.2.2.1.below R.out.2.2.2.1.lt BX.out)
          have hkk : k < (ys ++ List.replicate (n - k) zeroT).length := by
            rw [List.length_append, R.out.2.1, List.length_replicate]; omega
          have zz : (ys ++ List.replicate (n - k) zeroT).getD k zeroT = zeroT := by
            rw [List.getD_eq_getElem?_getD, List.getElem?_append_right (by rw [R.out.2.1]; exact Nat.le_refl _), R.out.2.1, Nat.sub_self, List.getElem?_replicate, if_pos (by omega)]
            rfl
          obtain ⟨z0, f0⟩ := RX.out.cell k 0 (by decide) hkk
          obtain ⟨z1, f1⟩ := RX.out.cell k 1 (by decide) hkk
          obtain ⟨z2, f2⟩ := RX.out.cell k 2 (by decide) hkk
          rw [zz] at z0 z1 z2
          rw [Nat.add_zero] at z0 f0
          have z0' : X.cell? ⟨w2.heap.size, k * 3, none⟩ = some (.string ⟨#[]⟩) := z0
          have z1' : X.cell? ⟨w2.heap.size, k * 3 + 1, none⟩ = some (.int .i64 0) := z1
          have z2' : X.cell? ⟨w2.heap.size, k * 3 + 2, none⟩ = some (.slice none 0 0) := z2
          have hX' := hX.symm
          have HKK := Lib.hid hkk
          clear hX z0 z1 z2 zz hkk
          go_wp2_with fail
          clear b0 b1 b2 z0' z1' z2' f0 f1 f2 hX'
          go_roundg (n - (k + 1))
          case measure => have := R.out.1; omega
          case rel =>
            have hset : (((X.setCell ⟨w2.heap.size, k * 3, none⟩ (.string key)).setCell ⟨w2.heap.size, k * 3 + 1, none⟩ (.int .i64 how)).setCell ⟨w2.heap.size, k * 3 + 2, none⟩ (.slice av m cv)) = set3 X w2.heap.size (k * 3) (.string y.key) (.int .i64 y.how) y.vals := by
              rw [EV.out, ← KH.out.1, ← KH.out.2]; rfl
            have gl := R.out.2.2.2.1.lt
            rw [hset]
            refine ⟨k + 1, ys ++ [y], by omega, rfl, by go_num, by rw [List.length_append, R.out.2.1]; rfl, ?_, ?_, ?_, ?_, ?_, ?_⟩
            · rw [take_one ps k ⟨#[]⟩ (by rw [← HN.out]; exact hlt), List.map_append, ← TK.out.1]
              show all3 (_ ++ [t.data.toList]) = _
              rw [all3_snoc, R.out.2.2.1, HX.out, List.map_append, ← Y.out.1]
              rfl
            · have h := RX.out.set k HKK.out y
              have e : (ys ++ List.replicate (n - k) zeroT).set k y = (ys ++ [y]) ++ List.replicate (n - (k + 1)) zeroT := by
                rw [show n - k = (n - (k + 1)) + 1 by omega, List.replicate_succ, List.set_append_right _ _ (by rw [R.out.2.1]; exact Nat.le_refl _), R.out.2.1, Nat.sub_self, List.set_cons_zero, List.append_assoc]
                rfl
              rw [e] at h
              exact h
            · intro y' hy'
              rw [List.mem_append, List.mem_singleton] at hy'
              rcases hy' with hy' | rfl
              · have h := R.out.2.2.2.2.1 y' hy'
                exact ⟨((((h.1.below BX.out).set_other (p := ⟨w2.heap.size, k * 3, none⟩) (Nat.lt_succ_self _) _).set_other (p := ⟨w2.heap.size, k * 3 + 1, none⟩) (Nat.lt_succ_self _) _).set_other (p := ⟨w2.heap.size, k * 3 + 2, none⟩) (Nat.lt_succ_self _) _), h.2⟩
              · have h := Y.out.2.1.below AX.out
                exact ⟨(((h.mono gl).set_other (p := ⟨w2.heap.size, k * 3, none⟩) (Nat.lt_succ_self _) _).set_other (p := ⟨w2.heap.size, k * 3 + 1, none⟩) (Nat.lt_succ_self _) _).set_other (p := ⟨w2.heap.size, k * 3 + 2, none⟩) (Nat.lt_succ_self _) _, Y.out.2.2⟩
            · rw [List.pairwise_append]
              refine ⟨R.out.2.2.2.2.2.1, List.pairwise_singleton _ _, ?_⟩
              intro a ha b hb j hj hj2
              simp only [List.mem_singleton] at hb
              subst hb
              have h1 := ((R.out.2.2.2.2.1 a ha).1.lt j hj).2
              have h2 := YL.out j hj2
              omega
            · have h := R.out.2.2.2.2.2.2.1.below BX.out
              have ne : (Value.slice (some ⟨w.heap.size, 0, none⟩) n cap).ownBlock ≠ some w2.heap.size := by
                show some w.heap.size ≠ _
                intro e
                have := l2.out
                injection e with e
                omega
              exact ((h.set_ne (p := ⟨w2.heap.size, k * 3, none⟩) ne _).set_ne (p := ⟨w2.heap.size, k * 3 + 1, none⟩) ne _).set_ne (p := ⟨w2.heap.size, k * 3 + 2, none⟩) ne _
            · exact set3_below (R.out.2.2.2.2.2.2.2.trans (BX.out.mono R.out.2.2.2.2.2.2.2.size)) B2.out.size _ _ _ _
      · have ek : k = n := by omega
        have hall : all3 (ps.map (·.data.toList)) = some (ys.map t3) := by
          have h := R.out.2.2.1
          rw [List.take_of_length_le (by rw [← HN.out]; omega)] at h
          exact h
        have hl2 : ys.length = n := by rw [R.out.2.1, ek]
        have OT : Hid (OwnTs w.heap.size wr (.slice (some ⟨w2.heap.size, 0, none⟩) n n) ys) := Lib.hid (by
          have h := R.out.2.2.2.1
          rw [show n - k = 0 by omega, List.replicate_zero, List.append_nil] at h
          exact ⟨⟨w2.heap.size, by rw [hl2], B2.out.size, h, R.out.2.2.2.2.1⟩, R.out.2.2.2.2.2.1⟩)
        have VT := Lib.hid (terms_every _ ys wr (OT.out.trms (by omega)))
        have PP : Hid (ps3 s.data.toList = if termsB ys = true then some (ys.map t3) else none) := Lib.hid (by
          rw [PD.out, hall]
          show (if ok3 (ys.map t3) = true then _ else _) = _
          rw [terms_t3])
        clear hall hl2 ek
        cases hT : termsB ys with
        | true =>
          rw [hT] at VT PP
          rw [if_pos rfl] at PP
          go_wp2_with fail
          refine VT.out.mono ?_
          rintro e w4 ⟨rfl, hb⟩
          have B4 := Lib.hid hb
          clear hb
          go_wp2_with fail
          go_ret2
          rw [PP.out]
          refine ⟨⟨_, ys, rfl, rfl, .inr ?_⟩, R.out.2.2.2.2.2.2.2.trans (B4.out.mono R.out.2.2.2.2.2.2.2.size)⟩
          obtain ⟨⟨g, e, hB, hrow, hy⟩, hp⟩ := OT.out
          exact ⟨⟨g, e, hB, hrow.below hrow.lt B4.out, fun y h => ⟨(hy y h).1.below B4.out, (hy y h).2⟩⟩, hp⟩
        | false =>
          rw [hT] at VT PP
          rw [if_neg (by simp)] at PP
          go_wp2_with fail
          refine VT.out.mono ?_
          rintro e w4 ⟨rfl, hb⟩
          have B4 := Lib.hid hb
          clear hb
          go_wp2_with fail
          go_ret2
          rw [PP.out]
          exact ⟨rfl, R.out.2.2.2.2.2.2.2.trans (B4.out.mono R.out.2.2.2.2.2.2.2.size)⟩
end Go.Proofs.YtjlpcklcnabldaaDoor.L
