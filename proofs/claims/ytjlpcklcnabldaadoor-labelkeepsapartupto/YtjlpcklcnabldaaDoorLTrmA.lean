/-
  Terms copied and compared: the laws own and sameTerms.
-/
import Derived.Test.YtjlpcklcnabldaaDoorLParseA
import Derived.Test.YtjlpcklcnabldaaDoorLPrintA
namespace Go.Proofs.YtjlpcklcnabldaaDoor.L
open Go.RowKit Go.Sort
/-- Terms in memory of the call's own. -/
def OwnT (B : Nat) (w : World) (v : Value) (ys : List Trm) : Prop := w.ownsRow B 36 3 v ys.length (cellsT ys)
theorem OwnT.below {B : Nat} {w w' : World} {v : Value} {ys : List Trm} (H : OwnT B w v ys) (hb : Below w.heap.size w w') : OwnT B w' v ys := by
  obtain ⟨h1, h | ⟨g, cap, cur, hv, hB, hg, hr⟩⟩ := H
  · exact ⟨h1, .inl h⟩
  · have hlt : g < w.heap.size := by
      rcases Nat.lt_or_ge g w.heap.size with h | h
      · exact h
      · rw [Array.getElem?_eq_none h] at hg; simp at hg
    exact ⟨h1, .inr ⟨g, cap, cur, hv, hB, by rw [hb.block g hlt]; exact hg, hr⟩⟩
theorem OwnT.set_ne {B : Nat} {w : World} {v : Value} {ys : List Trm} (h : OwnT B w v ys) {p : Addr} (hp : v.ownBlock ≠ some p.block) (u : Value) : OwnT B (w.setCell p u) v ys := by
  obtain ⟨h1, h | ⟨g, cap, cur, hv, hB, hg, hr⟩⟩ := h
  · exact ⟨h1, .inl h⟩
  · refine ⟨h1, .inr ⟨g, cap, cur, hv, hB, ?_, hr⟩⟩
    have : p.block ≠ g := by
      intro e
      apply hp
      rw [hv, e]
      rfl
    simp [World.setCell, Array.getElem?_modify, this, hg]
theorem OwnT.lt {B : Nat} {w : World} {v : Value} {l : List Trm} (h : OwnT B w v l) : ∀ k, v.ownBlock = some k → B ≤ k ∧ k < w.heap.size := World.ownsRow.lt h
theorem OwnT.trms {B : Nat} {w : World} {v : Value} {ys : List Trm} (H : OwnT B w v ys) (hy : ∀ y ∈ ys, y.At w) : Trms w v ys := by
  obtain ⟨_, ⟨hv, hn⟩ | ⟨g, cap, cur, hv, hb, hg, hn, hm, hs, ht⟩⟩ := H
  · have : ys = [] := List.length_eq_zero_iff.1 hn
    subst this
    exact ⟨by simp, none, 0, hv, Nat.le_refl _, by decide, fun _ => rfl, fun h => absurd rfl h⟩
  · refine ⟨hy, _, cap, hv, hn, hm, (fun h => by cases h), fun _ => ⟨g, 0, rfl, fun j hj i u hu => ?_⟩⟩
    have hi : i < 3 := (List.getElem?_eq_some_iff.1 hu).1
    have h1 : j * 3 + i < ys.length * 3 := by omega
    rw [cell_of_row w g _ cur _ _ hg, Nat.zero_add, ← Array.getElem?_toList]
    have h2 : (cur.toList.take (ys.length * 3))[j * 3 + i]? = cur.toList[j * 3 + i]? := by rw [List.getElem?_take_of_lt h1]
    rw [← h2, ht, cellsT_at ys j i hi _ hj]
    exact hu
theorem app_trm {ops : Array Oper} {rest : List Oper} {o : Oper} {a : Act} {Q : Exit → Act → World → Prop} (hgd : o.guard = none) (s y : Operand)
    (ho : o.op = .call { callee := .builtin .append, args := #[s, y], argTypes := #[31, 31] })
    {B : Nat} {w0 : World} {v : Value} {ys : List Trm} (hs : a.eval s = v) (hown : OwnT B w0 v ys) (hB : B ≤ w0.heap.size) (key : ByteArray) (how : Int) (vals : Value) (ts : List ByteArray) (hvl : vals.oneCell' = true)
    (hy : a.eval y = .slice (some ⟨w0.heap.size, 0, none⟩) 1 1) (hl : (ys.length + 1) * 48 ≤ 140737488355328)
    (h : ∀ v' w', OwnT B w' v' (ys ++ [⟨key, how, vals, ts⟩]) → w0.grownBy w' v.ownBlock → wpList Tryd.prog ops Q rest (a.put o.dst v') w') :
    wpList Tryd.prog ops Q (o :: rest) a (w0.alloc (.cells #[.string key, .int .i64 how, vals] 36)) := by
  obtain ⟨i0, hi, hz0, hz1, hz2⟩ := info_parts info_trm'
  refine wpList_append_own_at _ hgd s y 31 ho B 36 i0 _ 3 48 Tryd.underlying31 hi hz0 hz1 hz2 rfl (by decide) v ys.length (cellsT ys) hs (World.ownsRow.alloc hown _) ⟨w0.heap.size, 0, none⟩ 1 1 [.string key, .int .i64 how, vals] hy rfl ?_ ?_ (by unfold maxLen; omega) (by omega) (by simp; omega) ?_
  · intro j u hj
    rw [add_plain, Nat.zero_add, World.cell?_alloc_new, ← Array.getElem?_toList]; exact hj
  · intro v hv
    simp only [List.mem_cons, List.not_mem_nil, or_false] at hv
    rcases hv with rfl | rfl | rfl
    · rfl
    · rfl
    · exact hvl
  · intro v' w' h1 h2 _ _
    refine h v' w' ?_ (grown_alloc h2)
    show w'.ownsRow _ _ _ _ _ _
    have e : cellsT (ys ++ [⟨key, how, vals, ts⟩]) = cellsT ys ++ [.string key, .int .i64 how, vals] := by simp [cellsT, Trm.cells]
    rw [e, List.length_append]; exact h1
theorem ownTS_ne {B B' : Nat} {w : World} {v u : Value} {ys : List Trm} {ts : List ByteArray} (hT : OwnT B w v ys) (hS : OwnS B' w u ts) (j : Nat) (hj : u.ownBlock = some j) : v.ownBlock ≠ some j := by
  intro e
  obtain ⟨_, ⟨hv, _⟩ | ⟨g, cap, cur, hv, _, hg, _⟩⟩ := hT
  · rw [hv] at e; cases e
  · obtain ⟨_, ⟨hu, _⟩ | ⟨g', cap', cur', hu, _, hg', _⟩⟩ := hS
    · rw [hu] at hj; cases hj
    · rw [hv] at e
      rw [hu] at hj
      have e1 : g = j := by injection e
      have e2 : g' = j := by injection hj
      rw [e1] at hg
      rw [e2, hg] at hg'
      simp at hg'
theorem OwnS.grown {B : Nat} {w w' : World} {u : Value} {ts : List ByteArray} {row : Option Nat} (h : OwnS B w u ts) (hg : w.grownBy w' row) (hr : ∀ j, u.ownBlock = some j → row ≠ some j) : OwnS B w' u ts := by
  obtain ⟨h1, h | ⟨g, cap, cur, hv, hB, hg2, hr2⟩⟩ := h
  · exact ⟨h1, .inl h⟩
  · have hlt : g < w.heap.size := by
      rcases Nat.lt_or_ge g w.heap.size with h | h
      · exact h
      · rw [Array.getElem?_eq_none h] at hg2; simp at hg2
    exact ⟨h1, .inr ⟨g, cap, cur, hv, hB, by rw [hg.block g hlt (fun e => hr g (by rw [hv]; rfl) e.symm)]; exact hg2, hr2⟩⟩
/-- What own answers. -/
def Copied (B : Nat) (w : World) (v : Value) (ys : List Trm) : Prop := OwnT B w v ys ∧ ∀ y ∈ ys, OwnS B w y.vals y.ts ∧ ∀ t ∈ y.ts, t.size ≤ maxLen
theorem Copied.trms {B : Nat} {w : World} {v : Value} {ys : List Trm} (h : Copied B w v ys) : Trms w v ys := h.1.trms fun y hy => ⟨(h.2 y hy).1.strs, (h.2 y hy).2⟩
theorem t3_get (ys xs : List Trm) (k : Nat) (h : ys.map t3 = (xs.take k).map t3) (hk : k < xs.length) (y : Trm) (e : t3 y = t3 (xs.getD k ⟨⟨#[]⟩, 0, .slice none 0 0, []⟩)) : (ys ++ [y]).map t3 = (xs.take (k + 1)).map t3 := by
  rw [take_one xs k _ hk, List.map_append, List.map_append, h]
  simp only [List.map_cons, List.map_nil]
  rw [e]
set_option maxHeartbeats 8000000 in
set_option maxRecDepth 100000 in
theorem own_any (v : Value) (xs : List Trm) (w : World) (hv : Trms w v xs) (hl : xs.length * 48 ≤ 140737488351232) (hls : ∀ x ∈ xs, x.ts.length * 16 ≤ 140737488355328) :
    Calls Tryd.prog 11 #[v] w fun e w' => ∃ v' ys, e = .returned v' ∧ ys.map t3 = xs.map t3 ∧ Copied w.heap.size w' v' ys ∧ Below w.heap.size w w' := by
  have V := Lib.hid hv
  obtain ⟨_, a, cap, rfl, hlc, hcm, _, _⟩ := hv
  unfold maxLen at hcm
  have LS := Lib.hid hls
  obtain ⟨n, hn⟩ : ∃ n, n = xs.length := ⟨_, rfl⟩
  rw [← hn] at hlc hl ⊢
  have HN := Lib.hid hn
  have L := Lib.hid hl
  clear hls hn hl
  have n63 : n ≤ 9223372036854775807 := by omega
  go_enter Tryd.func11, Tryd.ntmps11
  go_wp2_with fail
  go_loopg [3, 4] n (fun g sm si wr => ∃ (k : Nat) (ys : List Trm) (vo : Value), k ≤ n ∧ g = n - k ∧ si = .int .i64 k ∧ vo = sm ∧ ys.length = k ∧ ys.map t3 = (xs.take k).map t3 ∧ Copied w.heap.size wr vo ys ∧ Below w.heap.size w wr)
  case atStart => exact ⟨0, [], _, Nat.zero_le _, rfl, rfl, rfl, rfl, rfl, ⟨World.ownsRow_nil _ _ _ _, by simp⟩, Below.refl _ _⟩
  case round =>
    obtain ⟨k, ys, vo, hk, hg, rfl, rfl, hyl, hm3, hcp, hb⟩ := hrel
    have R : Aside (gk = n - k ∧ ys.length = k ∧ ys.map t3 = (xs.take k).map t3 ∧ Below w.heap.size w wr) := ⟨hg, hyl, hm3, hb⟩
    have C := Lib.hid hcp
    clear hg hyl hm3 hcp hb
    by_cases hlt : k < n
    · have hlt' : (k : Int) < (n : Int) := by omega
      obtain ⟨b, off, rfl, x, hx, ex, hat, c0, c1, c2⟩ := trms_at (V.out.below R.out.2.2.2) k (by rw [← HN.out]; exact hlt)
      have EX := Lib.hid ex
      have lx := Lib.hid (LS.out x hx)
      obtain ⟨key, how, vals, ts⟩ := x
      simp only at c0 c1 c2 lx
      obtain ⟨av, cv, ev, hc1, hc2⟩ := hat.1.len
      simp only at ev
      subst ev
      obtain ⟨m, hm⟩ : ∃ m, m = ts.length := ⟨_, rfl⟩
      have HA := Lib.hid hat
      rw [← hm] at c2 EX HA
      have MM := Lib.hid hm
      obtain ⟨X, hX⟩ : ∃ X, X = wr.alloc (.cells #[.string key, .int .i64 how, .slice av m cv] 36) := ⟨_, rfl⟩
      have AX : Hid (Below wr.heap.size wr X) := Lib.hid (by rw [hX]; exact (Below.refl _ wr).alloc (Nat.le_refl _) _)
      have b0 : X.cell? ⟨wr.heap.size, 0, none⟩ = some (.string key) := by rw [hX, World.cell?_alloc_new]; rfl
      have b1 : X.cell? ⟨wr.heap.size, 1, none⟩ = some (.int .i64 how) := by rw [hX, World.cell?_alloc_new]; rfl
      have b2 : X.cell? ⟨wr.heap.size, 2, none⟩ = some (.slice av m cv) := by rw [hX, World.cell?_alloc_new]; rfl
      have d2 : X.cell? ⟨b, off + k * 3 + 2, none⟩ = some (.slice av m cv) := (AX.out.cell (block_lt_of_cell c2)).trans c2
      have ff : X.frozen? ⟨wr.heap.size, 2, none⟩ = false := by rw [hX]; simp
      have hX' := hX.symm
      have SX : Hid (Strs X (.slice av m cv) ts) := Lib.hid (HA.out.1.below AX.out)
      have BB := Lib.hid (And.intro b0 (And.intro b1 (And.intro b2 ff)))
      clear hX hat hx ex hm hc1 hc2
      go_wp2_with (at_builtin; refine app_copy rfl _ _ rfl rfl SX.out rfl lx.out ?_)
      intro v4 w4 o4 hb4
      obtain ⟨a4, c4, e4, _, _⟩ := o4.shape
      rw [← MM.out] at e4
      subst e4
      have O4 := Lib.hid o4
      have q0 : w4.cell? ⟨wr.heap.size, 0, none⟩ = some (.string key) := (hb4.cell (block_lt_of_cell BB.out.1)).trans BB.out.1
      have q1 : w4.cell? ⟨wr.heap.size, 1, none⟩ = some (.int .i64 how) := (hb4.cell (block_lt_of_cell BB.out.2.1)).trans BB.out.2.1
      have q2 : w4.cell? ⟨wr.heap.size, 2, none⟩ = some (.slice av m cv) := (hb4.cell (block_lt_of_cell BB.out.2.2.1)).trans BB.out.2.2.1
      have f2 : w4.frozen? ⟨wr.heap.size, 2, none⟩ = false := (hb4.frozen (p := ⟨wr.heap.size, 2, none⟩) (block_lt_of_cell BB.out.2.2.1)).trans BB.out.2.2.2
      have B4 := Lib.hid (AX.out.trans (hb4.mono AX.out.size))
      obtain ⟨w5, h5⟩ : ∃ W, W = w4.setCell ⟨wr.heap.size, 2, none⟩ (.slice a4 m c4) := ⟨_, rfl⟩
      have p0 : w5.cell? ⟨wr.heap.size, 0, none⟩ = some (.string key) := by rw [h5, World.cell?_setCell_other _ _ _ _ (by intro h; injection h; omega)]; exact q0
      have p1 : w5.cell? ⟨wr.heap.size, 1, none⟩ = some (.int .i64 how) := by rw [h5, World.cell?_setCell_other _ _ _ _ (by intro h; injection h; omega)]; exact q1
      have p2 : w5.cell? ⟨wr.heap.size, 2, none⟩ = some (.slice a4 m c4) := by rw [h5]; exact World.cell?_setCell_same' _ _ _ (by rw [q2]; rfl)
      have smb : ∀ p : Nat, wr.heap.size ≤ p → vo.ownBlock ≠ some p := fun p hp e => by have := (C.out.1.lt p e).2; omega
      have O5 : Hid (OwnT w.heap.size w5 vo ys) := Lib.hid (by rw [h5]; exact (C.out.1.below B4.out).set_ne (p := ⟨wr.heap.size, 2, none⟩) (smb _ (Nat.le_refl _)) _)
      have B5 : Hid (Below w.heap.size w w5) := Lib.hid (by rw [h5]; exact (R.out.2.2.2.trans (B4.out.mono R.out.2.2.2.size)).setCell (p := ⟨wr.heap.size, 2, none⟩) R.out.2.2.2.size _)
      have xl : wr.heap.size < X.heap.size := block_lt_of_cell BB.out.1
      have N5 : Hid (OwnS w.heap.size w5 (.slice a4 m c4) ts) := Lib.hid (by
        rw [h5]
        exact (O4.out.set_other (p := ⟨wr.heap.size, 2, none⟩) xl _).mono (Nat.le_trans R.out.2.2.2.size (Nat.le_of_lt xl)))
      have E5 : Hid (∀ y ∈ ys, OwnS w.heap.size w5 y.vals y.ts) := Lib.hid fun y hy => by
        rw [h5]
        refine (((C.out.2 y hy).1.below B4.out).set_ne (p := ⟨wr.heap.size, 2, none⟩) ?_ _)
        intro e
        have := ((C.out.2 y hy).1.lt _ e).2
        simp only at this
        omega
      have h5' := h5.symm
      have LL : Hid ((ys.length + 1) * 48 ≤ 140737488355328) := Lib.hid (by have := L.out; have := R.out.2.1; omega)
      clear b0 b1 b2 d2 ff hX' c0 c1 c2 h5 hb4 o4 smb xl
      go_wp2_with (at_builtin; refine app_trm rfl _ _ rfl rfl O5.out B5.out.size key how (.slice a4 m c4) ts rfl rfl LL.out ?_)
      intro v6 w6 o6 hg6
      have G6 := Lib.hid hg6
      have O6 := Lib.hid o6
      clear q0 q1 q2 f2 p0 p1 p2 h5' hg6 o6
      go_wp2_with fail
      go_roundg (n - (k + 1))
      case measure => have := R.out.1; omega
      case rel =>
        refine ⟨k + 1, ys ++ [⟨key, how, .slice a4 m c4, ts⟩], _, by omega, rfl, by go_num, rfl, by rw [List.length_append, R.out.2.1]; rfl, ?_, ⟨O6.out, ?_⟩, ?_⟩
        · refine t3_get ys xs k R.out.2.2.1 (by rw [← HN.out]; exact hlt) _ ?_
          rw [EX.out]
          rfl
        · intro y hy
          rw [List.mem_append, List.mem_singleton] at hy
          rcases hy with hy | rfl
          · exact ⟨(E5.out y hy).grown G6.out (ownTS_ne O5.out (E5.out y hy)), (C.out.2 y hy).2⟩
          · exact ⟨N5.out.grown G6.out (ownTS_ne O5.out N5.out), HA.out.2⟩
        · exact B5.out.grown G6.out B5.out.size (fun j hj => (O5.out.lt j hj).1)
    · have ek : k = n := by omega
      have hm3 : ys.map t3 = xs.map t3 := by
        have h := R.out.2.2.1
        rw [List.take_of_length_le (by rw [← HN.out]; omega)] at h
        exact h
      have M3 := Lib.hid hm3
      clear hm3 ek
      have hge : decide ((k : Int) < (n : Int)) = false := decide_eq_false (by omega)
      go_wp2_with fail
      go_ret
      exact ⟨_, ys, rfl, M3.out, C.out, R.out.2.2.2⟩
end Go.Proofs.YtjlpcklcnabldaaDoor.L
