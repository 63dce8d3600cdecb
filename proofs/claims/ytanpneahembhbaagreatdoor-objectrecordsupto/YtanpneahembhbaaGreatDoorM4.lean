/-
  Hand, RefW, RefW2, RefW3, ObRd, ObRj, ObRl, ObRm, ObRq, joined.
-/
import Derived.Test.YtanpneahembhbaaGreatDoorRd
import Derived.Test.YtanpneahembhbaaGreatDoorM1
import Derived.Test.YtanpneahembhbaaGreatDoorM3
section S0
namespace Go.Proofs.YtanpneahembhbaaGreatDoor
open Go.RowKit

theorem txt_inj {l m : List UInt8} (h : txt l = txt m) : l = m := by rw [← txt_list l, h, txt_list]
theorem txt_beq (l m : List UInt8) : ((txt l).toList == (txt m).toList) = decide (l = m) := by
  rw [ByteArray.toList_eq, ByteArray.toList_eq, txt_list, txt_list, Bool.eq_iff_iff]; simp

/-- A value. -/
structure V where
  k : Int
  u : Nat
  i : Int
  s : ByteArray
def V.agg (x : V) : Value := .agg #[.int .i64 x.k, .int .u64 x.u, .int .i64 x.i, .string x.s]
def V.cells (x : V) : List Value := [.int .i64 x.k, .int .u64 x.u, .int .i64 x.i, .string x.s]
/-- What fits its kind and no text is too long for a slice. -/
def V.fits (x : V) : Prop := (-9223372036854775808 ≤ x.k ∧ x.k < 9223372036854775808) ∧ x.u < 18446744073709551616 ∧ (-9223372036854775808 ≤ x.i ∧ x.i < 9223372036854775808) ∧ x.s.size ≤ 140737488355328
def WS.put (s : WS) (x : V) : WS :=
  if x.k = 0 then s.lay (form x.u) else if x.k = 1 then s.lay (form (zig x.i)) else if x.k = 2 then s.lay [if x.i ≠ 0 then 1 else 0]
  else if x.k = 3 then s.lay [UInt8.ofNat x.u] else if x.k = 4 then s.lay (form x.s.size ++ x.s.data.toList) else if x.k = 5 then s.count x.i else s

end Go.Proofs.YtanpneahembhbaaGreatDoor
end S0

section S1
namespace Go.Proofs.YtanpneahembhbaaGreatDoor
open Go.RowKit

/-- The writer at block g, its bytes in the slice v. -/
def XAt (B : Nat) (w : World) (g : Nat) (v : Value) (s : WS) : Prop :=
  B ≤ g ∧ w.heap[g]? = some (.cells #[v, .int .i64 s.lim, .int .i64 s.e] 100 (0, 0)) ∧ Own B w v s.l ∧ s.ok

theorem XAt.lt {B : Nat} {w : World} {g : Nat} {v : Value} {s : WS} (h : XAt B w g v s) : g < w.heap.size := by
  rcases Nat.lt_or_ge g w.heap.size with q | q
  · exact q
  · have := h.2.1; rw [Array.getElem?_eq_none q] at this; simp at this
theorem XAt.foot {B : Nat} {w : World} {g : Nat} {v : Value} {s : WS} (h : XAt B w g v s) (k : Nat) (hk : WF g v k) : B ≤ k ∧ k < w.heap.size := by
  rcases hk with rfl | hk
  · exact ⟨h.1, h.lt⟩
  · exact h.2.2.1.lt k hk.symm
theorem XAt.apart {B : Nat} {w : World} {g : Nat} {v : Value} {s : WS} (h : XAt B w g v s) : v.ownBlock ≠ some g := by
  obtain ⟨_, hg, ⟨_, ⟨hv, _⟩ | ⟨g', cap, cur, hv, hB, hg', _⟩⟩, _⟩ := h
  · subst hv; simp [Value.ownBlock]
  · subst hv
    intro e
    simp only [Value.ownBlock, Option.some.injEq] at e
    rw [e, hg] at hg'
    simp at hg'
theorem XAt.kept {B : Nat} {F : Nat → Prop} {w w' : World} {g : Nat} {v : Value} {s : WS} (h : XAt B w g v s) (hk : Kept F w w') (hF : ∀ k, WF g v k → ¬ F k) : XAt B w' g v s :=
  ⟨h.1, by rw [hk.block g h.lt (hF g (Or.inl rfl))]; exact h.2.1, h.2.2.1.kept hk (fun k hk' => hF k (Or.inr hk'.symm)), h.2.2.2⟩
theorem XAt.below {B : Nat} {w w' : World} {g : Nat} {v : Value} {s : WS} (h : XAt B w g v s) (hk : Below w.heap.size w w') : XAt B w' g v s :=
  h.kept (Below.kept hk (fun _ => False)) (fun _ _ => id)
theorem XAt.cells {B : Nat} {w : World} {g : Nat} {v : Value} {s : WS} (h : XAt B w g v s) :
    w.cell? ⟨g, 0, none⟩ = some v ∧ w.cell? ⟨g, 1, none⟩ = some (.int .i64 s.lim) ∧ w.cell? ⟨g, 2, none⟩ = some (.int .i64 s.e) ∧ w.frozen? ⟨g, 0, none⟩ = false ∧ w.frozen? ⟨g, 2, none⟩ = false := by
  refine ⟨?_, ?_, ?_, frozen_of_row w g 0 _ _ h.2.1, frozen_of_row w g 2 _ _ h.2.1⟩
  · rw [cell_of_row w g 0 _ _ _ h.2.1]; rfl
  · rw [cell_of_row w g 1 _ _ _ h.2.1]; rfl
  · rw [cell_of_row w g 2 _ _ _ h.2.1]; rfl
theorem XAt.setErr {B : Nat} {w : World} {g : Nat} {v : Value} {s : WS} (h : XAt B w g v s) (e : Nat) (he : e < 256) : XAt B (w.setCell ⟨g, 2, none⟩ (.int .i64 e)) g v { s with e := e } := by
  refine ⟨h.1, ?_, ?_, h.2.2.2.1, h.2.2.2.2.1, he⟩
  · rw [heap_setCell_same w g 2 _ _ _ h.2.1]; rfl
  · exact h.2.2.1.kept (kept_set (F := fun k => k = g) w ⟨g, 2, none⟩ _ rfl) (fun k hk e => h.apart (by rw [hk, e]))
theorem XAt.setLaidX {B : Nat} {w w1 : World} {g : Nat} {v v1 : Value} {s : WS} {l1 : List UInt8} (h : XAt B w g v s) (hg : Kept (fun k => some k = v.ownBlock) w w1) (ho : Own B w1 v1 l1) (hl : l1.length ≤ s.lim) :
    XAt B (w1.setCell ⟨g, 0, none⟩ v1) g v1 { s with l := l1 } := by
  have e : w1.heap[g]? = _ := (hg.block g h.lt (fun q => h.apart q.symm)).trans h.2.1
  refine ⟨h.1, ?_, ?_, hl, h.2.2.2.2⟩
  · rw [heap_setCell_same w1 g 0 _ _ _ e]; rfl
  · refine ho.kept (kept_set (F := fun k => k = g) w1 ⟨g, 0, none⟩ _ rfl) (fun k hk q => ?_)
    subst q
    obtain ⟨_, ⟨hv, _⟩ | ⟨g', cap, cur, hv, hB, hg', _⟩⟩ := ho
    · subst hv; simp [Value.ownBlock] at hk
    · subst hv
      simp only [Value.ownBlock, Option.some.injEq] at hk
      rw [hk, e] at hg'
      simp at hg'

set_option maxHeartbeats 1000000 in
theorem xnewWriter_any (n : Int) (w : World) :
    Calls Tryz.prog 59 #[.int .i64 n] w fun e w' => e = .returned (.pointer (some ⟨w.heap.size, 0, none⟩)) ∧ XAt w.heap.size w' w.heap.size (.slice none 0 0) ⟨[], min n.toNat 1048576, 0⟩ ∧ w.heap.size < w'.heap.size ∧ Below w.heap.size w w' := by
  go_enter Tryz.func59, Tryz.ntmps59
  go_wp2_with fail
  all_goals
    go_ret
    refine ⟨rfl, ⟨Nat.le_refl _, ?_, World.ownsRow_nil _ _ _ _, by simp, by simp; omega, by simp⟩, by simp, (Below.refl _ _).alloc (Nat.le_refl _) _⟩
    rw [heap_alloc_new]
    congr 3
    simp only [List.cons.injEq, Value.int.injEq, and_true, true_and]
    omega

/-- What a call that lays leaves. -/
def LaidX (B g : Nat) (v : Value) (s' : WS) (w w' : World) : Prop :=
  ∃ v', XAt B w' g v' s' ∧ Kept (WF g v) w w' ∧ At v v' w
theorem LaidX.same {B g : Nat} {v : Value} {s : WS} {w w' : World} (h : XAt B w g v s) (hk : Kept (fun _ => False) w w') : LaidX B g v s w w' :=
  ⟨v, h.kept hk (fun _ _ => id), hk.mono (fun _ _ h => h.elim), fun _ hk => Or.inl hk⟩
theorem LaidX.below {B g : Nat} {v : Value} {s s' : WS} {w w' : World} (h : LaidX B g v s' w w') (H : XAt B w g v s) : Below B w w' := by
  obtain ⟨_, _, k, _⟩ := h
  exact k.below (Nat.le_trans H.1 (Nat.le_of_lt H.lt)) (fun x hx => (H.foot x hx).1)
/-- A call that made new memory alone, then one that lays. -/
theorem LaidX.after {B g : Nat} {v : Value} {s s' : WS} {a b c : World} (hb : Below a.heap.size a b) (h : LaidX B g v s' b c) (_H : XAt B a g v s) : LaidX B g v s' a c := by
  obtain ⟨v', h1, k, h2⟩ := h
  refine ⟨v', h1, (Below.kept hb _).trans k (fun _ _ q => q), fun x hx => ?_⟩
  rcases h2 x hx with q | q
  · exact Or.inl q
  · exact Or.inr (Nat.le_trans hb.size q)


/-- An append of a byte, as one step of a region that draws its order. -/
theorem step_app_byte {ops : Array Oper} {o : Oper} {a : Act} {K : Act → World → Prop} {Q : Exit → Act → World → Prop} {E : Prop} (hgd : o.guard = none) (s x : Operand)
    (ho : o.op = .call { callee := .builtin .append, args := #[s, x], argTypes := #[87, 87] })
    {B : Nat} {wx : World} {v : Value} {l : List UInt8} (hs : a.eval s = v) (hown : Own B wx v l) (hB : B ≤ wx.heap.size) (c : UInt8) (ad : Addr)
    (hx : a.eval x = .slice (some ad) 1 1) (hnews : ∀ j u, [Value.int .u8 (c8 c)][j]? = some u → wx.cell? (ad.add j) = some u) (hl : l.length < 140737488355328)
    (h : ∀ v' w', Own B w' v' (l ++ [c]) → wx.grownBy w' v.ownBlock → (v'.ownBlock = v.ownBlock ∨ v'.ownBlock = some wx.heap.size) → K (a.put o.dst v') w') :
    if Region.wanted o (yielded ops a.tmps) = true then Oper.wp Tryz.prog o a wx K Q else E := by
  have hw : Region.wanted o (yielded ops a.tmps) = true := by simp [Region.wanted, hgd]
  rw [if_pos hw]
  obtain ⟨i0, hi, hz0, hz1, hz2⟩ := info_parts info_byte
  obtain ⟨v', w', hr, h1, h2, _, h3⟩ := run_append_own_at (P := Tryz.prog) wx B 87 o.type 5 i0 (.int .u8 0) 1 1 Tryz.underlying87 hi hz0 hz1 hz2 rfl (by decide) v l.length (cells8 l) hown ad 1 1 [.int .u8 (c8 c)] rfl hnews (fun u hu => by simp only [List.mem_cons, List.not_mem_nil, or_false] at hu; rw [hu]; rfl) (by unfold maxLen; omega) (by omega) hB
  unfold Oper.wp execOp
  simp only [ho, resolve, invoke, builtin, Sem.run_bind, Sem.run_pure, Result.andThen_ok, List.map_toArray, List.map_cons, List.map_nil, hs, hx, hr]
  exact h v' w' (own_more h1) h2 h3
theorem own_slice {B : Nat} {w : World} {v : Value} {l : List UInt8} (h : Own B w v l) : ∃ a n cap, v = .slice a n cap := by
  obtain ⟨a, cap, e, _⟩ := h.bytes.len; exact ⟨a, _, cap, e⟩
/-- A field of a struct behind the append. -/
theorem field_kept {wr wx w' : World} {g : Nat} {v : Value} {cs : Array Value} {t : TypeId} (hg : wr.heap[g]? = some (.cells cs t (0, 0))) (hx : ∀ k, k < wr.heap.size → wx.heap[k]? = wr.heap[k]?) (hs : wr.heap.size ≤ wx.heap.size) (hgr : wx.grownBy w' v.ownBlock) (hne : v.ownBlock ≠ some g) :
    w'.heap[g]? = some (.cells cs t (0, 0)) := by
  have hlt : g < wr.heap.size := by
    rcases Nat.lt_or_ge g wr.heap.size with h | h
    · exact h
    · rw [Array.getElem?_eq_none h] at hg; simp at hg
  rw [hgr.block g (by omega) (fun e => hne e.symm), hx g hlt]; exact hg

set_option maxHeartbeats 1000000 in
theorem xForm_any (v : Nat) (hv : v < 18446744073709551616) (w : World) :
    Calls Tryz.prog 93 #[.int .u64 v] w fun e w' => ∃ v', e = .returned v' ∧ Own w.heap.size w' v' (form v) ∧ Below w.heap.size w w' := by
  have T10 : Aside ((form v).length ≤ 10) := form_ten v hv
  go_enter Tryz.func93, Tryz.ntmps93
  go_wp2_with fail
  go_loopg [0, 3] v (fun g sv so wr => ∃ (x : Nat) (vo : Value) (l : List UInt8), g = x ∧ x < 18446744073709551616 ∧ sv = .int .u64 (x : Int) ∧ vo = so ∧ l ++ form x = form v ∧ Own w.heap.size wr vo l ∧ Below w.heap.size w wr)
  case atStart => exact ⟨v, _, [], rfl, hv, rfl, rfl, rfl, World.ownsRow_nil _ _ _ _, Below.refl _ _⟩
  case round =>
    obtain ⟨x, vo, l, hg, hx, rfl, rfl, hf, ho, hb⟩ := hrel
    have R : Aside (l ++ form x = form v ∧ Below w.heap.size w wr ∧ gk = x) := ⟨hf, hb, hg⟩
    have O : Hid (Own w.heap.size wr vo l) := ho
    have S : Hid (w.heap.size ≤ wr.heap.size) := hb.size
    have L : Hid (l.length < 140737488355328) := by
      have := congrArg List.length hf
      rw [List.length_append] at this
      have := T10.out
      show _ < _; omega
    clear hf hb ho hg
    by_cases hlt : x < 128
    · have hlt' : ¬ (128 : Int) ≤ (x : Int) := by omega
      obtain ⟨c, hc⟩ : ∃ c, c = UInt8.ofNat x := ⟨_, rfl⟩
      have C : Aside (c8 c = x ∧ c = UInt8.ofNat x) := ⟨by rw [hc, c8_of x (by omega)], hc⟩
      clear hc
      go_wp2_with (at_builtin; refine app_byte rfl _ _ rfl rfl O.out S.out _ c ?hn rfl L.out ?_)
      case hn => rw [C.out.1]
      intro v' w' h1 h2 _
      have A : Aside (Own w.heap.size w' v' (l ++ [c]) ∧ Below w.heap.size w w') := ⟨h1, R.out.2.1.trans (grown_below h2 O.out S.out)⟩
      clear h1 h2 O S L
      go_wp2_with fail
      go_ret
      refine ⟨_, rfl, ?_, A.out.2⟩
      rw [← R.out.1, form_low hlt, ← C.out.2]; exact A.out.1
    · have hlt' : (128 : Int) ≤ (x : Int) := by omega
      obtain ⟨c, hc⟩ : ∃ c, c = UInt8.ofNat (x % 128 + 128) := ⟨_, rfl⟩
      have C : Aside (c8 c = (x : Int) % 128 + 128 ∧ c = UInt8.ofNat (x % 128 + 128)) := ⟨by rw [hc, c8_of _ (by omega)]; omega, hc⟩
      clear hc
      go_wp2_with (at_builtin; refine app_byte rfl _ _ rfl rfl O.out S.out _ c ?hn rfl L.out ?_)
      case hn => rw [C.out.1]
      intro v' w' h1 h2 _
      have A : Aside (Own w.heap.size w' v' (l ++ [c]) ∧ Below w.heap.size w w') := ⟨h1, R.out.2.1.trans (grown_below h2 O.out S.out)⟩
      clear h1 h2 O S L
      go_wp2_with fail
      go_roundg (x / 128)
      case measure => have := R.out.2.2; omega
      case rel =>
        refine ⟨x / 128, v', _, rfl, by omega, by go_num, rfl, ?_, A.out.1, A.out.2⟩
        rw [← R.out.1, form_high hlt, List.append_assoc, C.out.2]; rfl
set_option maxHeartbeats 1000000 in
theorem xSigned_any (v : Int) (h1 : -9223372036854775808 ≤ v) (h2 : v < 9223372036854775808) (w : World) :
    Calls Tryz.prog 98 #[.int .i64 v] w fun e w' => e = .returned (.int .u64 (zig v)) ∧ w' = w := by
  go_enter Tryz.func98, Tryz.ntmps98
  by_cases h : 0 ≤ v
  · go_wp2_with fail
    go_ret
    refine ⟨ret_int ?_, rfl⟩
    unfold zig; rw [if_pos h]; omega
  · go_wp2_with fail
    go_ret
    refine ⟨ret_int ?_, rfl⟩
    unfold zig; rw [if_neg (by omega)]; omega
end Go.Proofs.YtanpneahembhbaaGreatDoor
end S1

section S2
namespace Go.Proofs.YtanpneahembhbaaGreatDoor
open Go.RowKit

theorem cell0 {w : World} {g : Nat} {x y z : Value} {t : TypeId} (h : w.heap[g]? = some (.cells #[x, y, z] t (0, 0))) : w.cell? ⟨g, 0, none⟩ = some x := by
  rw [cell_of_row w g 0 _ _ _ h]; rfl

set_option maxHeartbeats 4000000 in
set_option maxRecDepth 100000 in
theorem xlay_any (B g : Nat) (v : Value) (s : WS) (um : Value) (m : List UInt8) (w : World) (H : XAt B w g v s) (B' : Nat) (hm : Own B' w um m) (hap : ∀ k, um.ownBlock = some k → ¬ WF g v k) (hl : m.length ≤ 140737488355328) :
    Calls Tryz.prog 92 #[.pointer (some ⟨g, 0, none⟩), um] w fun e w' => e = .returned (.tuple #[]) ∧ LaidX B g v (s.lay m) w w' := by
  have V : Aside (XAt B w g v s ∧ Own B' w um m ∧ ∀ k, um.ownBlock = some k → ¬ WF g v k) := ⟨H, hm, hap⟩
  obtain ⟨c0, c1, c2, f0, f2⟩ := H.cells
  obtain ⟨hle, hlim, _⟩ := H.2.2.2
  obtain ⟨a, cap, rfl, hac, hcm⟩ := hm.bytes.len
  obtain ⟨a', cap', e', hac', hcm'⟩ := H.2.2.1.bytes.len
  rw [e'] at c0
  unfold maxLen at hcm hcm'
  clear H hm e' hap
  go_enter Tryz.func92, Tryz.ntmps92
  by_cases he : s.e = 0
  · rw [he] at c2
    go_wp2_with fail
    go_quiet (fail)
    by_cases hfit : s.l.length + m.length ≤ s.lim
    · have hfit' : ¬ ((s.l.length : Int) + (m.length : Int) > (s.lim : Int)) := by omega
      clear c0 c1 c2 f0 f2
      go_wp2_with fail
      go_loopg [4] m.length (fun g0 si wr => ∃ (k : Nat) (u : Value), k ≤ m.length ∧ g0 = m.length - k ∧ si = .int .i64 k ∧ XAt B wr g u { s with l := s.l ++ m.take k } ∧ Kept (WF g v) w wr ∧ At v u w ∧ Own B' wr (.slice a m.length cap) m)
      case atStart =>
        have hk := drewN_kept (fun _ => False) w nq
        refine ⟨0, v, Nat.zero_le _, rfl, rfl, ?_, hk.mono (fun _ _ h => h.elim), At.refl _ _, V.out.2.1.kept hk (fun _ _ => id)⟩
        rw [List.take_zero, List.append_nil]
        exact V.out.1.kept hk (fun _ _ => id)
      case round =>
        obtain ⟨k, u, hk, hg, rfl, hx, hkp, hat, hom⟩ := hrel
        have R : Aside (gk = m.length - k ∧ XAt B wr g u { s with l := s.l ++ m.take k } ∧ Kept (WF g v) w wr ∧ At v u w ∧ Own B' wr (.slice a m.length cap) m) := ⟨hg, hx, hkp, hat, hom⟩
        clear hg hx hkp hat hom
        by_cases hlt : k < m.length
        · obtain ⟨d0, d1, d2, g0, g2⟩ := R.out.2.1.cells
          obtain ⟨au, cu, hu, huc, hum⟩ := R.out.2.1.2.2.1.bytes.len
          obtain ⟨nu, hnu⟩ : ∃ nu, nu = (s.l ++ m.take k).length := ⟨_, rfl⟩
          have hul : nu ≤ 1048576 := by rw [hnu, List.length_append, List.length_take]; omega
          obtain ⟨aa, cc, e2, _, _, _, hcl⟩ := R.out.2.2.2.2.bytes
          simp only [Value.slice.injEq, true_and] at e2
          obtain ⟨rfl, rfl⟩ := e2
          obtain ⟨b1, off1, rfl, hc1⟩ := hcl k hlt
          obtain ⟨c, hc⟩ : ∃ c, c = m.getD k 0 := ⟨_, rfl⟩
          rw [← hc] at hc1
          have C : Aside (c = m.getD k 0) := hc
          have U : Aside (u = .slice au nu cu) := by rw [hu, hnu]; rfl
          rw [hu] at d0
          have d0' : wr.cell? ⟨g, 0, none⟩ = some (.slice au nu cu) := by rw [hnu]; exact d0
          have O : Hid (Own B wr (.slice au nu cu) (s.l ++ m.take k)) := by have := R.out.2.1.2.2.1; rw [U.out] at this; exact this
          have S : Hid (B ≤ wr.heap.size) := Nat.le_trans R.out.2.1.1 (Nat.le_of_lt R.out.2.1.lt)
          have L : Hid ((s.l ++ m.take k).length < 140737488355328) := by show _ < _; omega
          have gl : g < wr.heap.size := R.out.2.1.lt
          have hlt' : (k : Int) < (m.length : Int) := by omega
          have HG : Hid (wr.heap[g]? = some (.cells #[.slice au nu cu, .int .i64 s.lim, .int .i64 s.e] 100 (0, 0)) ∧ (Value.slice au nu cu).ownBlock ≠ some g) := by
            have h1 := R.out.2.1.2.1
            have h2 := R.out.2.1.apart
            rw [U.out] at h1 h2
            exact ⟨h1, h2⟩
          have O1 : Hid (Own B ((wr.alloc (.cells #[.int .u8 (c8 c)] 5)).drew) (.slice au nu cu) (s.l ++ m.take k)) := World.ownsRow.alloc O.out _
          have S1 : Hid (B ≤ ((wr.alloc (.cells #[.int .u8 (c8 c)] 5)).drew).heap.size) := by have := S.out; show B ≤ (wr.alloc _).heap.size; simp; omega
          have N1 : Hid (∀ j u, [Value.int .u8 (c8 c)][j]? = some u → ((wr.alloc (.cells #[.int .u8 (c8 c)] 5)).drew).cell? ((⟨wr.heap.size, 0, none⟩ : Addr).add j) = some u) := fun j u hu => one_cell (w := wr) j u hu
          have FK : Hid (∀ w', (wr.alloc (.cells #[.int .u8 (c8 c)] 5)).drew.grownBy w' (Value.slice au nu cu).ownBlock → w'.cell? ⟨g, 0, none⟩ = some (.slice au nu cu) ∧ w'.frozen? ⟨g, 0, none⟩ = false) := fun w' h2 => by
            have hh := field_kept (v := .slice au nu cu) HG.out.1 (wx := (wr.alloc (.cells #[.int .u8 (c8 c)] 5)).drew) (fun k hk => Below.heap_alloc _ _ _ hk) (by show wr.heap.size ≤ (wr.alloc (.cells #[.int .u8 (c8 c)] 5)).heap.size; simp) h2 HG.out.2
            exact ⟨cell0 hh, frozen_of_row w' g 0 _ _ hh⟩
          clear hc hcl d0 hu hnu huc hum d1 d2 g2
          go_wp2_with fail
          go_region_law (refine step_app_byte (B := B) (v := .slice au nu cu) rfl _ _ rfl rfl O1.out S1.out c ⟨wr.heap.size, 0, none⟩ rfl N1.out L.out ?_; intro v' w' h1 h2 h3; obtain ⟨a2, n2, c2, rfl⟩ := own_slice h1; obtain ⟨k0, k1⟩ := FK.out w' h2)
          all_goals
            have kw : Kept (fun k => some k = u.ownBlock) wr w' := by
              rw [U.out]
              refine ⟨h2.os, h2.tape, h2.output, Nat.le_trans (by show wr.heap.size ≤ (wr.alloc (.cells #[.int .u8 (c8 c)] 5)).heap.size; simp) h2.size, fun x hx hn => ?_⟩
              rw [h2.block x (by show x < (wr.alloc (.cells #[.int .u8 (c8 c)] 5)).heap.size; simp; omega) hn]
              exact Below.heap_alloc _ _ _ hx
            have hat : At u (.slice a2 n2 c2) wr := by
              rw [U.out]
              intro x hx
              rcases h3 with h | h
              · exact Or.inl (by rw [hx, h])
              · right
                rw [h] at hx
                simp only [Option.some.injEq] at hx
                rw [hx]
                show wr.heap.size ≤ (wr.alloc (.cells #[.int .u8 (c8 c)] 5)).heap.size
                simp
            have nm : ∀ x, Value.ownBlock (.slice (some ⟨b1, off1, none⟩) m.length cap) = some x → ¬ some x = u.ownBlock ∧ x ≠ g := fun x hx => by
              have hv := V.out.2.2 x hx
              refine ⟨fun h => ?_, fun h => hv (Or.inl h)⟩
              rcases R.out.2.2.2.1 x h with q | q
              · exact hv (Or.inr q)
              · have := (V.out.2.1.lt x hx).2; omega
            have A : Aside (Kept (fun k => some k = u.ownBlock) wr w' ∧ At u (.slice a2 n2 c2) wr ∧ Own B w' (.slice a2 n2 c2) (s.l ++ m.take k ++ [c]) ∧ Own B' w' (.slice (some ⟨b1, off1, none⟩) m.length cap) m ∧ ∀ x, Value.ownBlock (.slice (some ⟨b1, off1, none⟩) m.length cap) = some x → ¬ some x = u.ownBlock ∧ x ≠ g) :=
              ⟨kw, hat, h1, R.out.2.2.2.2.kept kw (fun x hx => (nm x hx).1), nm⟩
            clear kw hat nm h1 h2 h3 k0 k1 O1 S1 N1 FK HG O S L d0' g0 hc1
            go_wp2_with fail
            go_roundg (m.length - (k + 1))
            case measure => have := R.out.1; omega
            case rel =>
              obtain ⟨kw, hat, h1, hm', nm⟩ := A.out
              have tk := take_one m k 0 hlt
              rw [← C.out] at tk
              have ks : Kept (fun x => x = g) w' (w'.setCell ⟨g, 0, none⟩ (.slice a2 n2 c2)) := kept_set w' ⟨g, 0, none⟩ _ rfl
              refine ⟨k + 1, .slice a2 n2 c2, by omega, rfl, by go_num, ?_, ?_, R.out.2.2.2.1.trans hat R.out.2.2.1.size, hm'.kept ks (fun x hx => (nm x hx).2)⟩
              · have := R.out.2.1.setLaidX kw h1 (by show (s.l ++ m.take k ++ [c]).length ≤ s.lim; rw [List.append_assoc, ← tk, List.length_append, List.length_take]; omega)
                rw [List.append_assoc, ← tk] at this
                exact this
              · refine (R.out.2.2.1.trans (kw.mono (fun x _ h => h)) (fun x hx h => ?_)).trans ks (fun x _ h => Or.inl h)
                rcases R.out.2.2.2.1 x h with q | q
                · exact Or.inr q
                · omega
        · go_wp2_with fail
          first | go_end0 | refine bodyPost_ret (results_none rfl _ _ _) rfl ?_
          have e1 : s.lay m = { s with l := s.l ++ m } := by unfold WS.lay; rw [if_pos he, if_pos hfit]
          have h := R.out.2
          rw [List.take_of_length_le (by omega)] at h
          rw [e1]
          exact ⟨rfl, u, h.1, h.2.1, h.2.2.1⟩
    · have hfit' : ((s.l.length : Int) + (m.length : Int) > (s.lim : Int)) := by omega
      go_wp2_with fail
      first | go_end0 | refine bodyPost_ret (results_none rfl _ _ _) rfl ?_
      have e1 : s.lay m = { s with e := 23 } := by unfold WS.lay; rw [if_pos he, if_neg hfit]
      rw [e1]
      have hk := drewN_kept (fun _ => False) w nq
      refine ⟨rfl, v, (V.out.1.kept hk (fun _ _ => id)).setErr 23 (by decide), (hk.mono (fun _ _ h => h.elim)).trans (kept_set (F := fun k => k = g) _ ⟨g, 2, none⟩ _ rfl) (fun _ _ h => Or.inl h), At.refl _ _⟩
  · have he' : ¬ (s.e : Int) = 0 := by omega
    go_wp2_with fail
    first | go_end0 | refine bodyPost_ret (results_none rfl _ _ _) rfl ?_
    have e1 : s.lay m = s := by unfold WS.lay; rw [if_neg he]
    rw [e1]
    exact ⟨rfl, LaidX.same V.out.1 (Kept.refl _ _)⟩
end Go.Proofs.YtanpneahembhbaaGreatDoor
end S2

section S3
namespace Go.Proofs.YtanpneahembhbaaGreatDoor
open Go.RowKit

theorem fresh_apart {B g : Nat} {v u : Value} {s : WS} {w w1 : World} {m : List UInt8} (H : XAt B w g v s) (h : Own w.heap.size w1 u m) : ∀ k, u.ownBlock = some k → ¬ WF g v k := fun k hk hf => by
  have h1 := (H.foot k hf).2
  have h2 := (h.lt k hk).1
  omega
theorem xForm_eq {q : Int} {n : Nat} (hq : q = n) (hn : n < 18446744073709551616) (w : World) :
    Calls Tryz.prog 93 #[.int .u64 q] w fun e w' => ∃ v', e = .returned v' ∧ Own w.heap.size w' v' (form n) ∧ Below w.heap.size w w' := by
  rw [hq]; exact xForm_any n hn w
set_option maxHeartbeats 1000000 in
theorem xUint_any (B g : Nat) (v : Value) (s : WS) (n : Nat) (w : World) (hn : n < 18446744073709551616) (H : XAt B w g v s) :
    Calls Tryz.prog 94 #[.pointer (some ⟨g, 0, none⟩), .int .u64 n] w fun e w' => e = .returned (.tuple #[]) ∧ LaidX B g v (s.lay (form n)) w w' := by
  have V : Aside (XAt B w g v s) := H
  have T : Aside ((form n).length ≤ 10) := form_ten n hn
  clear H
  go_enter Tryz.func94, Tryz.ntmps94
  go_wp2_with fail
  refine (xForm_any n hn w).mono ?_
  rintro e w1 ⟨u, rfl, ho, hb⟩
  have A : Aside (Own w.heap.size w1 u (form n) ∧ Below w.heap.size w w1) := ⟨ho, hb⟩
  clear ho hb
  go_wp2_with fail
  refine (xlay_any B g v s u (form n) w1 (V.out.below A.out.2) w.heap.size A.out.1 (fresh_apart V.out A.out.1) (by have := T.out; omega)).mono ?_
  rintro e w2 ⟨rfl, hl⟩
  have L : Aside (LaidX B g v (s.lay (form n)) w w2) := LaidX.after A.out.2 hl V.out
  clear hl
  go_wp2_with fail
  first | go_end0 | refine bodyPost_ret (results_none rfl _ _ _) rfl ?_
  exact ⟨rfl, L.out⟩
set_option maxHeartbeats 1000000 in
theorem xInt_any (B g : Nat) (v : Value) (s : WS) (n : Int) (w : World) (h1 : -9223372036854775808 ≤ n) (h2 : n < 9223372036854775808) (H : XAt B w g v s) :
    Calls Tryz.prog 68 #[.pointer (some ⟨g, 0, none⟩), .int .i64 n] w fun e w' => e = .returned (.tuple #[]) ∧ LaidX B g v (s.lay (form (zig n))) w w' := by
  have V : Aside (XAt B w g v s) := H
  have T : Aside ((form (zig n)).length ≤ 10) := form_ten _ (zig_lt n h1 h2)
  clear H
  go_enter Tryz.func68, Tryz.ntmps68
  go_wp2_with fail
  refine (xSigned_any n h1 h2 w).mono ?_
  rintro e w ⟨rfl, rfl⟩
  go_wp2_with fail
  refine (xForm_any (zig n) (zig_lt n h1 h2) w).mono ?_
  rintro e w1 ⟨u, rfl, ho, hb⟩
  have A : Aside (Own w.heap.size w1 u (form (zig n)) ∧ Below w.heap.size w w1) := ⟨ho, hb⟩
  clear ho hb
  go_wp2_with fail
  refine (xlay_any B g v s u (form (zig n)) w1 (V.out.below A.out.2) w.heap.size A.out.1 (fresh_apart V.out A.out.1) (by have := T.out; omega)).mono ?_
  rintro e w2 ⟨rfl, hl⟩
  have L : Aside (LaidX B g v (s.lay (form (zig n))) w w2) := LaidX.after A.out.2 hl V.out
  clear hl
  go_wp2_with fail
  first | go_end0 | refine bodyPost_ret (results_none rfl _ _ _) rfl ?_
  exact ⟨rfl, L.out⟩
theorem one_own (w : World) (c : UInt8) : Own w.heap.size (w.alloc (.cells #[.int .u8 (c8 c)] 5)) (.slice (some ⟨w.heap.size, 0, none⟩) 1 1) [c] := by
  show World.ownsRow _ _ _ _ _ _ _
  exact ⟨rfl, .inr ⟨w.heap.size, 1, _, rfl, Nat.le_refl _, heap_alloc_new w _, Nat.le_refl _, by decide, rfl, rfl⟩⟩
theorem xlay_one {n : Int} {c : UInt8} (hn : n = c8 c) (B g : Nat) (v : Value) (s : WS) (w : World) (H : XAt B w g v s) :
    Calls Tryz.prog 92 #[.pointer (some ⟨g, 0, none⟩), .slice (some ⟨w.heap.size, 0, none⟩) 1 1] (w.alloc (.cells #[.int .u8 n] 5)) fun e w' => e = .returned (.tuple #[]) ∧ LaidX B g v (s.lay [c]) w w' := by
  subst hn
  have hb : Below w.heap.size w (w.alloc (.cells #[.int .u8 (c8 c)] 5)) := (Below.refl _ _).alloc (Nat.le_refl _) _
  refine (xlay_any B g v s _ [c] _ (H.below hb) w.heap.size (one_own w c) (fresh_apart H (one_own w c)) (by simp)).mono ?_
  rintro e w2 ⟨rfl, hl⟩
  exact ⟨rfl, LaidX.after hb hl H⟩
set_option maxHeartbeats 1000000 in
theorem xByte_eq {n : Int} {c : UInt8} (hn : n = c8 c) (B g : Nat) (v : Value) (s : WS) (w : World) (H : XAt B w g v s) :
    Calls Tryz.prog 60 #[.pointer (some ⟨g, 0, none⟩), .int .u8 n] w fun e w' => e = .returned (.tuple #[]) ∧ LaidX B g v (s.lay [c]) w w' := by
  have V : Aside (XAt B w g v s ∧ n = c8 c) := ⟨H, hn⟩
  clear H hn
  go_enter Tryz.func60, Tryz.ntmps60
  go_wp2_with fail
  refine (xlay_one V.out.2 B g v s w V.out.1).mono ?_
  rintro e w2 ⟨rfl, hl⟩
  have L : Aside (LaidX B g v (s.lay [c]) w w2) := hl
  clear hl
  go_wp2_with fail
  first | go_end0 | refine bodyPost_ret (results_none rfl _ _ _) rfl ?_
  exact ⟨rfl, L.out⟩
theorem str_at (t : ByteArray) (k : Nat) (h : k < t.size) : c8 (t.data.toList.getD k 0) = (((t[k]'h).toNat : Nat) : Int) := by
  have e : t.data.toList.getD k 0 = t[k]'h := by
    have h' : k < t.data.size := h
    simp [List.getD, Array.getElem?_eq_getElem h']; rfl
  rw [e]; rfl
set_option maxHeartbeats 2000000 in
set_option maxRecDepth 100000 in
theorem xText_any (B g : Nat) (v : Value) (s : WS) (t : ByteArray) (w : World) (ht : t.size ≤ 140737488355000) (H : XAt B w g v s) :
    Calls Tryz.prog 61 #[.pointer (some ⟨g, 0, none⟩), .string t] w fun e w' => e = .returned (.tuple #[]) ∧ LaidX B g v (s.lay (form t.size ++ t.data.toList)) w w' := by
  have V : Aside (XAt B w g v s) := H
  have T : Aside ((form t.size).length ≤ 10) := form_ten _ (by omega)
  clear H
  go_enter Tryz.func61, Tryz.ntmps61
  go_wp2_with fail
  refine (xForm_any t.size (by omega) w).mono ?_
  rintro e w1 ⟨u, rfl, ho, hb⟩
  have A : Aside (Own w.heap.size w1 u (form t.size) ∧ Below w.heap.size w w1) := ⟨ho, hb⟩
  clear ho hb
  go_wp2_with fail
  go_loopg [4, 5] t.size (fun g0 so si wr => ∃ (k : Nat) (vo : Value), k ≤ t.size ∧ g0 = t.size - k ∧ si = .int .i64 k ∧ vo = so ∧ Own w.heap.size wr vo (form t.size ++ t.data.toList.take k) ∧ Below w.heap.size w wr)
  case atStart => exact ⟨0, u, Nat.zero_le _, rfl, rfl, rfl, by simpa using A.out.1, A.out.2⟩
  case round =>
    obtain ⟨k, vo, hk, hg, rfl, rfl, ho, hb⟩ := hrel
    have R : Aside (gk = t.size - k ∧ Below w.heap.size w wr) := ⟨hg, hb⟩
    have O : Hid (Own w.heap.size wr vo (form t.size ++ t.data.toList.take k)) := ho
    have S : Hid (w.heap.size ≤ wr.heap.size) := hb.size
    have L : Hid ((form t.size ++ t.data.toList.take k).length < 140737488355328) := by
      have := T.out
      show _ < _; rw [List.length_append, List.length_take, str_size]; omega
    clear hg ho hb
    by_cases hlt : k < t.size
    · have hlt' : (k : Int) < (t.size : Int) := by omega
      obtain ⟨c, hc⟩ : ∃ c, c = t.data.toList.getD k 0 := ⟨_, rfl⟩
      have C : Aside (c8 c = (((t[k]'hlt).toNat : Nat) : Int) ∧ c = t.data.toList.getD k 0) := ⟨by rw [hc]; exact str_at t k hlt, hc⟩
      clear hc
      go_wp2_with (at_builtin; refine app_byte rfl _ _ rfl rfl O.out S.out _ c ?hn rfl L.out ?_)
      case hn => exact C.out.1.symm
      intro v' w' h1 h2 _
      have A2 : Aside (Own w.heap.size w' v' (form t.size ++ t.data.toList.take k ++ [c]) ∧ Below w.heap.size w w') := ⟨by simpa using h1, R.out.2.trans (grown_below h2 O.out S.out)⟩
      clear h1 h2 O S L
      go_wp2_with fail
      go_roundg (t.size - (k + 1))
      case measure => have := R.out.1; omega
      case rel => exact ⟨k + 1, v', by omega, rfl, by go_num, rfl, by rw [take_one t.data.toList k 0 (by rw [str_size]; exact hlt), ← C.out.2, ← List.append_assoc]; exact A2.out.1, A2.out.2⟩
    · have E : Aside (Own w.heap.size wr vo (form t.size ++ t.data.toList) ∧ Below w.heap.size w wr) := by
        have := O.out
        rw [List.take_of_length_le (by rw [str_size]; omega)] at this
        exact ⟨this, R.out.2⟩
      clear O S L
      go_wp2_with fail
      refine (xlay_any B g v s vo (form t.size ++ t.data.toList) wr (V.out.below E.out.2) w.heap.size E.out.1 (fresh_apart V.out E.out.1) (by have := T.out; rw [List.length_append, str_size]; omega)).mono ?_
      rintro e w2 ⟨rfl, hl⟩
      have L : Aside (LaidX B g v (s.lay (form t.size ++ t.data.toList)) w w2) := LaidX.after E.out.2 hl V.out
      clear hl
      go_wp2_with fail
      first | go_end0 | refine bodyPost_ret (results_none rfl _ _ _) rfl ?_
      exact ⟨rfl, L.out⟩
theorem wrap_lt (n : Int) (_h1 : -9223372036854775808 ≤ n) (_h2 : n < 9223372036854775808) : ∃ k : Nat, IntKind.u64.wrap n = k ∧ k < 18446744073709551616 := by
  rw [IntKind.wrap_u64]
  exact ⟨(n % 18446744073709551616).toNat, by omega, by omega⟩
theorem lay_dead' (s : WS) (f : List UInt8) (he : ¬ s.e = 0) : s.lay f = s := by unfold WS.lay; rw [if_neg he]
set_option maxHeartbeats 2000000 in
theorem xCount_any (B g : Nat) (v : Value) (s : WS) (n : Int) (w : World) (h1 : -9223372036854775808 ≤ n) (h2 : n < 9223372036854775808) (H : XAt B w g v s) :
    Calls Tryz.prog 67 #[.pointer (some ⟨g, 0, none⟩), .int .i64 n] w fun e w' => e = .returned (.tuple #[]) ∧ LaidX B g v (s.count n) w w' := by
  have V : Aside (XAt B w g v s) := H
  obtain ⟨_, _, c2, _, f2⟩ := H.cells
  clear H
  go_enter Tryz.func67, Tryz.ntmps67
  by_cases hn : 0 ≤ n ∧ n ≤ 4096
  · obtain ⟨n0, n1⟩ := hn
    have U : Aside (s.count n = s.lay (form n.toNat)) := by unfold WS.count; rw [if_pos ⟨n0, n1⟩]; rfl
    obtain ⟨k, rfl⟩ : ∃ k : Nat, n = k := ⟨n.toNat, by omega⟩
    rw [Int.toNat_natCast] at U
    have T : Aside ((form k).length ≤ 10) := form_ten k (by omega)
    have q1 : ¬ ((k : Int) < 0) := by omega
    have q2 : ¬ ((k : Int) > 4096) := by omega
    by_cases he : s.e = 0
    all_goals
      try rw [he] at c2
      try have he' : ¬ (s.e : Int) = 0 := by omega
      go_wp2_with fail
      refine (xForm_any k (by omega) w).mono ?_
      rintro e w1 ⟨u, rfl, ho, hb⟩
      have A : Aside (Own w.heap.size w1 u (form k) ∧ Below w.heap.size w w1) := ⟨ho, hb⟩
      clear ho hb
      go_wp2_with fail
      refine (xlay_any B g v s u (form k) w1 (V.out.below A.out.2) w.heap.size A.out.1 (fresh_apart V.out A.out.1) (by have := T.out; omega)).mono ?_
      rintro e w2 ⟨rfl, hl⟩
      have L : Aside (LaidX B g v (s.lay (form k)) w w2) := LaidX.after A.out.2 hl V.out
      clear hl
      go_wp2_with fail
      first | go_end0 | refine bodyPost_ret (results_none rfl _ _ _) rfl ?_
      rw [U.out]
      exact ⟨rfl, L.out⟩
  · have E : Aside (s.count n = if s.e = 0 then { s with e := 1 } else s) := by unfold WS.count; rw [if_neg hn]; rfl
    by_cases he : s.e = 0
    · rw [he] at c2
      by_cases h0 : n < 0
      · clear hn
        go_wp2_with fail
        first | go_end0 | refine bodyPost_ret (results_none rfl _ _ _) rfl ?_
        rw [E.out, if_pos he]
        exact ⟨rfl, v, V.out.setErr 1 (by decide), kept_set _ ⟨g, 2, none⟩ _ (Or.inl rfl), At.refl _ _⟩
      · have h3 : n > 4096 := by omega
        clear hn
        go_wp2_with fail
        first | go_end0 | refine bodyPost_ret (results_none rfl _ _ _) rfl ?_
        rw [E.out, if_pos he]
        exact ⟨rfl, v, V.out.setErr 1 (by decide), kept_set _ ⟨g, 2, none⟩ _ (Or.inl rfl), At.refl _ _⟩
    · have he' : ¬ (s.e : Int) = 0 := by omega
      obtain ⟨k, hk, hkl⟩ := wrap_lt n h1 h2
      have T : Aside ((form k).length ≤ 10) := form_ten k hkl
      have DE : Aside (s.lay (form k) = s ∧ s.count n = s) := ⟨lay_dead' s _ he, by rw [E.out, if_neg he]⟩
      clear hn he
      go_wp2_with fail
      all_goals
        refine (xForm_eq (n := k) ?hq hkl w).mono ?_
        case hq => first | rfl | exact hk
        rintro e w1 ⟨u, rfl, ho, hb⟩
        have A : Aside (Own w.heap.size w1 u (form k) ∧ Below w.heap.size w w1) := ⟨ho, hb⟩
        clear ho hb
        go_wp2_with fail
        refine (xlay_any B g v s u (form k) w1 (V.out.below A.out.2) w.heap.size A.out.1 (fresh_apart V.out A.out.1) (by have := T.out; omega)).mono ?_
        rintro e w2 ⟨rfl, hl⟩
        rw [DE.out.1] at hl
        have L : Aside (LaidX B g v s w w2) := LaidX.after A.out.2 hl V.out
        clear hl
        go_wp2_with fail
        first | go_end0 | refine bodyPost_ret (results_none rfl _ _ _) rfl ?_
        rw [DE.out.2]
        exact ⟨rfl, L.out⟩
end Go.Proofs.YtanpneahembhbaaGreatDoor
end S3

section S4
namespace Go.Proofs.YtanpneahembhbaaGreatDoor
open Go.RowKit
structure XW (w0 : World) (B g : Nat) (s : WS) (w : World) : Prop where
  wr : ∃ v, XAt B w g v s
  lo : w0.heap.size ≤ B
  be : Below w0.heap.size w0 w
theorem XW.calls {w0 w : World} {B g : Nat} {s s' : WS} {f : Nat} {args : Array Value} {r : Ending} (h : XW w0 B g s w) (hc : ∀ v, XAt B w g v s → Calls Tryz.prog f args w fun e w' => e = r ∧ LaidX B g v s' w w') :
    Calls Tryz.prog f args w fun e w' => e = r ∧ XW w0 B g s' w' := by
  obtain ⟨v, hv⟩ := h.wr
  refine (hc v hv).mono ?_
  rintro e w' ⟨rfl, hl⟩
  have hb := hl.below hv
  obtain ⟨v', h1, _, _⟩ := hl
  exact ⟨rfl, ⟨v', h1⟩, h.lo, h.be.trans (hb.mono h.lo)⟩
set_option maxHeartbeats 4000000 in
set_option maxRecDepth 100000 in
theorem rbytesB_any (b : Bd) (w : World) (hv : 0 ≤ b.v ∧ b.v ≤ 9) (hz : b.p.size ≤ 1048576 ∧ b.n.size ≤ 1048576 ∧ b.s.size ≤ 1048576) (hl : (bdE b).flatten.length ≤ 1048576) :
    Calls Tryz.prog 39 #[b.val] w fun e w' => e = .returned (.string (txt (bdE b).flatten)) ∧ Below w.heap.size w w' := by
  obtain ⟨X, hX⟩ : ∃ X, X = w.alloc (.cells #[.string b.p, .string b.n, .string b.s, .int .i64 b.v] 31) := ⟨_, rfl⟩
  have AX : Hid (Below w.heap.size w X) := Lib.hid (by rw [hX]; exact (Below.refl _ w).alloc (Nat.le_refl _) _)
  have CX : Hid (∀ i y, (#[.string b.p, .string b.n, .string b.s, .int .i64 b.v] : Array Value)[i]? = some y → X.cell? ⟨w.heap.size, i, none⟩ = some y) := Lib.hid fun i y h => by
    rw [hX, World.cell?_alloc_new]; exact h
  have LA := Lib.hid (lays_all (bdE b) ⟨[], 1048576, 0⟩ rfl (by simp))
  have HL := Lib.hid (And.intro hz hl)
  have wv : IntKind.u8.wrap b.v = c8 (by8 b.v) := by
    unfold by8
    rw [c8_of _ (by omega), IntKind.wrap_u8]; omega
  have hX' := hX.symm
  clear hX hl hz hv
  unfold Bd.val
  go_enter Tryz.func39, Tryz.ntmps39
  go_wp2_with fail
  clear hX'
  refine (xnewWriter_any 1048576 X).mono ?_
  rintro e w3 ⟨rfl, hw, _, hb⟩
  obtain ⟨B, hB⟩ : ∃ B, B = X.heap.size := ⟨_, rfl⟩
  rw [← hB] at hw ⊢
  have W3 : Aside (XW X B B ⟨[], 1048576, 0⟩ w3) := ⟨⟨_, hw⟩, by rw [hB]; exact Nat.le_refl _, hb⟩
  clear hw hb hB
  go_wp2_with fail
  refine (W3.out.calls (fun v hv => xByte_eq (n := 66) (c := 66) rfl B B v _ w3 hv)).mono ?_
  rintro e w4 ⟨rfl, hw⟩
  have W4 : Aside (XW X B B _ w4) := hw
  clear hw W3 
  go_wp2_with fail
  refine (W4.out.calls (fun v hv => xByte_eq (n := 1) (c := 1) rfl B B v _ w4 hv)).mono ?_
  rintro e w5 ⟨rfl, hw⟩
  have W5 : Aside (XW X B B _ w5) := hw
  clear hw W4 
  have d0 := (W5.out.be.cell (block_lt_of_cell (CX.out 0 _ rfl))).trans (CX.out 0 _ rfl)
  go_wp2_with fail
  refine (W5.out.calls (fun v hv => xText_any B B v _ b.p w5 (by have := HL.out.1.1; omega) hv)).mono ?_
  rintro e w6 ⟨rfl, hw⟩
  have W6 : Aside (XW X B B _ w6) := hw
  clear hw W5 d0
  have d1 := (W6.out.be.cell (block_lt_of_cell (CX.out 1 _ rfl))).trans (CX.out 1 _ rfl)
  go_wp2_with fail
  refine (W6.out.calls (fun v hv => xText_any B B v _ b.n w6 (by have := HL.out.1.2.1; omega) hv)).mono ?_
  rintro e w7 ⟨rfl, hw⟩
  have W7 : Aside (XW X B B _ w7) := hw
  clear hw W6 d1
  have d2 := (W7.out.be.cell (block_lt_of_cell (CX.out 2 _ rfl))).trans (CX.out 2 _ rfl)
  go_wp2_with fail
  refine (W7.out.calls (fun v hv => xText_any B B v _ b.s w7 (by have := HL.out.1.2.2; omega) hv)).mono ?_
  rintro e w8 ⟨rfl, hw⟩
  have W8 : Aside (XW X B B _ w8) := hw
  clear hw W7 d2
  have d3 := (W8.out.be.cell (block_lt_of_cell (CX.out 3 _ rfl))).trans (CX.out 3 _ rfl)
  go_wp2_with fail
  refine (W8.out.calls (fun v hv => xByte_eq (n := c8 (by8 b.v)) (c := by8 b.v) rfl B B v _ w8 hv)).mono ?_
  rintro e w9 ⟨rfl, hw⟩
  have W9 : Aside (XW X B B _ w9) := hw
  clear hw W8 d3
  have ST : Hid (XW X B B ⟨(bdE b).flatten, 1048576, 0⟩ w9) := Lib.hid (by
    have q := LA.out.1 (by simp only [List.length_nil, Nat.zero_add]; exact HL.out.2)
    rw [List.nil_append] at q
    rw [← q]; exact W9.out)
  obtain ⟨v, hv⟩ := ST.out.wr
  have c0 : w9.cell? ⟨B, 0, none⟩ = some v := by rw [cell_of_row w9 B 0 _ _ _ hv.2.1]; rfl
  have cv : (convert 87 9 v).run Tryz.prog w9 = .ok (.string (txt (bdE b).flatten)) w9 := convT hv.2.2.1.bytes
  have BF : Hid (Below w.heap.size w w9) := Lib.hid (AX.out.trans (ST.out.be.mono AX.out.size))
  clear hv W9
  go_wp2_with fail
  go_ret
  exact ⟨rfl, BF.out⟩
end Go.Proofs.YtanpneahembhbaaGreatDoor
end S4

section S5
namespace Go.Proofs.YtanpneahembhbaaGreatDoor
open Go.RowKit
set_option maxHeartbeats 4000000 in
set_option maxRecDepth 100000 in
theorem rlayAmounts_any (w0 : World) (B g : Nat) (s : WS) (l : List Am) (u : Value) (w : World) (H : XW w0 B g s w) (hv : Row kAm w0 u l) (hf : ∀ x ∈ l, x.n.size ≤ 1048576 ∧ 0 ≤ x.v ∧ x.v ≤ 9223372036854775807) (hl : l.length ≤ 4096) :
    Calls Tryz.prog 62 #[.pointer (some ⟨g, 0, none⟩), u] w fun e w' => e = .returned (.tuple #[]) ∧ XW w0 B g ((amsE l).foldl WS.lay s) w' := by
  have V := Lib.hid hv
  have FT := Lib.hid hf
  obtain ⟨a, cap, rfl, hlc, hcm⟩ := hv.len
  unfold maxLen at hcm
  obtain ⟨n, hn⟩ : ∃ n, n = l.length := ⟨_, rfl⟩
  rw [← hn] at hlc hl V ⊢
  have HN := Lib.hid hn
  have W0 : Aside (XW w0 B g s w) := H
  clear hv hf hn H
  go_enter Tryz.func62, Tryz.ntmps62
  go_wp2_with fail
  refine (W0.out.calls (fun v hv => xCount_any B g v _ (n : Int) w (by omega) (by omega) hv)).mono ?_
  rintro e w1 ⟨rfl, hw⟩
  have W1 : Aside (XW w0 B g (s.lay (form n)) w1) := by
    have : s.count (n : Int) = s.lay (form n) := by unfold WS.count; rw [if_pos (by omega)]; rfl
    rw [← this]; exact hw
  clear hw W0
  go_wp2_with fail
  go_loopg [4] n (fun gg si wr => ∃ (k : Nat), k ≤ n ∧ gg = n - k ∧ si = .int .i64 k ∧ XW w0 B g (((l.take k).flatMap amE).foldl WS.lay (s.lay (form n))) wr)
  case atStart => exact ⟨0, Nat.zero_le _, rfl, rfl, W1.out⟩
  case round =>
    clear W1
    obtain ⟨k, hk, hg, rfl, hw⟩ := hrel
    have R : Aside (gk = n - k ∧ XW w0 B g (((l.take k).flatMap amE).foldl WS.lay (s.lay (form n))) wr) := ⟨hg, hw⟩
    clear hg hw
    by_cases hlt : k < n
    · have hlt' : (k : Int) < (n : Int) := by omega
      have hlt2 : k < l.length := by rw [← HN.out]; exact hlt
      have XF := Lib.hid (FT.out _ (getD_in (d := kAm.z) hlt2))
      have ST := Lib.hid (take_onez l k kAm.z hlt2)
      have PCs : Hid (∀ X : World, Below w0.heap.size w0 X → ∃ b off, a = some ⟨b, off, none⟩ ∧ X.cell? ⟨b, off + k * 2, none⟩ = some (.string (l.getD k kAm.z).n) ∧ X.cell? ⟨b, off + k * 2 + 1, none⟩ = some (.int .i64 (l.getD k kAm.z).v)) := Lib.hid fun X hX => by
        obtain ⟨b, off, ea, pc⟩ := (V.out.below hX).at k hlt2
        exact ⟨b, off, ea, pc 0 _ rfl, pc 1 _ rfl⟩
      obtain ⟨x, hx⟩ : ∃ x, x = l.getD k kAm.z := ⟨_, rfl⟩
      rw [← hx] at PCs XF ST
      clear hx hlt2
      obtain ⟨xn, xv⟩ := x
      obtain ⟨m, hm⟩ : ∃ m : Nat, xv = (m : Int) := ⟨xv.toNat, by have q : 0 ≤ xv := XF.out.2.1; omega⟩
      subst hm
      obtain ⟨b, off, rfl, p0, _⟩ := PCs.out wr R.out.2.be
      go_wp2_with fail
      refine (R.out.2.calls (fun v hv => xText_any B g v _ xn wr (by have q : xn.size ≤ 1048576 := XF.out.1; omega) hv)).mono ?_
      rintro e w2 ⟨rfl, hw⟩
      have W2 : Aside (XW w0 B g _ w2) := hw
      clear hw p0
      obtain ⟨b', off', ea, _, p1⟩ := PCs.out w2 W2.out.be
      simp only [Option.some.injEq, Addr.mk.injEq, and_true] at ea
      obtain ⟨rfl, rfl⟩ := ea
      have wv : IntKind.u64.wrap (m : Int) = (m : Int) := by have q : (m : Int) ≤ 9223372036854775807 := XF.out.2.2; rw [IntKind.wrap_u64]; omega
      go_wp2_with fail
      refine (W2.out.calls (fun v hv => xUint_any B g v _ m w2 (by have q : (m : Int) ≤ 9223372036854775807 := XF.out.2.2; omega) hv)).mono ?_
      rintro e w3 ⟨rfl, hw⟩
      have W3 : Aside (XW w0 B g (((l.take (k + 1)).flatMap amE).foldl WS.lay (s.lay (form n))) w3) := by
        show XW _ _ _ _ _
        rw [ST.out, List.flatMap_append, List.foldl_append]
        exact hw
      clear hw W2 p1 wv
      go_wp2_with fail
      go_roundg (n - (k + 1))
      case measure => have := R.out.1; omega
      case rel => exact ⟨k + 1, by omega, rfl, by go_num, W3.out⟩
    · have W4 : Hid (XW w0 B g ((amsE l).foldl WS.lay s) wr) := Lib.hid (by
        have := R.out.2
        rw [List.take_of_length_le (by rw [← HN.out]; omega), HN.out] at this
        exact this)
      go_wp2_with fail
      go_end0
      exact ⟨rfl, W4.out⟩
end Go.Proofs.YtanpneahembhbaaGreatDoor
end S5

section S6
namespace Go.Proofs.YtanpneahembhbaaGreatDoor
open Go.RowKit
set_option maxHeartbeats 4000000 in
set_option maxRecDepth 100000 in
theorem rbytesQ_any (q : Qt) (u : Value) (w : World) (hu : Row kAm w u q.h) (hv : (0 ≤ q.k ∧ q.k ≤ 9) ∧ 0 ≤ q.a ∧ q.a ≤ 9) (hz : q.p.size ≤ 1048576 ∧ q.n.size ≤ 1048576 ∧ q.h.length ≤ 4096) (hf : ∀ x ∈ q.h, x.n.size ≤ 1048576 ∧ 0 ≤ x.v ∧ x.v ≤ 9223372036854775807) (hl : (qtE q).flatten.length ≤ 1048576) :
    Calls Tryz.prog 29 #[q.val u] w fun e w' => e = .returned (.string (txt (qtE q).flatten)) ∧ Below w.heap.size w w' := by
  obtain ⟨ua, uc, rfl, hlc, hcm⟩ := hu.len
  unfold maxLen at hcm
  obtain ⟨X, hX⟩ : ∃ X, X = w.alloc (.cells #[.string q.p, .string q.n, .int .i64 q.k, .int .i64 q.a, .slice ua q.h.length uc] 26) := ⟨_, rfl⟩
  have AX : Hid (Below w.heap.size w X) := Lib.hid (by rw [hX]; exact (Below.refl _ w).alloc (Nat.le_refl _) _)
  have CX : Hid (∀ i y, (#[.string q.p, .string q.n, .int .i64 q.k, .int .i64 q.a, .slice ua q.h.length uc] : Array Value)[i]? = some y → X.cell? ⟨w.heap.size, i, none⟩ = some y) := Lib.hid fun i y h => by
    rw [hX, World.cell?_alloc_new]; exact h
  have LA := Lib.hid (lays_all (qtE q) ⟨[], 1048576, 0⟩ rfl (by simp))
  have HL := Lib.hid (And.intro hz (And.intro hl hf))
  have UV := Lib.hid (hu.below AX.out)
  have hX' := hX.symm
  have wk : IntKind.u8.wrap q.k = c8 (by8 q.k) := by
    unfold by8
    rw [c8_of _ (by omega), IntKind.wrap_u8]; omega
  have wa : IntKind.u8.wrap q.a = c8 (by8 q.a) := by
    unfold by8
    rw [c8_of _ (by omega), IntKind.wrap_u8]; omega
  clear hX hl hz hv hu hf
  unfold Qt.val
  go_enter Tryz.func29, Tryz.ntmps29
  go_wp2_with fail
  clear hX'
  refine (xnewWriter_any 1048576 X).mono ?_
  rintro e w3 ⟨rfl, hw, _, hb⟩
  obtain ⟨B, hB⟩ : ∃ B, B = X.heap.size := ⟨_, rfl⟩
  rw [← hB] at hw ⊢
  have W3 : Aside (XW X B B ⟨[], 1048576, 0⟩ w3) := ⟨⟨_, hw⟩, by rw [hB]; exact Nat.le_refl _, hb⟩
  clear hw hb hB
  go_wp2_with fail
  refine (W3.out.calls (fun v hv => xByte_eq (n := 81) (c := 81) rfl B B v _ w3 hv)).mono ?_
  rintro e w4 ⟨rfl, hw⟩
  have W4 : Aside (XW X B B _ w4) := hw
  clear hw W3 
  go_wp2_with fail
  refine (W4.out.calls (fun v hv => xByte_eq (n := 1) (c := 1) rfl B B v _ w4 hv)).mono ?_
  rintro e w5 ⟨rfl, hw⟩
  have W5 : Aside (XW X B B _ w5) := hw
  clear hw W4 
  have d0 := (W5.out.be.cell (block_lt_of_cell (CX.out 0 _ rfl))).trans (CX.out 0 _ rfl)
  go_wp2_with fail
  refine (W5.out.calls (fun v hv => xText_any B B v _ q.p w5 (by have := HL.out.1.1; omega) hv)).mono ?_
  rintro e w6 ⟨rfl, hw⟩
  have W6 : Aside (XW X B B _ w6) := hw
  clear hw W5 d0
  have d1 := (W6.out.be.cell (block_lt_of_cell (CX.out 1 _ rfl))).trans (CX.out 1 _ rfl)
  go_wp2_with fail
  refine (W6.out.calls (fun v hv => xText_any B B v _ q.n w6 (by have := HL.out.1.2.1; omega) hv)).mono ?_
  rintro e w7 ⟨rfl, hw⟩
  have W7 : Aside (XW X B B _ w7) := hw
  clear hw W6 d1
  have d2 := (W7.out.be.cell (block_lt_of_cell (CX.out 2 _ rfl))).trans (CX.out 2 _ rfl)
  go_wp2_with fail
  refine (W7.out.calls (fun v hv => xByte_eq (n := c8 (by8 q.k)) (c := by8 q.k) rfl B B v _ w7 hv)).mono ?_
  rintro e w8 ⟨rfl, hw⟩
  have W8 : Aside (XW X B B _ w8) := hw
  clear hw W7 d2
  have d3 := (W8.out.be.cell (block_lt_of_cell (CX.out 3 _ rfl))).trans (CX.out 3 _ rfl)
  go_wp2_with fail
  refine (W8.out.calls (fun v hv => xByte_eq (n := c8 (by8 q.a)) (c := by8 q.a) rfl B B v _ w8 hv)).mono ?_
  rintro e w9 ⟨rfl, hw⟩
  have W9 : Aside (XW X B B _ w9) := hw
  clear hw W8 d3
  have d4 := (W9.out.be.cell (block_lt_of_cell (CX.out 4 _ rfl))).trans (CX.out 4 _ rfl)
  have LM := Lib.hid (rlayAmounts_any X B B _ q.h _ w9 W9.out UV.out HL.out.2.2 HL.out.1.2.2)
  go_wp2_with fail
  refine LM.out.mono ?_
  rintro e w10 ⟨rfl, hw⟩
  have ST : Hid (XW X B B ⟨(qtE q).flatten, 1048576, 0⟩ w10) := Lib.hid (by
    have z := LA.out.1 (by simp only [List.length_nil, Nat.zero_add]; exact HL.out.2.1)
    rw [List.nil_append] at z
    rw [← z]; unfold qtE qtL; exact hw)
  clear hw W9 LM d4
  obtain ⟨v, hv⟩ := ST.out.wr
  have c0 : w10.cell? ⟨B, 0, none⟩ = some v := by rw [cell_of_row w10 B 0 _ _ _ hv.2.1]; rfl
  have cv : (convert 87 9 v).run Tryz.prog w10 = .ok (.string (txt (qtE q).flatten)) w10 := convT hv.2.2.1.bytes
  have BF : Hid (Below w.heap.size w w10) := Lib.hid (AX.out.trans (ST.out.be.mono AX.out.size))
  clear hv
  go_wp2_with fail
  go_ret
  exact ⟨rfl, BF.out⟩
end Go.Proofs.YtanpneahembhbaaGreatDoor
end S6

section S7
namespace Go.Proofs.YtanpneahembhbaaGreatDoor
open Go.RowKit
theorem XW.lt {w0 w : World} {B g : Nat} {s : WS} (h : XW w0 B g s w) : g < w.heap.size := by
  obtain ⟨v, hv⟩ := h.wr
  exact hv.lt
theorem XW.below {w0 w w' : World} {B g : Nat} {s : WS} (h : XW w0 B g s w) (hb : Below w.heap.size w w') : XW w0 B g s w' := by
  obtain ⟨v, hv⟩ := h.wr
  exact ⟨⟨v, hv.below hb⟩, h.lo, h.be.trans (hb.mono h.be.size)⟩
/-- A writer, and a box that was made beside it. -/
structure XR (X : World) (B : Nat) (Y : World) (b6 : Nat) (c : Array Value) (s : WS) (W : World) : Prop where
  w : XW X B B s W
  be : True
  o : W.heap[b6]? = some (.cells c 60 (0, 0))
  lt : B < b6
theorem XR.cell {X Y W : World} {B b6 : Nat} {c : Array Value} {s : WS} (h : XR X B Y b6 c s W) (j : Nat) (y : Value) (hy : c[j]? = some y) : W.cell? ⟨b6, j, none⟩ = some y := by
  rw [cell_of_row W b6 j _ _ _ h.o]; exact hy
theorem XR.calls {X Y W : World} {B b6 : Nat} {c : Array Value} {s s' : WS} {f : Nat} {args : Array Value} {r : Ending} (h : XR X B Y b6 c s W) (hc : ∀ v, XAt B W B v s → Calls Tryz.prog f args W fun e w' => e = r ∧ LaidX B B v s' W w') :
    Calls Tryz.prog f args W fun e w' => e = r ∧ XR X B Y b6 c s' w' := by
  obtain ⟨v, hv⟩ := h.w.wr
  refine (hc v hv).mono ?_
  rintro e w' ⟨rfl, hl⟩
  have hb := hl.below hv
  obtain ⟨v', h1, hk, hx⟩ := hl
  refine ⟨rfl, ⟨⟨v', h1⟩, h.w.lo, h.w.be.trans (hb.mono h.w.lo)⟩, trivial, ?_, h.lt⟩
  have nb : ¬ WF B v b6 := by
    intro hw
    rcases hw with e | e
    · have := h.lt; omega
    · obtain ⟨_, ⟨hv', _⟩ | ⟨g', cap, cur, hv', _, hg', _⟩⟩ := hv.2.2.1
      · rw [hv'] at e; simp [Value.ownBlock] at e
      · rw [hv'] at e
        simp only [Value.ownBlock, Option.some.injEq] at e
        rw [← e, h.o] at hg'
        simp only [Option.some.injEq, Obj.cells.injEq] at hg'
        exact absurd hg'.2.1 (by decide)
  rw [hk.block b6 (lt_of_some h.o) nb]; exact h.o
set_option maxHeartbeats 8000000 in
set_option maxRecDepth 100000 in
theorem rbytesL_any (q : Lr) (u : Value) (w : World) (hu : Row kRl w u q.rs) (hz : q.p.size ≤ 1048576 ∧ q.n.size ≤ 1048576 ∧ q.rs.length ≤ 4096) (hf : ∀ x ∈ q.rs, x.r.size ≤ 1048576 ∧ fits x.a ∧ fits x.b ∧ fits x.c ∧ fits x.d ∧ fits x.e) (hl : (lrE q).flatten.length ≤ 1048576) :
    Calls Tryz.prog 34 #[q.val u] w fun e w' => e = .returned (.string (txt (lrE q).flatten)) ∧ Below w.heap.size w w' := by
  obtain ⟨ua, uc, rfl, hlc, hcm⟩ := hu.len
  unfold maxLen at hcm
  obtain ⟨X, hX⟩ : ∃ X, X = w.alloc (.cells #[.string q.p, .string q.n, .slice ua q.rs.length uc] 29) := ⟨_, rfl⟩
  have AX : Hid (Below w.heap.size w X) := Lib.hid (by rw [hX]; exact (Below.refl _ w).alloc (Nat.le_refl _) _)
  have CX : Hid (∀ i y, (#[.string q.p, .string q.n, .slice ua q.rs.length uc] : Array Value)[i]? = some y → X.cell? ⟨w.heap.size, i, none⟩ = some y) := Lib.hid fun i y h => by
    rw [hX, World.cell?_alloc_new]; exact h
  have LA := Lib.hid (lays_all (lrE q) ⟨[], 1048576, 0⟩ rfl (by simp))
  have HL := Lib.hid (And.intro hz (And.intro hl hf))
  have UV := Lib.hid (hu.below AX.out)
  have hX' := hX.symm
  clear hX hl hz hu hf
  unfold Lr.val
  go_enter Tryz.func34, Tryz.ntmps34
  go_wp2_with fail
  clear hX'
  refine (xnewWriter_any 1048576 X).mono ?_
  rintro e w3 ⟨rfl, hw, _, hb⟩
  obtain ⟨B, hB⟩ : ∃ B, B = X.heap.size := ⟨_, rfl⟩
  rw [← hB] at hw ⊢
  have W3 : Aside (XW X B B ⟨[], 1048576, 0⟩ w3) := ⟨⟨_, hw⟩, by rw [hB]; exact Nat.le_refl _, hb⟩
  clear hw hb hB
  go_wp2_with fail
  refine (W3.out.calls (fun v hv => xByte_eq (n := 76) (c := 76) rfl B B v _ w3 hv)).mono ?_
  rintro e w4 ⟨rfl, hw⟩
  have W4 : Aside (XW X B B _ w4) := hw
  clear hw W3 
  go_wp2_with fail
  refine (W4.out.calls (fun v hv => xByte_eq (n := 1) (c := 1) rfl B B v _ w4 hv)).mono ?_
  rintro e w5 ⟨rfl, hw⟩
  have W5 : Aside (XW X B B _ w5) := hw
  clear hw W4 
  have d0 := (W5.out.be.cell (block_lt_of_cell (CX.out 0 _ rfl))).trans (CX.out 0 _ rfl)
  go_wp2_with fail
  refine (W5.out.calls (fun v hv => xText_any B B v _ q.p w5 (by have := HL.out.1.1; omega) hv)).mono ?_
  rintro e w6 ⟨rfl, hw⟩
  have W6 : Aside (XW X B B _ w6) := hw
  clear hw W5 d0
  have d1 := (W6.out.be.cell (block_lt_of_cell (CX.out 1 _ rfl))).trans (CX.out 1 _ rfl)
  go_wp2_with fail
  refine (W6.out.calls (fun v hv => xText_any B B v _ q.n w6 (by have := HL.out.1.2.1; omega) hv)).mono ?_
  rintro e w7 ⟨rfl, hw⟩
  have W7 : Aside (XW X B B _ w7) := hw
  clear hw W6 d1
  have d2 := (W7.out.be.cell (block_lt_of_cell (CX.out 2 _ rfl))).trans (CX.out 2 _ rfl)
  go_wp2_with fail
  refine (W7.out.calls (fun v hv => xCount_any B B v _ (q.rs.length : Int) w7 (by omega) (by omega) hv)).mono ?_
  rintro e w8 ⟨rfl, hw⟩
  have W8 : Aside (XW X B B _ w8) := hw
  clear hw W7 d2
  have WL : Aside (XW X B B ((((((⟨[], 1048576, 0⟩ : WS).lay [76]).lay [1]).lay (tx q.p)).lay (tx q.n)).lay (form q.rs.length)) w8) := by
    have z : ∀ s : WS, s.count (q.rs.length : Int) = s.lay (form q.rs.length) := fun s => by unfold WS.count; rw [if_pos (by have := HL.out.1.2.2; omega)]; rfl
    have := W8.out
    rw [z] at this
    exact this
  clear W8
  go_wp2_with fail
  go_loopg [4] q.rs.length (fun gg si wr => ∃ (k : Nat), k ≤ q.rs.length ∧ gg = q.rs.length - k ∧ si = .int .i64 k ∧ XW X B B (((q.rs.take k).flatMap rlE).foldl WS.lay ((((((⟨[], 1048576, 0⟩ : WS).lay [76]).lay [1]).lay (tx q.p)).lay (tx q.n)).lay (form q.rs.length))) wr)
  case atStart => exact ⟨0, Nat.zero_le _, rfl, rfl, WL.out⟩
  case round =>
    clear WL
    obtain ⟨k, hk, hg, rfl, hw⟩ := hrel
    have R : Aside (gk = q.rs.length - k ∧ XW X B B (((q.rs.take k).flatMap rlE).foldl WS.lay ((((((⟨[], 1048576, 0⟩ : WS).lay [76]).lay [1]).lay (tx q.p)).lay (tx q.n)).lay (form q.rs.length))) wr) := ⟨hg, hw⟩
    clear hg hw
    have d2 := (R.out.2.be.cell (block_lt_of_cell (CX.out 2 _ rfl))).trans (CX.out 2 _ rfl)
    by_cases hlt : k < q.rs.length
    · have hlt' : (k : Int) < (q.rs.length : Int) := by omega
      have XF := Lib.hid (HL.out.2.2 _ (getD_in (d := kRl.z) hlt))
      have ST := Lib.hid (take_onez q.rs k kRl.z hlt)
      obtain ⟨b, off, rfl, pc⟩ := (UV.out.below R.out.2.be).at k hlt
      obtain ⟨x, hx⟩ : ∃ x, x = q.rs.getD k kRl.z := ⟨_, rfl⟩
      rw [← hx] at pc XF ST
      clear hx
      obtain ⟨xr, x1, x2, x3, x4, x5⟩ := x
      have p0 : wr.cell? ⟨b, off + k * 6, none⟩ = some (.string xr) := pc 0 _ rfl
      have p1 : wr.cell? ⟨b, off + k * 6 + 1, none⟩ = some (.int .i64 x1) := pc 1 _ rfl
      have p2 : wr.cell? ⟨b, off + k * 6 + 2, none⟩ = some (.int .i64 x2) := pc 2 _ rfl
      have p3 : wr.cell? ⟨b, off + k * 6 + 3, none⟩ = some (.int .i64 x3) := pc 3 _ rfl
      have p4 : wr.cell? ⟨b, off + k * 6 + 4, none⟩ = some (.int .i64 x4) := pc 4 _ rfl
      have p5 : wr.cell? ⟨b, off + k * 6 + 5, none⟩ = some (.int .i64 x5) := pc 5 _ rfl
      obtain ⟨Y, hY⟩ : ∃ Y, Y = wr.alloc (.cells #[.string xr, .int .i64 x1, .int .i64 x2, .int .i64 x3, .int .i64 x4, .int .i64 x5] 60) := ⟨_, rfl⟩
      obtain ⟨b6, hb6⟩ : ∃ b6, b6 = wr.heap.size := ⟨_, rfl⟩
      have AY : Below wr.heap.size wr Y := by rw [hY]; exact (Below.refl _ wr).alloc (Nat.le_refl _) _
      have YR : Hid (Y.heap[b6]? = some (.cells #[.string xr, .int .i64 x1, .int .i64 x2, .int .i64 x3, .int .i64 x4, .int .i64 x5] 60 (0, 0))) := Lib.hid (by rw [hY, hb6, heap_alloc_new])
      have V0 : Aside (XR X B Y b6 #[.string xr, .int .i64 x1, .int .i64 x2, .int .i64 x3, .int .i64 x4, .int .i64 x5] (((q.rs.take k).flatMap rlE).foldl WS.lay ((((((⟨[], 1048576, 0⟩ : WS).lay [76]).lay [1]).lay (tx q.p)).lay (tx q.n)).lay (form q.rs.length))) Y) := ⟨R.out.2.below AY, trivial, YR.out, by have := R.out.2.lt; omega⟩
      have y0 := V0.out.cell 0 _ rfl
      have hY2 := hY.symm
      have hb62 := hb6.symm
      clear hY hb6 AY pc
      go_wp2_with fail
      clear hY2 hb62
      refine (V0.out.calls (fun v hv => xText_any B B v _ xr Y (by have z : xr.size ≤ 1048576 := XF.out.1; omega) hv)).mono ?_
      rintro e v1 ⟨rfl, hw⟩
      have V1 : Aside (XR X B Y b6 #[.string xr, .int .i64 x1, .int .i64 x2, .int .i64 x3, .int .i64 x4, .int .i64 x5] _ v1) := hw
      clear hw V0 y0 d2 p0 p1 p2 p3 p4 p5
      have y1 := V1.out.cell 1 _ rfl
      go_wp2_with fail
      refine (V1.out.calls (fun v hv => xInt_any B B v _ x1 v1 XF.out.2.1.1 XF.out.2.1.2 hv)).mono ?_
      rintro e v2 ⟨rfl, hw⟩
      have V2 : Aside (XR X B Y b6 #[.string xr, .int .i64 x1, .int .i64 x2, .int .i64 x3, .int .i64 x4, .int .i64 x5] _ v2) := hw
      clear hw V1 y1
      have y2 := V2.out.cell 2 _ rfl
      go_wp2_with fail
      refine (V2.out.calls (fun v hv => xInt_any B B v _ x2 v2 XF.out.2.2.1.1 XF.out.2.2.1.2 hv)).mono ?_
      rintro e v3 ⟨rfl, hw⟩
      have V3 : Aside (XR X B Y b6 #[.string xr, .int .i64 x1, .int .i64 x2, .int .i64 x3, .int .i64 x4, .int .i64 x5] _ v3) := hw
      clear hw V2 y2
      have y3 := V3.out.cell 3 _ rfl
      go_wp2_with fail
      refine (V3.out.calls (fun v hv => xInt_any B B v _ x3 v3 XF.out.2.2.2.1.1 XF.out.2.2.2.1.2 hv)).mono ?_
      rintro e v4 ⟨rfl, hw⟩
      have V4 : Aside (XR X B Y b6 #[.string xr, .int .i64 x1, .int .i64 x2, .int .i64 x3, .int .i64 x4, .int .i64 x5] _ v4) := hw
      clear hw V3 y3
      have y4 := V4.out.cell 4 _ rfl
      go_wp2_with fail
      refine (V4.out.calls (fun v hv => xInt_any B B v _ x4 v4 XF.out.2.2.2.2.1.1 XF.out.2.2.2.2.1.2 hv)).mono ?_
      rintro e v5 ⟨rfl, hw⟩
      have V5 : Aside (XR X B Y b6 #[.string xr, .int .i64 x1, .int .i64 x2, .int .i64 x3, .int .i64 x4, .int .i64 x5] _ v5) := hw
      clear hw V4 y4
      have y5 := V5.out.cell 5 _ rfl
      go_wp2_with fail
      refine (V5.out.calls (fun v hv => xInt_any B B v _ x5 v5 XF.out.2.2.2.2.2.1 XF.out.2.2.2.2.2.2 hv)).mono ?_
      rintro e v6 ⟨rfl, hw⟩
      have V6 : Aside (XR X B Y b6 #[.string xr, .int .i64 x1, .int .i64 x2, .int .i64 x3, .int .i64 x4, .int .i64 x5] _ v6) := hw
      clear hw V5 y5
      have W9 : Aside (XW X B B (((q.rs.take (k + 1)).flatMap rlE).foldl WS.lay ((((((⟨[], 1048576, 0⟩ : WS).lay [76]).lay [1]).lay (tx q.p)).lay (tx q.n)).lay (form q.rs.length))) v6) := by
        show XW _ _ _ _ _
        rw [ST.out, List.flatMap_append, List.foldl_append]
        exact V6.out.w
      clear V6
      go_wp2_with fail
      go_roundg (q.rs.length - (k + 1))
      case measure => have := R.out.1; omega
      case rel => exact ⟨k + 1, by omega, rfl, by go_num, W9.out⟩
    · have ST : Hid (XW X B B ⟨(lrE q).flatten, 1048576, 0⟩ wr) := Lib.hid (by
        have z := LA.out.1 (by simp only [List.length_nil, Nat.zero_add]; exact HL.out.2.1)
        rw [List.nil_append] at z
        have q9 := R.out.2
        rw [List.take_of_length_le (by omega)] at q9
        rw [← z]; unfold lrE lrL; exact q9)
      obtain ⟨v, hv⟩ := ST.out.wr
      have c0 : wr.cell? ⟨B, 0, none⟩ = some v := by rw [cell_of_row wr B 0 _ _ _ hv.2.1]; rfl
      have cv : (convert 87 9 v).run Tryz.prog wr = .ok (.string (txt (lrE q).flatten)) wr := convT hv.2.2.1.bytes
      have BF : Hid (Below w.heap.size w wr) := Lib.hid (AX.out.trans (ST.out.be.mono AX.out.size))
      clear hv
      go_wp2_with fail
      go_ret
      exact ⟨rfl, BF.out⟩
end Go.Proofs.YtanpneahembhbaaGreatDoor
end S7

section S8
namespace Go.Proofs.YtanpneahembhbaaGreatDoor
open Go.RowKit
set_option maxHeartbeats 4000000 in
set_option maxRecDepth 100000 in
theorem refValidQ_any (q : Qt) (u : Value) (w : World) (hu : Row kAm w u q.h) (hf : q.Fit) (hp : q.p.size ≤ 1048576) : Calls Tryz.prog 28 #[q.val u] w fun e w' => e = .returned (.int .i64 (jdR (qtS q))) ∧ Below w.heap.size w w' := by
  obtain ⟨ua, uc, rfl, hlc, hcm⟩ := hu.len
  clear hlc hcm
  obtain ⟨X, hX⟩ : ∃ X, X = w.alloc (.cells #[.string q.p, .string q.n, .int .i64 q.k, .int .i64 q.a, .slice ua q.h.length uc] 26) := ⟨_, rfl⟩
  have AX : Hid (Below w.heap.size w X) := Lib.hid (by rw [hX]; exact (Below.refl _ w).alloc (Nat.le_refl _) _)
  have OX : Hid (X.heap[w.heap.size]? = some (.cells #[.string q.p, .string q.n, .int .i64 q.k, .int .i64 q.a, .slice ua q.h.length uc] 26 (0, 0))) := Lib.hid (by rw [hX, heap_alloc_new])
  have cc : ∀ j y, (#[.string q.p, .string q.n, .int .i64 q.k, .int .i64 q.a, .slice ua q.h.length uc] : Array Value)[j]? = some y → X.cell? ⟨w.heap.size, j, none⟩ = some y := fun j y hy => by rw [cell_of_row X _ j _ _ _ OX.out]; exact hy
  have d0 := cc 0 _ rfl
  have d1 := cc 1 _ rfl
  have d2 := cc 2 _ rfl
  have d3 := cc 3 _ rfl
  have d4 := cc 4 _ rfl
  have FA := Lib.hid (refFormedQ_any q _ X (hu.below AX.out) hf hp)
  unfold Qt.val at FA ⊢
  obtain ⟨S, hS⟩ : ∃ S, S = qtS q := ⟨_, rfl⟩
  rw [← hS] at FA ⊢
  have hX' := hX.symm
  clear hX cc hp hS hu hf
  go_enter Tryz.func28, Tryz.ntmps28
  go_wp2_with fail
  refine FA.out.mono ?_
  rintro e w1 ⟨rfl, hb⟩
  have BF := Lib.hid (AX.out.trans (hb.mono AX.out.size))
  clear hb FA hX' d0 d1 d2 d3 d4
  go_wp2_with fail
  refine (refJudged_any S w1).mono ?_
  rintro e w2 ⟨rfl, rfl⟩
  go_wp2_with fail
  go_ret
  exact ⟨rfl, BF.out⟩
theorem qtR_yes {q : Qt} (hS : qtS q = true) (hf : q.Fit) : qtR q = (txt (qtE q).flatten, 0) := by
  unfold qtR outR
  rw [if_pos hS, if_pos (qt_len hS hf)]
theorem qtR_not {q : Qt} (hS : qtS q = false) : qtR q = (⟨#[]⟩, 130) := by
  unfold qtR
  rw [hS]; rfl
set_option maxHeartbeats 4000000 in
set_option maxRecDepth 100000 in
theorem refEncQ_any (q : Qt) (u : Value) (w : World) (hu : Row kAm w u q.h) (hf : q.Fit) (hp : q.p.size ≤ 1048576) : Calls Tryz.prog 9 #[q.val u] w fun e w' => e = .returned (.tuple #[.string (qtR q).1, .int .i64 (qtR q).2]) ∧ Below w.heap.size w w' := by
  obtain ⟨ua, uc, rfl, hlc, hcm⟩ := hu.len
  clear hlc hcm
  obtain ⟨X, hX⟩ : ∃ X, X = w.alloc (.cells #[.string q.p, .string q.n, .int .i64 q.k, .int .i64 q.a, .slice ua q.h.length uc] 26) := ⟨_, rfl⟩
  have AX : Hid (Below w.heap.size w X) := Lib.hid (by rw [hX]; exact (Below.refl _ w).alloc (Nat.le_refl _) _)
  have OX : Hid (X.heap[w.heap.size]? = some (.cells #[.string q.p, .string q.n, .int .i64 q.k, .int .i64 q.a, .slice ua q.h.length uc] 26 (0, 0))) := Lib.hid (by rw [hX, heap_alloc_new])
  have cc : ∀ j y, (#[.string q.p, .string q.n, .int .i64 q.k, .int .i64 q.a, .slice ua q.h.length uc] : Array Value)[j]? = some y → X.cell? ⟨w.heap.size, j, none⟩ = some y := fun j y hy => by rw [cell_of_row X _ j _ _ _ OX.out]; exact hy
  have d0 := cc 0 _ rfl
  have d1 := cc 1 _ rfl
  have d2 := cc 2 _ rfl
  have d3 := cc 3 _ rfl
  have d4 := cc 4 _ rfl
  have VA := Lib.hid (refValidQ_any q _ X (hu.below AX.out) hf hp)
  have hX' := hX.symm
  cases hS : qtS q with
  | false =>
    rw [qtR_not hS]
    rw [hS] at VA
    unfold Qt.val at VA ⊢
    unfold jdR at VA
    simp only [Bool.false_eq_true, if_false] at VA
    clear hX cc hp hS hu hf
    go_enter Tryz.func9, Tryz.ntmps9
    go_wp2_with fail
    refine VA.out.mono ?_
    rintro e w1 ⟨rfl, hb⟩
    have BF := Lib.hid (AX.out.trans (hb.mono AX.out.size))
    clear hb VA hX' d0 d1 d2 d3 d4
    go_wp2_with fail
    go_ret2
    exact ⟨rfl, BF.out⟩
  | true =>
    have FS := qt_facts hS
    have LL := qt_len hS hf
    have BY : Hid (∀ W, Below w.heap.size w W → Calls Tryz.prog 29 #[.agg #[.string q.p, .string q.n, .int .i64 q.k, .int .i64 q.a, .slice ua q.h.length uc]] W fun e w' => e = .returned (.string (txt (qtE q).flatten)) ∧ Below W.heap.size W w') := Lib.hid fun W hW => rbytesQ_any q _ W (hu.below hW) FS.2.1 ⟨by omega, by omega, by omega⟩ (fun x hx => ⟨by have := hard_size (FS.2.2.2 x hx).1; omega, (FS.2.2.2 x hx).2, (hf.h x hx).2.2⟩) (by omega)
    rw [qtR_yes hS hf]
    rw [hS] at VA
    unfold Qt.val at VA ⊢
    unfold jdR at VA
    simp only [if_true] at VA
    clear hX cc hp hS FS LL hu hf
    go_enter Tryz.func9, Tryz.ntmps9
    go_wp2_with fail
    refine VA.out.mono ?_
    rintro e w1 ⟨rfl, hb⟩
    have BF := Lib.hid (AX.out.trans (hb.mono AX.out.size))
    have O1 := Lib.hid ((hb.block _ (lt_of_some OX.out)).trans OX.out)
    clear hb VA hX' d0 d1 d2 d3 d4
    have cc : ∀ j y, (#[.string q.p, .string q.n, .int .i64 q.k, .int .i64 q.a, .slice ua q.h.length uc] : Array Value)[j]? = some y → w1.cell? ⟨w.heap.size, j, none⟩ = some y := fun j y hy => by rw [cell_of_row w1 _ j _ _ _ O1.out]; exact hy
    have d0 := cc 0 _ rfl
    have d1 := cc 1 _ rfl
    have d2 := cc 2 _ rfl
    have d3 := cc 3 _ rfl
    have d4 := cc 4 _ rfl
    clear cc
    go_wp2_with fail
    refine (BY.out w1 BF.out).mono ?_
    rintro e w2 ⟨rfl, hb⟩
    have B2 := Lib.hid (BF.out.trans (hb.mono BF.out.size))
    clear hb d0 d1 d2 d3 d4
    go_wp2_with fail
    go_ret2
    exact ⟨rfl, B2.out⟩
set_option maxHeartbeats 4000000 in
set_option maxRecDepth 100000 in
theorem refValidL_any (q : Lr) (u : Value) (w : World) (hu : Row kRl w u q.rs) (hf : q.Fit) (hp : q.p.size ≤ 1048576) : Calls Tryz.prog 33 #[q.val u] w fun e w' => e = .returned (.int .i64 (jdR (lrS q))) ∧ Below w.heap.size w w' := by
  obtain ⟨ua, uc, rfl, hlc, hcm⟩ := hu.len
  clear hlc hcm
  obtain ⟨X, hX⟩ : ∃ X, X = w.alloc (.cells #[.string q.p, .string q.n, .slice ua q.rs.length uc] 29) := ⟨_, rfl⟩
  have AX : Hid (Below w.heap.size w X) := Lib.hid (by rw [hX]; exact (Below.refl _ w).alloc (Nat.le_refl _) _)
  have OX : Hid (X.heap[w.heap.size]? = some (.cells #[.string q.p, .string q.n, .slice ua q.rs.length uc] 29 (0, 0))) := Lib.hid (by rw [hX, heap_alloc_new])
  have cc : ∀ j y, (#[.string q.p, .string q.n, .slice ua q.rs.length uc] : Array Value)[j]? = some y → X.cell? ⟨w.heap.size, j, none⟩ = some y := fun j y hy => by rw [cell_of_row X _ j _ _ _ OX.out]; exact hy
  have d0 := cc 0 _ rfl
  have d1 := cc 1 _ rfl
  have d2 := cc 2 _ rfl
  have FA := Lib.hid (refFormedL_any q _ X (hu.below AX.out) hf hp)
  unfold Lr.val at FA ⊢
  obtain ⟨S, hS⟩ : ∃ S, S = lrS q := ⟨_, rfl⟩
  rw [← hS] at FA ⊢
  have hX' := hX.symm
  clear hX cc hp hS hu hf
  go_enter Tryz.func33, Tryz.ntmps33
  go_wp2_with fail
  refine FA.out.mono ?_
  rintro e w1 ⟨rfl, hb⟩
  have BF := Lib.hid (AX.out.trans (hb.mono AX.out.size))
  clear hb FA hX' d0 d1 d2
  go_wp2_with fail
  refine (refJudged_any S w1).mono ?_
  rintro e w2 ⟨rfl, rfl⟩
  go_wp2_with fail
  go_ret
  exact ⟨rfl, BF.out⟩
theorem lrR_yes {q : Lr} (hS : lrS q = true) (hf : q.Fit) : lrR q = (txt (lrE q).flatten, 0) := by
  unfold lrR outR
  rw [if_pos hS, if_pos (lr_len hS hf)]
theorem lrR_not {q : Lr} (hS : lrS q = false) : lrR q = (⟨#[]⟩, 130) := by
  unfold lrR
  rw [hS]; rfl
set_option maxHeartbeats 4000000 in
set_option maxRecDepth 100000 in
theorem refEncL_any (q : Lr) (u : Value) (w : World) (hu : Row kRl w u q.rs) (hf : q.Fit) (hp : q.p.size ≤ 1048576) : Calls Tryz.prog 11 #[q.val u] w fun e w' => e = .returned (.tuple #[.string (lrR q).1, .int .i64 (lrR q).2]) ∧ Below w.heap.size w w' := by
  obtain ⟨ua, uc, rfl, hlc, hcm⟩ := hu.len
  clear hlc hcm
  obtain ⟨X, hX⟩ : ∃ X, X = w.alloc (.cells #[.string q.p, .string q.n, .slice ua q.rs.length uc] 29) := ⟨_, rfl⟩
  have AX : Hid (Below w.heap.size w X) := Lib.hid (by rw [hX]; exact (Below.refl _ w).alloc (Nat.le_refl _) _)
  have OX : Hid (X.heap[w.heap.size]? = some (.cells #[.string q.p, .string q.n, .slice ua q.rs.length uc] 29 (0, 0))) := Lib.hid (by rw [hX, heap_alloc_new])
  have cc : ∀ j y, (#[.string q.p, .string q.n, .slice ua q.rs.length uc] : Array Value)[j]? = some y → X.cell? ⟨w.heap.size, j, none⟩ = some y := fun j y hy => by rw [cell_of_row X _ j _ _ _ OX.out]; exact hy
  have d0 := cc 0 _ rfl
  have d1 := cc 1 _ rfl
  have d2 := cc 2 _ rfl
  have VA := Lib.hid (refValidL_any q _ X (hu.below AX.out) hf hp)
  have hX' := hX.symm
  cases hS : lrS q with
  | false =>
    rw [lrR_not hS]
    rw [hS] at VA
    unfold Lr.val at VA ⊢
    unfold jdR at VA
    simp only [Bool.false_eq_true, if_false] at VA
    clear hX cc hp hS hu hf
    go_enter Tryz.func11, Tryz.ntmps11
    go_wp2_with fail
    refine VA.out.mono ?_
    rintro e w1 ⟨rfl, hb⟩
    have BF := Lib.hid (AX.out.trans (hb.mono AX.out.size))
    clear hb VA hX' d0 d1 d2
    go_wp2_with fail
    go_ret2
    exact ⟨rfl, BF.out⟩
  | true =>
    have FS := lr_facts hS
    have LL := lr_len hS hf
    have BY : Hid (∀ W, Below w.heap.size w W → Calls Tryz.prog 34 #[.agg #[.string q.p, .string q.n, .slice ua q.rs.length uc]] W fun e w' => e = .returned (.string (txt (lrE q).flatten)) ∧ Below W.heap.size W w') := Lib.hid fun W hW => rbytesL_any q _ W (hu.below hW) ⟨by omega, by omega, by omega⟩ (fun x hx => ⟨by have := FS.2.2 x hx; omega, (hf.r x hx).n⟩) (by omega)
    rw [lrR_yes hS hf]
    rw [hS] at VA
    unfold Lr.val at VA ⊢
    unfold jdR at VA
    simp only [if_true] at VA
    clear hX cc hp hS FS LL hu hf
    go_enter Tryz.func11, Tryz.ntmps11
    go_wp2_with fail
    refine VA.out.mono ?_
    rintro e w1 ⟨rfl, hb⟩
    have BF := Lib.hid (AX.out.trans (hb.mono AX.out.size))
    have O1 := Lib.hid ((hb.block _ (lt_of_some OX.out)).trans OX.out)
    clear hb VA hX' d0 d1 d2
    have cc : ∀ j y, (#[.string q.p, .string q.n, .slice ua q.rs.length uc] : Array Value)[j]? = some y → w1.cell? ⟨w.heap.size, j, none⟩ = some y := fun j y hy => by rw [cell_of_row w1 _ j _ _ _ O1.out]; exact hy
    have d0 := cc 0 _ rfl
    have d1 := cc 1 _ rfl
    have d2 := cc 2 _ rfl
    clear cc
    go_wp2_with fail
    refine (BY.out w1 BF.out).mono ?_
    rintro e w2 ⟨rfl, hb⟩
    have B2 := Lib.hid (BF.out.trans (hb.mono BF.out.size))
    clear hb d0 d1 d2
    go_wp2_with fail
    go_ret2
    exact ⟨rfl, B2.out⟩
set_option maxHeartbeats 4000000 in
set_option maxRecDepth 100000 in
theorem refValidB_any (q : Bd) (w : World) (hp : q.p.size ≤ 1048576) : Calls Tryz.prog 38 #[q.val] w fun e w' => e = .returned (.int .i64 (jdR (bdS q))) ∧ Below w.heap.size w w' := by
  obtain ⟨X, hX⟩ : ∃ X, X = w.alloc (.cells #[.string q.p, .string q.n, .string q.s, .int .i64 q.v] 31) := ⟨_, rfl⟩
  have AX : Hid (Below w.heap.size w X) := Lib.hid (by rw [hX]; exact (Below.refl _ w).alloc (Nat.le_refl _) _)
  have OX : Hid (X.heap[w.heap.size]? = some (.cells #[.string q.p, .string q.n, .string q.s, .int .i64 q.v] 31 (0, 0))) := Lib.hid (by rw [hX, heap_alloc_new])
  have cc : ∀ j y, (#[.string q.p, .string q.n, .string q.s, .int .i64 q.v] : Array Value)[j]? = some y → X.cell? ⟨w.heap.size, j, none⟩ = some y := fun j y hy => by rw [cell_of_row X _ j _ _ _ OX.out]; exact hy
  have d0 := cc 0 _ rfl
  have d1 := cc 1 _ rfl
  have d2 := cc 2 _ rfl
  have d3 := cc 3 _ rfl
  have FA := Lib.hid (refFormedB_any q X hp)
  unfold Bd.val at FA ⊢
  obtain ⟨S, hS⟩ : ∃ S, S = bdS q := ⟨_, rfl⟩
  rw [← hS] at FA ⊢
  have hX' := hX.symm
  clear hX cc hp hS
  go_enter Tryz.func38, Tryz.ntmps38
  go_wp2_with fail
  refine FA.out.mono ?_
  rintro e w1 ⟨rfl, hb⟩
  have BF := Lib.hid (AX.out.trans (hb.mono AX.out.size))
  clear hb FA hX' d0 d1 d2 d3
  go_wp2_with fail
  refine (refJudged_any S w1).mono ?_
  rintro e w2 ⟨rfl, rfl⟩
  go_wp2_with fail
  go_ret
  exact ⟨rfl, BF.out⟩
theorem bdR_yes {q : Bd} (hS : bdS q = true) : bdR q = (txt (bdE q).flatten, 0) := by
  unfold bdR outR
  rw [if_pos hS, if_pos (bd_len hS)]
theorem bdR_not {q : Bd} (hS : bdS q = false) : bdR q = (⟨#[]⟩, 130) := by
  unfold bdR
  rw [hS]; rfl
set_option maxHeartbeats 4000000 in
set_option maxRecDepth 100000 in
theorem refEncB_any (q : Bd) (w : World) (hp : q.p.size ≤ 1048576) : Calls Tryz.prog 13 #[q.val] w fun e w' => e = .returned (.tuple #[.string (bdR q).1, .int .i64 (bdR q).2]) ∧ Below w.heap.size w w' := by
  obtain ⟨X, hX⟩ : ∃ X, X = w.alloc (.cells #[.string q.p, .string q.n, .string q.s, .int .i64 q.v] 31) := ⟨_, rfl⟩
  have AX : Hid (Below w.heap.size w X) := Lib.hid (by rw [hX]; exact (Below.refl _ w).alloc (Nat.le_refl _) _)
  have OX : Hid (X.heap[w.heap.size]? = some (.cells #[.string q.p, .string q.n, .string q.s, .int .i64 q.v] 31 (0, 0))) := Lib.hid (by rw [hX, heap_alloc_new])
  have cc : ∀ j y, (#[.string q.p, .string q.n, .string q.s, .int .i64 q.v] : Array Value)[j]? = some y → X.cell? ⟨w.heap.size, j, none⟩ = some y := fun j y hy => by rw [cell_of_row X _ j _ _ _ OX.out]; exact hy
  have d0 := cc 0 _ rfl
  have d1 := cc 1 _ rfl
  have d2 := cc 2 _ rfl
  have d3 := cc 3 _ rfl
  have VA := Lib.hid (refValidB_any q X hp)
  have hX' := hX.symm
  cases hS : bdS q with
  | false =>
    rw [bdR_not hS]
    rw [hS] at VA
    unfold Bd.val at VA ⊢
    unfold jdR at VA
    simp only [Bool.false_eq_true, if_false] at VA
    clear hX cc hp hS
    go_enter Tryz.func13, Tryz.ntmps13
    go_wp2_with fail
    refine VA.out.mono ?_
    rintro e w1 ⟨rfl, hb⟩
    have BF := Lib.hid (AX.out.trans (hb.mono AX.out.size))
    clear hb VA hX' d0 d1 d2 d3
    go_wp2_with fail
    go_ret2
    exact ⟨rfl, BF.out⟩
  | true =>
    have FS := bd_facts hS
    have LL := bd_len hS
    have BY : Hid (∀ W, Below w.heap.size w W → Calls Tryz.prog 39 #[.agg #[.string q.p, .string q.n, .string q.s, .int .i64 q.v]] W fun e w' => e = .returned (.string (txt (bdE q).flatten)) ∧ Below W.heap.size W w') := Lib.hid fun W hW => rbytesB_any q W FS.2 ⟨by omega, by omega, by omega⟩ (by omega)
    rw [bdR_yes hS]
    rw [hS] at VA
    unfold Bd.val at VA ⊢
    unfold jdR at VA
    simp only [if_true] at VA
    clear hX cc hp hS FS LL
    go_enter Tryz.func13, Tryz.ntmps13
    go_wp2_with fail
    refine VA.out.mono ?_
    rintro e w1 ⟨rfl, hb⟩
    have BF := Lib.hid (AX.out.trans (hb.mono AX.out.size))
    have O1 := Lib.hid ((hb.block _ (lt_of_some OX.out)).trans OX.out)
    clear hb VA hX' d0 d1 d2 d3
    have cc : ∀ j y, (#[.string q.p, .string q.n, .string q.s, .int .i64 q.v] : Array Value)[j]? = some y → w1.cell? ⟨w.heap.size, j, none⟩ = some y := fun j y hy => by rw [cell_of_row w1 _ j _ _ _ O1.out]; exact hy
    have d0 := cc 0 _ rfl
    have d1 := cc 1 _ rfl
    have d2 := cc 2 _ rfl
    have d3 := cc 3 _ rfl
    clear cc
    go_wp2_with fail
    refine (BY.out w1 BF.out).mono ?_
    rintro e w2 ⟨rfl, hb⟩
    have B2 := Lib.hid (BF.out.trans (hb.mono BF.out.size))
    clear hb d0 d1 d2 d3
    go_wp2_with fail
    go_ret2
    exact ⟨rfl, B2.out⟩
end Go.Proofs.YtanpneahembhbaaGreatDoor
end S8
