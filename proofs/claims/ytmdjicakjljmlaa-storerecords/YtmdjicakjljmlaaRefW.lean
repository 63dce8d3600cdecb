/-
  THE DOCUMENTS WRITER: NewWriter, lay, Form, Signed.
-/
import Derived.Test.YtmdjicakjljmlaaHand
namespace Go.Proofs.Ytmdjicakjljmlaa
open Go.RowKit

/-- The writer at block g, its bytes in the slice v. -/
def XAt (B : Nat) (w : World) (g : Nat) (v : Value) (s : WS) : Prop :=
  B ≤ g ∧ w.heap[g]? = some (.cells #[v, .int .i64 s.lim, .int .i64 s.e] 61 (0, 0)) ∧ Own B w v s.l ∧ s.ok

theorem XAt.lt {B : Nat} {w : World} {g : Nat} {v : Value} {s : WS} (h : XAt B w g v s) : g < w.heap.size := by
  rcases Nat.lt_or_ge g w.heap.size with q | q
  · exact q
  · have := h.2.1; rw [Array.getElem?_eq_none q] at this; simp at this
theorem XAt.foot {B : Nat} {w : World} {g : Nat} {v : Value} {s : WS} (h : XAt B w g v s) (k : Nat) (hk : WF g v k) : B ≤ k ∧ k < w.heap.size := by
  rcases hk with rfl | hk
  · exact ⟨h.1, h.lt⟩
  · exact h.2.2.1.lt k hk.symm
theorem XAt.apart {B : Nat} {w : World} {g : Nat} {v : Value} {s : WS} (h : XAt B w g v s) : v.ownBlock ≠ some g := by
  obtain ⟨_, hg, ⟨_, ⟨hv, _⟩ | ⟨g', cap, cur, hv, hB, hg', _⟩⟩, _⟩ := h
  · subst hv; simp [Value.ownBlock]
  · subst hv
    intro e
    simp only [Value.ownBlock, Option.some.injEq] at e
    rw [e, hg] at hg'
    simp at hg'
theorem XAt.kept {B : Nat} {F : Nat → Prop} {w w' : World} {g : Nat} {v : Value} {s : WS} (h : XAt B w g v s) (hk : Kept F w w') (hF : ∀ k, WF g v k → ¬ F k) : XAt B w' g v s :=
  ⟨h.1, by rw [hk.block g h.lt (hF g (Or.inl rfl))]; exact h.2.1, h.2.2.1.kept hk (fun k hk' => hF k (Or.inr hk'.symm)), h.2.2.2⟩
theorem XAt.below {B : Nat} {w w' : World} {g : Nat} {v : Value} {s : WS} (h : XAt B w g v s) (hk : Below w.heap.size w w') : XAt B w' g v s :=
  h.kept (Below.kept hk (fun _ => False)) (fun _ _ => id)
theorem XAt.cells {B : Nat} {w : World} {g : Nat} {v : Value} {s : WS} (h : XAt B w g v s) :
    w.cell? ⟨g, 0, none⟩ = some v ∧ w.cell? ⟨g, 1, none⟩ = some (.int .i64 s.lim) ∧ w.cell? ⟨g, 2, none⟩ = some (.int .i64 s.e) ∧ w.frozen? ⟨g, 0, none⟩ = false ∧ w.frozen? ⟨g, 2, none⟩ = false := by
  refine ⟨?_, ?_, ?_, frozen_of_row w g 0 _ _ h.2.1, frozen_of_row w g 2 _ _ h.2.1⟩
  · rw [cell_of_row w g 0 _ _ _ h.2.1]; rfl
  · rw [cell_of_row w g 1 _ _ _ h.2.1]; rfl
  · rw [cell_of_row w g 2 _ _ _ h.2.1]; rfl
theorem XAt.setErr {B : Nat} {w : World} {g : Nat} {v : Value} {s : WS} (h : XAt B w g v s) (e : Nat) (he : e < 256) : XAt B (w.setCell ⟨g, 2, none⟩ (.int .i64 e)) g v { s with e := e } := by
  refine ⟨h.1, ?_, ?_, h.2.2.2.1, h.2.2.2.2.1, he⟩
  · rw [heap_setCell_same w g 2 _ _ _ h.2.1]; rfl
  · exact h.2.2.1.kept (kept_set (F := fun k => k = g) w ⟨g, 2, none⟩ _ rfl) (fun k hk e => h.apart (by rw [hk, e]))
theorem XAt.setLaidX {B : Nat} {w w1 : World} {g : Nat} {v v1 : Value} {s : WS} {l1 : List UInt8} (h : XAt B w g v s) (hg : Kept (fun k => some k = v.ownBlock) w w1) (ho : Own B w1 v1 l1) (hl : l1.length ≤ s.lim) :
    XAt B (w1.setCell ⟨g, 0, none⟩ v1) g v1 { s with l := l1 } := by
  have e : w1.heap[g]? = _ := (hg.block g h.lt (fun q => h.apart q.symm)).trans h.2.1
  refine ⟨h.1, ?_, ?_, hl, h.2.2.2.2⟩
  · rw [heap_setCell_same w1 g 0 _ _ _ e]; rfl
  · refine ho.kept (kept_set (F := fun k => k = g) w1 ⟨g, 0, none⟩ _ rfl) (fun k hk q => ?_)
    subst q
    obtain ⟨_, ⟨hv, _⟩ | ⟨g', cap, cur, hv, hB, hg', _⟩⟩ := ho
    · subst hv; simp [Value.ownBlock] at hk
    · subst hv
      simp only [Value.ownBlock, Option.some.injEq] at hk
      rw [hk, e] at hg'
      simp at hg'

set_option maxHeartbeats 1000000 in
theorem xnewWriter_any (n : Int) (w : World) :
    Calls Try.prog 14 #[.int .i64 n] w fun e w' => e = .returned (.pointer (some ⟨w.heap.size, 0, none⟩)) ∧ XAt w.heap.size w' w.heap.size (.slice none 0 0) ⟨[], min n.toNat 1048576, 0⟩ ∧ w.heap.size < w'.heap.size ∧ Below w.heap.size w w' := by
  go_enter Try.func14, Try.ntmps14
  go_wp2_with fail
  all_goals
    go_ret
    refine ⟨rfl, ⟨Nat.le_refl _, ?_, World.ownsRow_nil _ _ _ _, by simp, by simp; omega, by simp⟩, by simp, (Below.refl _ _).alloc (Nat.le_refl _) _⟩
    rw [heap_alloc_new]
    congr 3
    simp only [List.cons.injEq, Value.int.injEq, and_true, true_and]
    omega

/-- What a call that lays leaves. -/
def LaidX (B g : Nat) (v : Value) (s' : WS) (w w' : World) : Prop :=
  ∃ v', XAt B w' g v' s' ∧ Kept (WF g v) w w' ∧ At v v' w
theorem LaidX.same {B g : Nat} {v : Value} {s : WS} {w w' : World} (h : XAt B w g v s) (hk : Kept (fun _ => False) w w') : LaidX B g v s w w' :=
  ⟨v, h.kept hk (fun _ _ => id), hk.mono (fun _ _ h => h.elim), fun _ hk => Or.inl hk⟩
theorem LaidX.below {B g : Nat} {v : Value} {s s' : WS} {w w' : World} (h : LaidX B g v s' w w') (H : XAt B w g v s) : Below B w w' := by
  obtain ⟨_, _, k, _⟩ := h
  exact k.below (Nat.le_trans H.1 (Nat.le_of_lt H.lt)) (fun x hx => (H.foot x hx).1)
/-- A call that made new memory alone, then one that lays. -/
theorem LaidX.after {B g : Nat} {v : Value} {s s' : WS} {a b c : World} (hb : Below a.heap.size a b) (h : LaidX B g v s' b c) (_H : XAt B a g v s) : LaidX B g v s' a c := by
  obtain ⟨v', h1, k, h2⟩ := h
  refine ⟨v', h1, (Below.kept hb _).trans k (fun _ _ q => q), fun x hx => ?_⟩
  rcases h2 x hx with q | q
  · exact Or.inl q
  · exact Or.inr (Nat.le_trans hb.size q)


/-- An append of a byte, as one step of a region that draws its order. -/
theorem step_app_byte {ops : Array Oper} {o : Oper} {a : Act} {K : Act → World → Prop} {Q : Exit → Act → World → Prop} {E : Prop} (hgd : o.guard = none) (s x : Operand)
    (ho : o.op = .call { callee := .builtin .append, args := #[s, x], argTypes := #[44, 44] })
    {B : Nat} {wx : World} {v : Value} {l : List UInt8} (hs : a.eval s = v) (hown : Own B wx v l) (hB : B ≤ wx.heap.size) (c : UInt8) (ad : Addr)
    (hx : a.eval x = .slice (some ad) 1 1) (hnews : ∀ j u, [Value.int .u8 (c8 c)][j]? = some u → wx.cell? (ad.add j) = some u) (hl : l.length < 140737488355328)
    (h : ∀ v' w', Own B w' v' (l ++ [c]) → wx.grownBy w' v.ownBlock → (v'.ownBlock = v.ownBlock ∨ v'.ownBlock = some wx.heap.size) → K (a.put o.dst v') w') :
    if Region.wanted o (yielded ops a.tmps) = true then Oper.wp Try.prog o a wx K Q else E := by
  have hw : Region.wanted o (yielded ops a.tmps) = true := by simp [Region.wanted, hgd]
  rw [if_pos hw]
  obtain ⟨i0, hi, hz0, hz1, hz2⟩ := info_parts info_byte
  obtain ⟨v', w', hr, h1, h2, _, h3⟩ := run_append_own_at (P := Try.prog) wx B 44 o.type 5 i0 (.int .u8 0) 1 1 Try.underlying44 hi hz0 hz1 hz2 rfl (by decide) v l.length (cells8 l) hown ad 1 1 [.int .u8 (c8 c)] rfl hnews (fun u hu => by simp only [List.mem_cons, List.not_mem_nil, or_false] at hu; rw [hu]; rfl) (by unfold maxLen; omega) (by omega) hB
  unfold Oper.wp execOp
  simp only [ho, resolve, invoke, builtin, Sem.run_bind, Sem.run_pure, Result.andThen_ok, List.map_toArray, List.map_cons, List.map_nil, hs, hx, hr]
  exact h v' w' (own_more h1) h2 h3
theorem own_slice {B : Nat} {w : World} {v : Value} {l : List UInt8} (h : Own B w v l) : ∃ a n cap, v = .slice a n cap := by
  obtain ⟨a, cap, e, _⟩ := h.bytes.len; exact ⟨a, _, cap, e⟩
/-- A field of a struct behind the append. -/
theorem field_kept {wr wx w' : World} {g : Nat} {v : Value} {cs : Array Value} {t : TypeId} (hg : wr.heap[g]? = some (.cells cs t (0, 0))) (hx : ∀ k, k < wr.heap.size → wx.heap[k]? = wr.heap[k]?) (hs : wr.heap.size ≤ wx.heap.size) (hgr : wx.grownBy w' v.ownBlock) (hne : v.ownBlock ≠ some g) :
    w'.heap[g]? = some (.cells cs t (0, 0)) := by
  have hlt : g < wr.heap.size := by
    rcases Nat.lt_or_ge g wr.heap.size with h | h
    · exact h
    · rw [Array.getElem?_eq_none h] at hg; simp at hg
  rw [hgr.block g (by omega) (fun e => hne e.symm), hx g hlt]; exact hg

set_option maxHeartbeats 1000000 in
theorem xForm_any (v : Nat) (hv : v < 18446744073709551616) (w : World) :
    Calls Try.prog 45 #[.int .u64 v] w fun e w' => ∃ v', e = .returned v' ∧ Own w.heap.size w' v' (form v) ∧ Below w.heap.size w w' := by
  have T10 : Aside ((form v).length ≤ 10) := form_ten v hv
  go_enter Try.func45, Try.ntmps45
  go_wp2_with fail
  go_loopg [0, 3] v (fun g sv so wr => ∃ (x : Nat) (vo : Value) (l : List UInt8), g = x ∧ x < 18446744073709551616 ∧ sv = .int .u64 (x : Int) ∧ vo = so ∧ l ++ form x = form v ∧ Own w.heap.size wr vo l ∧ Below w.heap.size w wr)
  case atStart => exact ⟨v, _, [], rfl, hv, rfl, rfl, rfl, World.ownsRow_nil _ _ _ _, Below.refl _ _⟩
  case round =>
    obtain ⟨x, vo, l, hg, hx, rfl, rfl, hf, ho, hb⟩ := hrel
    have R : Aside (l ++ form x = form v ∧ Below w.heap.size w wr ∧ gk = x) := ⟨hf, hb, hg⟩
    have O : Hid (Own w.heap.size wr vo l) := ho
    have S : Hid (w.heap.size ≤ wr.heap.size) := hb.size
    have L : Hid (l.length < 140737488355328) := by
      have := congrArg List.length hf
      rw [List.length_append] at this
      have := T10.out
      show _ < _; omega
    clear hf hb ho hg
    by_cases hlt : x < 128
    · have hlt' : ¬ (128 : Int) ≤ (x : Int) := by omega
      obtain ⟨c, hc⟩ : ∃ c, c = UInt8.ofNat x := ⟨_, rfl⟩
      have C : Aside (c8 c = x ∧ c = UInt8.ofNat x) := ⟨by rw [hc, c8_of x (by omega)], hc⟩
      clear hc
      go_wp2_with (at_builtin; refine app_byte rfl _ _ rfl rfl O.out S.out _ c ?hn rfl L.out ?_)
      case hn => rw [C.out.1]
      intro v' w' h1 h2 _
      have A : Aside (Own w.heap.size w' v' (l ++ [c]) ∧ Below w.heap.size w w') := ⟨h1, R.out.2.1.trans (grown_below h2 O.out S.out)⟩
      clear h1 h2 O S L
      go_wp2_with fail
      go_ret
      refine ⟨_, rfl, ?_, A.out.2⟩
      rw [← R.out.1, form_low hlt, ← C.out.2]; exact A.out.1
    · have hlt' : (128 : Int) ≤ (x : Int) := by omega
      obtain ⟨c, hc⟩ : ∃ c, c = UInt8.ofNat (x % 128 + 128) := ⟨_, rfl⟩
      have C : Aside (c8 c = (x : Int) % 128 + 128 ∧ c = UInt8.ofNat (x % 128 + 128)) := ⟨by rw [hc, c8_of _ (by omega)]; omega, hc⟩
      clear hc
      go_wp2_with (at_builtin; refine app_byte rfl _ _ rfl rfl O.out S.out _ c ?hn rfl L.out ?_)
      case hn => rw [C.out.1]
      intro v' w' h1 h2 _
      have A : Aside (Own w.heap.size w' v' (l ++ [c]) ∧ Below w.heap.size w w') := ⟨h1, R.out.2.1.trans (grown_below h2 O.out S.out)⟩
      clear h1 h2 O S L
      go_wp2_with fail
      go_roundg (x / 128)
      case measure => have := R.out.2.2; omega
      case rel =>
        refine ⟨x / 128, v', _, rfl, by omega, by go_num, rfl, ?_, A.out.1, A.out.2⟩
        rw [← R.out.1, form_high hlt, List.append_assoc, C.out.2]; rfl
end Go.Proofs.Ytmdjicakjljmlaa
