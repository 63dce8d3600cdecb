/-
  A range over an iterator that keeps its place in a box of its own: strings.SplitSeq of every text.
-/
import Derived.Test.YtehgnbgbmicheaaGreatDoorQSplit
import Derived.Test.YtehgnbgbmicheaaGreatDoorLaG
import Derived.RangeFuncWrites
import Derived.LoopIn
import Derived.RangeFuncBox
import Derived.Lib.IndexLaws
namespace Go.Proofs.YtehgnbgbmicheaaGreatDoor
open Go.RowKit Go.Shelf
/-- An iterator that turns the one block b. -/
def SeqBox {α : Type} (F : Fence) (n : Nat) (P : Program) (g : Nat) (lb : Array Value) (encs : α → Array Value) (G : α → Prop) (n0 b : Nat) (S Sp : List α → Prop) (N : Nat) (w : World) : Prop :=
  ∀ (l : Nat) (J Jx : List α → World → Prop) (W : World), Below w.heap.size w W → (∀ pre A B, J pre A → A.grownBy B (some b) → J pre B) → (∀ pre A B, Jx pre A → A.grownBy B (some b) → Jx pre B) →
    (∀ pre x A, G x → J pre A → pre.length < N → YieldAt F (n - 1) P l (encs x) A fun e B => (e = .returned (.bool true) ∧ J (pre ++ [x]) B ∧ Below n0 A B) ∨ (e = .returned (.bool false) ∧ Jx (pre ++ [x]) B)) →
    J [] W → CallsIn F n P g (#[.func (.yield l) #[] #[]] ++ lb) W fun e B => (∃ v, e = .returned v) ∧ ((∃ xs, S xs ∧ J xs B) ∨ (∃ pre, Sp pre ∧ Jx pre B))
theorem block_other {A B : World} {b k : Nat} {o : Obj} (hg : A.grownBy B (some b)) (hk : A.heap[k]? = some o) (hne : k ≠ b) : B.heap[k]? = some o :=
  (hg.block k (Array.getElem?_eq_some_iff.1 hk).1 (fun e => hne (Option.some.inj e))).trans hk
theorem range_box {F : Fence} {n : Nat} {P : Program} {α : Type} {g : Operand} {ps : Array Tmp} {assign body : Code} {Q : Exit → Act → World → Prop} {a : Act} {w : World}
    (hro : F.round = none) (h1 : 1 ≤ n) {gf : Nat} {lb : Array Value} (hg : a.eval g = .func (.func gf) #[] lb) (hFg : F.fn gf) (eg : ∀ args w, (callFunc gf args).run P w = .ok (.enter gf args) w)
    {encs : α → Array Value} {G : α → Prop} {b : Nat} (hbl : b < w.heap.size) {S Sp : List α → Prop} {N : Nat} (hseq : SeqBox F (n - 1) P gf lb encs G w.heap.size b S Sp N w) (hps : ∀ x, (encs x).size = ps.size)
    (I : List α → World → Prop) (Ix : Code → List α → World → Prop) (hI : OwnFrom w.heap.size I) (hIx : ∀ c, OwnFrom w.heap.size (Ix c))
    (hIb : ∀ pre A B, I pre A → A.grownBy B (some b) → I pre B) (hIxb : ∀ c pre A B, Ix c pre A → A.grownBy B (some b) → Ix c pre B) (h0 : I [] w) (a₁ : α → Act)
    (hassign : ∀ (l : Nat) (x : α) (W : World) (K : Act → World → Prop), K (a₁ x) W →
      assign.wpIn (F.inRound l) (n - 1 - 1) P (Exit.then K (fun _ _ _ => False)) { tmps := (ps.zip (encs x)).foldl (fun t (p, v) => t.setIfInBounds p v) a.tmps, defers := [] } W)
    (hbody : ∀ (l : Nat) (pre : List α) (x : α) (W : World), G x → I pre W → pre.length < N → body.wpIn (F.inRound l) (n - 1 - 1) P (ownPostG w.heap.size (Below w.heap.size) I Ix (pre ++ [x]) W) (a₁ x) W)
    (hdone : ∀ (D : Nat) (xs : List α) (W : World), w.heap.size ≤ D → S xs → I xs W → W.heap[D]? = some (.deferred (some [])) → Q .normal { a with defers := { target := .collected D, args := #[] } :: a.defers } W)
    (hstop : ∀ (D : Nat) (c : Code) (pre : List α) (W : World), w.heap.size ≤ D → Sp pre → Ix c pre W → W.heap[D]? = some (.deferred (some [])) → c.wpIn F n P Q { a with defers := { target := .collected D, args := #[] } :: a.defers } W) :
    (Code.rangeFunc g ps assign body).wpIn F n P Q a w := by
  refine wpIn_rangeFunc fun fn hfn => ?_
  rw [hro]
  obtain ⟨rec, hrec⟩ : ∃ rec : LoopState → Option Code → Loop, rec = fun st pe => { state := st, pending := pe, fn, tmps := a.tmps, params := ps, assign, body, defers := w.heap.size } := ⟨_, rfl⟩
  obtain ⟨L, hL⟩ : ∃ L, L = w.heap.size + 1 := ⟨_, rfl⟩
  obtain ⟨W1, hW1⟩ : ∃ W1, (w.alloc (.deferred (some []))).alloc (.loop (rec .ready none)) = W1 := ⟨_, rfl⟩
  have rl : W1.heap[L]? = some (.loop (rec .ready none)) := by
    rw [← hW1, hL]; have := World.alloc_heap_new (w.alloc (.deferred (some []))) (.loop (rec .ready none)); rwa [World.size_alloc] at this
  have rk : W1.heap[w.heap.size]? = some (.deferred (some [])) := by
    rw [← hW1]; exact (Below.heap_alloc _ _ _ (by simp)).trans (World.alloc_heap_new w _)
  have ri : I [] W1 := by rw [← hW1]; exact hI.alloc _ (hI.alloc _ h0)
  have rb : Below w.heap.size w W1 := by rw [← hW1]; exact ((Below.refl _ w).alloc (Nat.le_refl _) _).alloc (by simp) _
  refine ⟨L, [{ target := .collected w.heap.size, args := #[] }], W1, { target := .fn (.func gf) lb, args := #[.func (.yield L) #[] #[]] }, W1, gf, #[.func (.yield L) #[] #[]] ++ lb, W1, ?_, ?_, ?_, ?_, fun _ => h1, ?_⟩
  · rw [← hW1, hrec, hL]; exact run_enterLoop_outer _ _ _ _ _
  · simp only [resolve, hg]
    simp [go_sem]
  · intro f' hf'; simp [Target.leads] at hf'; subst hf'; exact hFg
  · simp [invoke, go_sem, eg]
  · refine (hseq L (fun pre W => I pre W ∧ W.heap[L]? = some (.loop (rec .ready none)) ∧ W.heap[w.heap.size]? = some (.deferred (some [])))
      (fun pre W => ∃ c, Ix c pre W ∧ W.heap[L]? = some (.loop (rec .done (some c))) ∧ W.heap[w.heap.size]? = some (.deferred (some []))) W1 rb
      (fun pre A B hs hgr => ⟨hIb _ _ _ hs.1 hgr, block_other hgr hs.2.1 (by omega), block_other hgr hs.2.2 (by omega)⟩)
      (fun pre A B ⟨c, hc, hl, hk⟩ hgr => ⟨c, hIxb _ _ _ _ hc hgr, block_other hgr hl (by omega), block_other hgr hk (by omega)⟩) ?_ ⟨ri, rl, rk⟩).mono ?_
    · rintro pre x W hG ⟨hi, hl, hk⟩ hlen
      have hlt : L < W.heap.size := (Array.getElem?_eq_some_iff.1 hl).1
      have hy := run_yield (P := P) (args := encs x) hl (by rw [hrec]; exact hps x)
      rw [hrec] at hy
      refine ⟨fn, _, assign, body, hy, roundIn_of_wpIn hfn (hassign _ x W _ ⟨_, run_beginRound hl (by rw [hrec]), ?_⟩)⟩
      obtain ⟨bz, hbz⟩ : ∃ bz, bz = Obj.loop { rec .ready none with state := .busy } := ⟨_, rfl⟩
      obtain ⟨V, hV⟩ : ∃ V, V = W.putObj L bz := ⟨_, rfl⟩
      have hl2 : V.heap[L]? = some bz := by rw [hV]; exact World.putObj_heap_same hlt
      have hk2 : V.heap[w.heap.size]? = some (.deferred (some [])) := by rw [hV]; exact (World.putObj_heap_other (by omega)).trans hk
      have up : ∀ (A : World) (o o' : Obj), A.heap[L]? = some o → o.isCells = false → o.isWalk = false → Below w.heap.size A (A.putObj L o') := fun A o o' q c d => belowK_b (w := w) (Nat.le_refl _) A L o o' (by omega) q c d
      have hb2 : Below w.heap.size W V := by rw [hV]; exact up _ _ _ hl rfl rfl
      have hi2 : I pre V := by rw [hV]; exact hI.putObj _ hi (by omega) hl rfl
      have eV : W.putObj L (Obj.loop { rec .ready none with state := .busy }) = V := by rw [hV, hbz]
      rw [eV]
      refine wpIn_mono (hbody _ pre x _ hG hi2 hlen) ?_
      have fin : ∀ (jump : Option Code) (W3 : World), KeepsFrom w.heap.size V W3 →
          (Instr.endRound L jump).run P W3 = .ok (.bool jump.isNone) (W3.putObj L (.loop (rec (if jump.isNone then .ready else .done) jump))) ∧ W3.heap[L]? = some bz ∧
          (W3.putObj L (.loop (rec (if jump.isNone then .ready else .done) jump))).heap[L]? = some (.loop (rec (if jump.isNone then .ready else .done) jump)) ∧
          (W3.putObj L (.loop (rec (if jump.isNone then .ready else .done) jump))).heap[w.heap.size]? = some (.deferred (some [])) := fun jump W3 hk3 => by
        have hl3 := hk3.same _ _ (by omega) hl2 (by rw [hbz]; rfl)
        refine ⟨?_, hl3, World.putObj_heap_same (Array.getElem?_eq_some_iff.1 hl3).1, (World.putObj_heap_other (by omega)).trans (hk3.same _ _ (Nat.le_refl _) hk2 rfl)⟩
        rw [hbz] at hl3
        have := run_endRound (P := P) jump hl3
        rw [hrec] at this ⊢
        exact this
      have bc : bz.isCells = false ∧ bz.isWalk = false := by rw [hbz]; exact ⟨rfl, rfl⟩
      rintro e a3 W3 hp
      cases e with
      | normal =>
        obtain ⟨k3, b3, i3⟩ := hp
        obtain ⟨hr, l3, l4, k4⟩ := fin none W3 k3
        exact ⟨_, _, hr, .inl ⟨rfl, ⟨hI.putObj _ i3 (by omega) l3 bc.1, l4, k4⟩, (hb2.trans b3).trans (up _ _ _ l3 bc.1 bc.2)⟩⟩
      | ret =>
        obtain ⟨hr, l3, l4, k4⟩ := fin (some .ret) W3 hp.1
        exact ⟨_, _, hr, .inr ⟨rfl, .ret, (hIx _).putObj _ hp.2 (by omega) l3 bc.1, l4, k4⟩⟩
      | exit id =>
        obtain ⟨hr, l3, l4, k4⟩ := fin (some (.exit id)) W3 hp.1
        exact ⟨_, _, hr, .inr ⟨rfl, .exit id, (hIx _).putObj _ hp.2 (by omega) l3 bc.1, l4, k4⟩⟩
      | goto t =>
        obtain ⟨hr, l3, l4, k4⟩ := fin (some (.goto t)) W3 hp.1
        exact ⟨_, _, hr, .inr ⟨rfl, .goto t, (hIx _).putObj _ hp.2 (by omega) l3 bc.1, l4, k4⟩⟩
      | panic ch => exact hp.elim
      | outgrown => exact hp.elim
    · rintro e W2 ⟨⟨v, rfl⟩, (⟨xs, hS, hi, hl, hk⟩ | ⟨pre, hSp, c, hi, hl, hk⟩)⟩
      · exact ⟨none, _, by have := run_endLoop (P := P) hl (by rw [hrec]; simp); rw [hrec] at this; exact this, hdone _ xs _ (Nat.le_refl _) hS (hI.putObj _ hi (by omega) hl rfl) ((World.putObj_heap_other (by omega)).trans hk)⟩
      · exact ⟨some c, _, by have := run_endLoop (P := P) hl (by rw [hrec]; simp); rw [hrec] at this; exact this, hstop _ c pre _ (Nat.le_refl _) hSp ((hIx c).putObj _ hi (by omega) hl rfl) ((World.putObj_heap_other (by omega)).trans hk)⟩
/-- A text's pieces between the dots. -/
def dots (t : ByteArray) : List ByteArray := (L.pieces 46 t.data.toList).map L.bytesOf
theorem dots_none {t : ByteArray} (h : Lib.indexByte t.data.toList 46 = -1) : dots t = [t] := by
  unfold dots
  rw [L.pieces_free 46 _ (fun hm => by obtain ⟨k, hk, e⟩ := List.getElem_of_mem hm; exact Lib.indexByte_none h k (by rw [List.getElem?_eq_getElem hk, e])), List.map_cons, L.bytesOf_data]
  rfl
theorem bytes_extract (t : ByteArray) (i j : Nat) : t.extract i j = L.bytesOf ((t.data.toList.drop i).take (j - i)) := by
  apply ByteArray.ext
  apply Array.ext'
  simp [ByteArray.data_extract, L.bytesOf, Array.toList_extract]
theorem dots_some {t : ByteArray} {i : Nat} (h : Lib.indexByte t.data.toList 46 = (i : Int)) : i < t.size ∧ dots t = t.extract 0 i :: dots (t.extract (i + 1) t.size) := by
  obtain ⟨h1, h2⟩ := Lib.indexByte_some h
  have hl : i < t.data.toList.length := by
    rcases Nat.lt_or_ge i t.data.toList.length with q | q
    · exact q
    · rw [List.getElem?_eq_none q] at h1; simp at h1
  have hs : t.data.toList.length = t.size := by simp
  refine ⟨by omega, ?_⟩
  have e : t.data.toList = t.data.toList.take i ++ 46 :: t.data.toList.drop (i + 1) := by
    rw [List.getElem?_eq_getElem hl] at h1
    simp only [Option.some.injEq] at h1
    rw [← h1, List.getElem_cons_drop, List.take_append_drop]
  unfold dots
  conv => lhs; rw [e]
  rw [L.pieces_app 46 _ _ (fun hm => by
    obtain ⟨k, hk, e⟩ := List.getElem_of_mem hm
    rw [List.length_take] at hk
    rw [List.getElem_take] at e
    exact h2 k (by omega) (by rw [List.getElem?_eq_getElem (by omega), e])), List.map_cons, bytes_extract, bytes_extract]
  rw [List.drop_zero, Nat.sub_zero, List.take_of_length_le (l := t.data.toList.drop (i + 1)) (by rw [List.length_drop]; omega)]
  rfl
theorem wrap64_small {x : Int} (h1 : -9223372036854775808 ≤ x) (h2 : x ≤ 9223372036854775807) : wrap64 x = x := by
  unfold wrap64; omega
theorem cell_set_other {W : World} {b k : Nat} (v : Value) (h : k ≠ b) : (W.setCell ⟨b, 0, none⟩ v).cell? ⟨k, 0, none⟩ = W.cell? ⟨k, 0, none⟩ :=
  World.cell?_of_block (Below.heap_setCell _ _ _ _ h)
theorem frozen_set {W : World} {b : Nat} (v : Value) : (W.setCell ⟨b, 0, none⟩ v).frozen? ⟨b, 0, none⟩ = W.frozen? ⟨b, 0, none⟩ := by
  simp
def restOf (W : World) (b : Nat) : Nat := match W.cell? ⟨b, 0, none⟩ with | some (.string s) => s.size | _ => 0
set_option maxHeartbeats 4000000 in
set_option maxRecDepth 100000 in
theorem split_box (n : Nat) (hn : 2 ≤ n) (t : ByteArray) (ht : t.size ≤ 48) (b1 b2 b3 n0 : Nat) (w : World) (hn0 : n0 ≤ w.heap.size) (h1 : b1 < n0) (h2 : b2 < n0) (h3 : b3 < n0) (h12 : b1 ≠ b2) (h32 : b3 ≠ b2)
    (c1 : w.cell? ⟨b1, 0, none⟩ = some (.string ⟨#[46]⟩)) (c2 : w.cell? ⟨b2, 0, none⟩ = some (.string t)) (f2 : w.frozen? ⟨b2, 0, none⟩ = false) (c3 : w.cell? ⟨b3, 0, none⟩ = some (.int .i64 0)) :
    SeqBox Fence.wide n Tryz.prog 132 #[.pointer (some ⟨b1, 0, none⟩), .pointer (some ⟨b2, 0, none⟩), .pointer (some ⟨b3, 0, none⟩)] (fun x : ByteArray => #[Value.string x]) (fun x => x.size ≤ 48) n0 b2 (fun ys => ys = dots t) (fun pre => pre <+: dots t) (dots t).length w := fun l J Jx W hW aJ aJx hY h0 => by
  have d1 := (hW.cell (p := ⟨b1, 0, none⟩) (Nat.lt_of_lt_of_le h1 hn0)).trans c1
  have d2 := (hW.cell (p := ⟨b2, 0, none⟩) (Nat.lt_of_lt_of_le h2 hn0)).trans c2
  have d3 := (hW.cell (p := ⟨b3, 0, none⟩) (Nat.lt_of_lt_of_le h3 hn0)).trans c3
  have g2 := (hW.frozen (p := ⟨b2, 0, none⟩) (Nat.lt_of_lt_of_le h2 hn0)).trans f2
  clear c1 c2 c3 f2
  refine callsIn_of_wp Tryz.func132 rfl trivial ?_ rfl
  simp only [Tryz.ntmps132, List.size_toArray, List.length_cons, List.length_nil, Nat.reduceAdd, Nat.reduceSub, Array.replicate_succ, Array.replicate_zero, List.push_toArray, List.append_toArray, List.nil_append, List.cons_append]
  gi_wp2
  refine wpIn_loop (fun a' wr => Aside (∃ u7 u8 u29 u30 u31 u32 u33 u34 u35 u36 u37 u38 u39 u40 u41 u42 u43 u44 u45 u46 u47 u48 : Value, a' = ⟨#[Value.func (Fn.yield l) #[] #[], Value.pointer (some { block := b1, off := 0 }), Value.pointer (some { block := b2, off := 0 }), Value.pointer (some { block := b3, off := 0 }), undef, undef, undef, u7, u8, Value.string { data := #[46] }, Value.int IntKind.i64 1, Value.bool false, undef, undef, undef, undef, undef, undef, undef, undef, undef, undef, undef, undef, undef, undef, undef, undef, undef, u29, u30, u31, u32, u33, u34, u35, u36, u37, u38, u39, u40, u41, u42, u43, u44, u45, u46, u47, u48, undef, undef, undef], []⟩ ∧ ∃ (pre : List ByteArray) (r : ByteArray), r.size ≤ 48 ∧ pre ++ dots r = dots t ∧ J pre wr ∧ wr.cell? ⟨b2, 0, none⟩ = some (.string r) ∧ wr.frozen? ⟨b2, 0, none⟩ = false ∧ wr.cell? ⟨b1, 0, none⟩ = some (.string ⟨#[46]⟩) ∧ wr.cell? ⟨b3, 0, none⟩ = some (.int .i64 0))) (fun _ wr => restOf wr b2) ?_ ?_
  · exact ⟨_, _, _, _, _, _, _, _, _, _, _, _, _, _, _, _, _, _, _, _, _, _, rfl, [], t, ht, rfl, h0, d2, g2, d1, d3⟩
  · rintro a' wr hh
    obtain ⟨u7, u8, u29, u30, u31, u32, u33, u34, u35, u36, u37, u38, u39, u40, u41, u42, u43, u44, u45, u46, u47, u48, rfl, pre, r, hr48, hp, hJ, e2, k2, e1, e3⟩ := hh.out
    clear hh
    have XC := Lib.hid (Tryz.strings_Index_one r 46)
    gi_wp2_with fail
    refine ⟨trivial, fun _ => by omega, (callsIn_wide.2 (XC.out _)).mono ?_⟩
    rintro e w' ⟨rfl, rfl⟩
    have hlen : pre.length < (dots t).length := by
      rw [← hp, List.length_append]
      have : 0 < (dots r).length := by unfold dots; rw [List.length_map]; exact List.length_pos_iff.2 (L.pieces_ne 46 _)
      omega
    by_cases hi : Lib.indexByte r.data.toList 46 = -1
    · rw [hi]
      have hd := dots_none hi
      obtain ⟨f1, t1, a1, bo1, hy1, hR1⟩ := hY pre r w' hr48 hJ hlen
      gi_wp2
      refine ⟨fun _ => by omega, hR1.mono ?_⟩
      rintro e W1 (⟨rfl, hJ1, _⟩ | ⟨rfl, hx1⟩)
      · gi_wp2
        go_end0
        exact ⟨⟨_, rfl⟩, .inl ⟨dots t, rfl, by rw [← hp, hd]; exact hJ1⟩⟩
      · gi_wp2
        go_end0
        exact ⟨⟨_, rfl⟩, .inr ⟨pre ++ [r], by rw [← hp, hd]; exact List.prefix_refl _, hx1⟩⟩
    · obtain ⟨i, hi'⟩ : ∃ i : Nat, Lib.indexByte r.data.toList 46 = i := ⟨(Lib.indexByte r.data.toList 46).toNat, by have := Lib.indexByte_ge r.data.toList 46; omega⟩
      rw [hi']
      obtain ⟨hlt, hd⟩ := dots_some hi'
      have HP : Aside (pre ++ dots r = dots t ∧ dots r = r.extract 0 i :: dots (r.extract (i + 1) r.size)) := ⟨hp, hd⟩
      clear hi hi' XC hp hd d1 d2 d3 g2 h0 hW
      obtain ⟨f1, t1, a1, bo1, hy1, hR1⟩ := hY pre (r.extract 0 i) w' (by rw [ByteArray.size_extract]; omega) hJ hlen
      clear hY hlen
      have hi1 : ¬ (i : Int) < 0 := by omega
      have hi2 : (i : Int) ≤ (r.size : Int) := by omega
      have ew : wrap64 (i : Int) = (i : Int) := wrap64_small (by omega) (by omega)
      gi_wp2_with fail
      refine ⟨fun _ => by omega, hR1.mono ?_⟩
      rintro e W1 (⟨rfl, hJ1, hB1⟩ | ⟨rfl, hx1⟩)
      · have y2 := (hB1.cell (p := ⟨b2, 0, none⟩) h2).trans e2
        have y1 := (hB1.cell (p := ⟨b1, 0, none⟩) h1).trans e1
        have y3 := (hB1.cell (p := ⟨b3, 0, none⟩) h3).trans e3
        have q2 := (hB1.frozen (p := ⟨b2, 0, none⟩) h2).trans k2
        have E2 : Aside (w'.cell? ⟨b2, 0, none⟩ = some (.string r)) := e2
        clear e1 e2 e3 k2 ew
        have ew : wrap64 ((i : Int) + 1) = (i : Int) + 1 := wrap64_small (by omega) (by omega)
        have hi3 : (i : Int) + 1 ≤ (r.size : Int) := by omega
        gi_wp2_with fail
        have hsz : (r.extract (i + 1) r.size).size = r.size - (i + 1) := by rw [ByteArray.size_extract]; omega
        have z2 : (W1.setCell ⟨b2, 0, none⟩ (.string (r.extract (i + 1) r.size))).cell? ⟨b2, 0, none⟩ = some (.string (r.extract (i + 1) r.size)) := World.cell?_setCell_same' _ _ _ (by rw [y2]; rfl)
        refine ⟨⟨_, _, _, _, _, _, _, _, _, _, _, _, _, _, _, _, _, _, _, _, _, _, rfl, pre ++ [r.extract 0 i], r.extract (i + 1) r.size, by omega, by rw [← HP.out.1, HP.out.2, List.append_assoc]; rfl, aJ _ _ _ hJ1 (grownBy_setCell' _ _ _), z2, ?_, ?_, ?_⟩, ?_⟩
        · rw [frozen_set]; exact q2
        · rw [cell_set_other _ h12]; exact y1
        · rw [cell_set_other _ h32]; exact y3
        · unfold restOf
          rw [z2, E2.out]
          simp only [hsz]
          omega
      · gi_wp2_with fail
        first | go_end0 | refine bodyPost_ret (results_none rfl _ _ _) rfl ?_
        exact ⟨⟨_, rfl⟩, .inr ⟨pre ++ [r.extract 0 i], by rw [← HP.out.1, HP.out.2]; exact ⟨dots (r.extract (i + 1) r.size), by simp⟩, hx1⟩⟩
end Go.Proofs.YtehgnbgbmicheaaGreatDoor
