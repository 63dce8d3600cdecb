/-
  PageChains.
-/
import Derived.Test.YtgiaekbdchfbkaaPgJ
namespace Go.Proofs.Ytgiaekbdchfbkaa
open Go.RowKit Go.Maps
/-- One number more behind a row of the call's own. -/
theorem app_wide1 {ops : Array Oper} {rest : List Oper} {o : Oper} {a : Act} {Q : Exit → Act → World → Prop} (hgd : o.guard = none) (s x : Operand)
    (ho : o.op = .call { callee := .builtin .append, args := #[s, x], argTypes := #[23, 23] })
    {B : Nat} {w0 : World} {v : Value} {l : List Int} (m : List Int) (hs : a.eval s = v) (hown : OwnI B w0 v l) (hB : B ≤ w0.heap.size)
    (hx : a.eval x = .slice (some ⟨w0.heap.size, 0, none⟩) m.length m.length) (hl : l.length + m.length ≤ 17592186044416)
    (h : ∀ v' w', Hid (OwnI B w' v' (l ++ m) ∧ w0.grownBy w' v.ownBlock) → wpList Try.prog ops Q rest (a.put o.dst v') w') :
    wpList Try.prog ops Q (o :: rest) a (w0.alloc (.cells (cellsI m).toArray 3)) := by
  obtain ⟨i0, hi, hz0, hz1, hz2⟩ := info_parts info_int
  refine wpList_append_own_at _ hgd s x 23 ho B 3 i0 (.int .i64 0) 1 8 Try.underlying23 hi hz0 hz1 hz2 rfl (by decide) v l.length (cellsI l) hs (World.ownsRow.alloc hown _) ⟨w0.heap.size, 0, none⟩ m.length m.length (cellsI m) hx (by rw [cellsI_length]; omega) ?_ (cellsI_one m) (by unfold maxLen; omega) (by omega) (by simp; omega) ?_
  · intro j u hj
    rw [add_plain, Nat.zero_add, World.cell?_alloc_new, List.getElem?_toArray]; exact hj
  · intro v' w' h1 h2 _ _
    refine h v' w' (Lib.hid ⟨?_, grown_alloc h2⟩)
    show w'.ownsRow _ _ _ _ _ _
    rw [cellsI_app, List.length_append]; exact h1
theorem Ints.front {w : World} {a : Option Addr} {n cap : Nat} {l m : List Int} (H : Ints w (.slice a n cap) (l ++ m)) : Ints w (.slice a l.length cap) l := by
  obtain ⟨a', cap', e', h1, h2, h0, hc⟩ := H
  simp only [Value.slice.injEq] at e'
  obtain ⟨rfl, rfl, rfl⟩ := e'
  rw [List.length_append] at h1
  refine ⟨a, cap, rfl, by omega, h2, h0, fun k hk => ?_⟩
  obtain ⟨b, off, ea, c0⟩ := hc k (by rw [List.length_append]; omega)
  refine ⟨b, off, ea, ?_⟩
  rw [c0, List.getD_eq_getElem?_getD, List.getD_eq_getElem?_getD, List.getElem?_append_left hk]
/-- The node of a chain's page. -/
def ndC (p : Cp) : Nd := ⟨3, [], [], [], [], p.1, p.2⟩
def nv0 : Nv := ⟨.slice none 0 0, .slice none 0 0, .slice none 0 0, .slice none 0 0⟩
theorem ls0 (w : World) (p : Cp) : Ls w nv0 (ndC p) :=
  ⟨⟨none, 0, rfl, by simp [ndC], by decide, fun _ => rfl, fun k hk => by simp [ndC] at hk⟩, ⟨none, 0, rfl, by simp [ndC], by decide, fun _ => rfl, fun k hk => by simp [ndC] at hk⟩, ⟨none, 0, rfl, by simp [ndC], by decide, fun _ => rfl, fun k hk => by simp [ndC] at hk⟩, ⟨none, 0, rfl, by simp [ndC], by decide, fun _ => rfl, fun k hk => by simp [ndC] at hk⟩⟩
theorem same_page (w : World) (nx : Int) (d : ByteArray) : Calls Try.prog 18 #[.agg #[.int .i64 3, .slice none 0 0, .slice none 0 0, .slice none 0 0, .slice none 0 0, .int .i64 nx, .string d], .agg #[.int .i64 3, .slice none 0 0, .slice none 0 0, .slice none 0 0, .slice none 0 0, .int .i64 nx, .string d]] w fun e w' => e = .returned (.bool true) ∧ Below w.heap.size w w' :=
  sameNode_yes (ndC (nx, d)) nv0 nv0 w (ls0 w _) (ls0 w _)
theorem cellsC_length (ps : List Cp) : (cellsC ps).length = ps.length * 7 := by
  induction ps with
  | nil => rfl
  | cons x r ih => rw [cellsC, List.flatMap_cons, ← cellsC, List.length_append, ih, List.length_cons]; simp [encC]; omega
theorem cellsC_at (ps : List Cp) (k j : Nat) (h : k < ps.length) (hj : j < 7) : (cellsC ps)[k * 7 + j]? = (encC (ps.getD k (0, ⟨#[]⟩)))[j]? := by
  induction ps generalizing k with
  | nil => simp at h
  | cons x r ih =>
    rw [cellsC, List.flatMap_cons, ← cellsC]
    cases k with
    | zero => rw [List.getElem?_append_left (by simp [encC]; omega)]; simp
    | succ k =>
      rw [List.getElem?_append_right (by simp [encC]; omega)]
      have := ih k (by simp at h; omega)
      simp only [encC, List.length_cons, List.length_nil] at this ⊢
      rw [show (k + 1) * 7 + j - (0 + 1 + 1 + 1 + 1 + 1 + 1 + 1) = k * 7 + j by omega]
      simpa [encC] using this
theorem OwnC.at {B : Nat} {w : World} {a : Option Addr} {n cap : Nat} {ps : List Cp} (H : OwnC B w (.slice a n cap) ps) (k : Nat) (hk : k < ps.length) : ∃ b off, a = some ⟨b, off, none⟩ ∧ ∀ j, j < 7 → w.cell? ⟨b, off + k * 7 + j, none⟩ = (encC (ps.getD k (0, ⟨#[]⟩)))[j]? := by
  obtain ⟨_, ⟨hv, hn⟩ | ⟨g, cap', cur, hv, hb, hg, hn, hm, hs, ht⟩⟩ := H
  · omega
  · simp only [Value.slice.injEq] at hv
    obtain ⟨rfl, rfl, rfl⟩ := hv
    refine ⟨g, 0, rfl, fun j hj => ?_⟩
    rw [cell_of_row w g _ cur _ _ hg, Nat.zero_add, ← Array.getElem?_toList, ← cellsC_at ps k j hk hj]
    have h1 : (cur.toList.take (ps.length * 7))[k * 7 + j]? = cur.toList[k * 7 + j]? := by rw [List.getElem?_take_of_lt (by omega)]
    rw [← h1, ht]
theorem OwnC.below {B : Nat} {w w' : World} {v : Value} {l : List Cp} (H : OwnC B w v l) (hb : Below w.heap.size w w') : OwnC B w' v l :=
  H.kept (Below.kept hb (fun _ => False)) fun _ _ h => h
theorem getD_at0 (l m : List Int) (i : Nat) (h : i < l.length) : (l ++ m).getD i 0 = l.getD i 0 := by
  rw [List.getD_eq_getElem?_getD, List.getD_eq_getElem?_getD, List.getElem?_append_left h]
theorem getD_at1 (l : List Int) (x y : Int) (k : Nat) (h : k = l.length) : (l ++ [x, y]).getD k 0 = x := by
  subst h
  rw [List.getD_eq_getElem?_getD, List.getElem?_append_right (Nat.le_refl _)]
  simp
theorem getD_at2 (l : List Int) (x y : Int) (k : Nat) (h : k = l.length) : (l ++ [x, y]).getD (k + 1) 0 = y := by
  subst h
  rw [List.getD_eq_getElem?_getD, List.getElem?_append_right (by omega)]
  simp
set_option maxHeartbeats 16000000 in
set_option maxRecDepth 100000 in
theorem pageChains_walk (t : ByteArray) (v : Value) (bl : List Int) (w : World) (hs : t.size ≤ 140737488351232) (hv : Ints w v bl) (hz : In64 bl ∧ bl.length ≤ 17592186043904) :
    Calls Try.prog 6 #[.string t, v] w fun e w' => e = .returned (.bool true) ∧ Below w.heap.size w w' := by
  have V := Lib.hid hv
  have I6 := Lib.hid hz.1
  have FX := Lib.hid fixed_any
  have HS := Lib.hid hs
  have LK := Lib.hid (fun W => Links_any t W (by omega))
  have RL := Lib.hid (fun W => rLinks_any t W (by omega))
  obtain ⟨a, cap, rfl, hlc, hcm⟩ := hv.len
  unfold maxLen at hcm
  obtain ⟨n, hn⟩ : ∃ n, n = bl.length := ⟨_, rfl⟩
  have hn9 : n ≤ 17592186043904 := by rw [hn]; exact hz.2
  rw [← hn] at hlc ⊢
  have HN := Lib.hid hn
  clear hv hz hs hn
  go_enter Try.func6, Try.ntmps6
  go_wp2_with (go_at_call 9; refine (FX.out _).mono ?_; rintro e w1 ⟨rfl, hb⟩; have B1 := Lib.hid hb; clear hb)
  clear FX
  go_loopg [6, 7] n (fun gg s6 si wr => ∃ (k : Nat) (a6 : Option Addr) (c6 : Nat), k ≤ n ∧ gg = n - k ∧ si = .int .i64 k ∧ s6 = .slice a6 k c6 ∧ OwnI w.heap.size wr (.slice a6 k c6) (bl.take k) ∧ Below w.heap.size w wr)
  case atStart => exact ⟨0, _, _, Nat.zero_le _, rfl, rfl, rfl, World.ownsRow_nil _ _ _ _, B1.out⟩
  case round =>
    obtain ⟨k, a6, c6, hk, hg, rfl, rfl, ho, hb⟩ := hrel
    have R : Aside (gk = n - k ∧ OwnI w.heap.size wr (.slice a6 k c6) (bl.take k) ∧ Below w.heap.size w wr) := ⟨hg, ho, hb⟩
    clear hg ho hb
    have TL : Hid ((bl.take k).length = k) := Lib.hid (by rw [List.length_take, ← HN.out]; omega)
    by_cases hlt : k < n
    · obtain ⟨b, off, ha, p0⟩ := (V.out.below R.out.2.2).at k (by rw [← HN.out]; exact hlt)
      subst ha
      obtain ⟨x, hx⟩ : ∃ x, x = bl.getD k 0 := ⟨_, rfl⟩
      rw [← hx] at p0
      have TO := Lib.hid (take_oneI bl k 0 (by rw [← HN.out]; exact hlt))
      rw [← hx] at TO
      clear hx
      have hlt' : (k : Int) < (n : Int) := by omega
      have L9 : Hid ((bl.take k).length + [x].length ≤ 17592186044416) := Lib.hid (by rw [TL.out]; simp; omega)
      have SB := Lib.hid R.out.2.2.size
      go_wp2_with (refine app_wide1 rfl (.tmp 23) (.tmp 28) rfl (B := w.heap.size) (w0 := wr) (v := .slice a6 k c6) (l := bl.take k) [x] rfl R.out.2.1 SB.out rfl L9.out ?_; intro v7 w7 H7)
      obtain ⟨a7, c7, h7, -, -⟩ := H7.out.1.len
      rw [List.length_append, TL.out] at h7
      have h7' : v7 = .slice a7 (k + 1) c7 := h7
      subst h7'
      clear h7
      have B7 := Lib.hid (R.out.2.2.trans ((grown_kept H7.out.2).below R.out.2.2.size (fun x hx => (R.out.2.1.lt x hx.symm).1)))
      go_wp2_with fail
      go_roundg (n - (k + 1))
      case measure => have := R.out.1; omega
      case rel => exact ⟨k + 1, a7, c7, by omega, rfl, by go_num, rfl, by rw [TO.out]; exact H7.out.1, B7.out⟩
    · have ek : k = n := by omega
      subst ek
      have eb : bl.take k = bl := List.take_of_length_le (by rw [← HN.out]; exact Nat.le_refl _)
      have O0 := Lib.hid R.out.2.1
      rw [eb] at O0
      have L9 : Hid (bl.length + [(-71 : Int), -72].length ≤ 17592186044416) := Lib.hid (by rw [← HN.out]; simp; omega)
      have SB := Lib.hid R.out.2.2.size
      have hdl : decide ((k : Int) < (k : Int)) = false := decide_eq_false (by omega)
      clear hk hlt eb TL
      have CR := Lib.hid (fun (W : World) (v : Value) (h : Ints W v bl) => Chain_any t v bl W h I6.out (by have := HS.out; omega))
      have CS := Lib.hid (fun (W : World) (v : Value) (h : Ints W v bl) => rChain_any t v bl W h (by have := HS.out; omega))
      obtain ⟨cr, hcr⟩ : ∃ cr, cr = chR t bl := ⟨_, rfl⟩
      rw [← hcr] at CR CS
      obtain ⟨ps, er⟩ := cr
      simp only at CR CS
      obtain ⟨np, hnp⟩ : ∃ np, np = ps.length := ⟨_, rfl⟩
      have HP := Lib.hid hnp
      obtain ⟨lk, hlk⟩ : ∃ lk : Int, lk = (lnk t : Int) := ⟨_, rfl⟩
      rw [← hlk] at LK RL
      have ger : (er != er) = false := by simp
      have gnp : ((np : Int) != (np : Int)) = false := by simp
      have glk : (lk != lk) = false := by simp
      have hk2 : k + 2 ≤ 17592186044416 := by omega
      clear hcr hnp hlk
      go_wp2_with (first | (refine app_wide1 rfl (.tmp 30) (.tmp 31) rfl (B := w.heap.size) (w0 := wr) (v := .slice a6 k c6) (l := bl) [-71, -72] rfl O0.out SB.out rfl L9.out ?_; intro v7 w7 H7; obtain ⟨a7, c7, h7, h77, h78⟩ := H7.out.1.len; rw [List.length_append, ← HN.out] at h7 h77; have h7' : v7 = .slice a7 (k + 2) c7 := h7; have h77' : k + 2 ≤ c7 := h77; subst h7'; clear h7 h77; have B7 := Lib.hid (R.out.2.2.trans ((grown_kept H7.out.2).below R.out.2.2.size (fun x hx => (O0.out.lt x hx.symm).1))); have FU := Lib.hid H7.out.1.ints; obtain ⟨b7, o7, ha7, -⟩ := FU.out.at 0 (by rw [List.length_append]; simp); subst ha7; have FR : Hid (Ints w7 (.slice (some ⟨b7, o7, none⟩) k c7) bl) := Lib.hid (by have q := FU.out.front; rw [← HN.out] at q; exact q)) | (go_at_call 14; refine (CR.out w7 _ FR.out).mono ?_; rintro e w8 ⟨v8, rfl, o8, hb⟩; have O8 := Lib.hid (And.intro o8 hb); obtain ⟨a8, c8, h8, h88, h89⟩ := o8.len; rw [← HP.out] at h8 h88; subst h8; clear o8 hb; have B8 := Lib.hid (B7.out.trans (O8.out.2.mono B7.out.size))) | (go_at_call 21; refine (CS.out w8 _ (by have q := V.out.below B8.out; rw [← HN.out] at q; exact q)).mono ?_; rintro e w9 ⟨v9, rfl, o9, hb⟩; have O9 := Lib.hid (And.intro o9 hb); obtain ⟨a9, c9, h9, h98, h99⟩ := o9.len; rw [← HP.out] at h9 h98; subst h9; clear o9 hb; have B9 := Lib.hid (B8.out.trans (O9.out.2.mono B8.out.size)); have FW : Hid (Ints w9 (.slice (some ⟨b7, o7, none⟩) (k + 2) c7) (bl ++ [-71, -72])) := Lib.hid (FU.out.below (O8.out.2.trans (O9.out.2.mono O8.out.2.size))); obtain ⟨b1, o1, e1, m1⟩ := FW.out.at k (by rw [List.length_append, ← HN.out]; simp); obtain ⟨b2, o2, e2, m2⟩ := FW.out.at (k + 1) (by rw [List.length_append, ← HN.out]; simp); simp only [Option.some.injEq, Addr.mk.injEq, and_true] at e1 e2; rw [← e1.1, ← e1.2, getD_at1 bl _ _ k HN.out] at m1; rw [← e2.1, ← e2.2, getD_at2 bl _ _ k HN.out] at m2; clear e1 e2) | (go_at_call 13; refine (LK.out _).mono ?_; rintro e w9 ⟨rfl, rfl⟩) | (go_at_call 22; refine (RL.out _).mono ?_; rintro e w9 ⟨rfl, rfl⟩))
      clear m1 m2 ger gnp glk CR CS LK RL
      have O8' : Hid (OwnC w7.heap.size w9 (.slice a8 np c8) ps) := Lib.hid (by have q := O8.out.1.below O9.out.2; exact q)
      have O9' : Hid (OwnC w8.heap.size w9 (.slice a9 np c9) ps) := Lib.hid O9.out.1
      go_loopg [12] np (fun gg si wr => ∃ (i : Nat), i ≤ np ∧ gg = np - i ∧ si = .int .i64 i ∧ Below w9.heap.size w9 wr)
      case atStart => exact ⟨0, Nat.zero_le _, rfl, rfl, Below.refl _ _⟩
      case round =>
        obtain ⟨i, hi, hg, rfl, hb⟩ := hrel
        have Q : Aside (gk = np - i ∧ Below w9.heap.size w9 wr) := ⟨hg, hb⟩
        clear hg hb
        by_cases hil : i < np
        · obtain ⟨b8, o8, ha8, hc8⟩ := (O8'.out.below Q.out.2).at i (by rw [← HP.out]; exact hil)
          obtain ⟨b9, o9, ha9, hc9⟩ := (O9'.out.below Q.out.2).at i (by rw [← HP.out]; exact hil)
          subst ha8 ha9
          obtain ⟨x, hx⟩ : ∃ x, x = ps.getD i (0, ⟨#[]⟩) := ⟨_, rfl⟩
          rw [← hx] at hc8 hc9
          obtain ⟨nx, d⟩ := x
          clear hx
          have hil' : (i : Int) < (np : Int) := by omega
          have KC : Hid (∀ W, Below wr.heap.size wr W → (W.cell? ⟨b8, o8 + i * 7, none⟩ = some (.int .i64 3) ∧ W.cell? ⟨b8, o8 + i * 7 + 1, none⟩ = some (.slice none 0 0) ∧ W.cell? ⟨b8, o8 + i * 7 + 2, none⟩ = some (.slice none 0 0) ∧ W.cell? ⟨b8, o8 + i * 7 + 3, none⟩ = some (.slice none 0 0) ∧ W.cell? ⟨b8, o8 + i * 7 + 4, none⟩ = some (.slice none 0 0) ∧ W.cell? ⟨b8, o8 + i * 7 + 5, none⟩ = some (.int .i64 nx) ∧ W.cell? ⟨b8, o8 + i * 7 + 6, none⟩ = some (.string d)) ∧ (W.cell? ⟨b9, o9 + i * 7, none⟩ = some (.int .i64 3) ∧ W.cell? ⟨b9, o9 + i * 7 + 1, none⟩ = some (.slice none 0 0) ∧ W.cell? ⟨b9, o9 + i * 7 + 2, none⟩ = some (.slice none 0 0) ∧ W.cell? ⟨b9, o9 + i * 7 + 3, none⟩ = some (.slice none 0 0) ∧ W.cell? ⟨b9, o9 + i * 7 + 4, none⟩ = some (.slice none 0 0) ∧ W.cell? ⟨b9, o9 + i * 7 + 5, none⟩ = some (.int .i64 nx) ∧ W.cell? ⟨b9, o9 + i * 7 + 6, none⟩ = some (.string d))) := Lib.hid (fun W h => by
            have k8 : ∀ j u, (encC (nx, d))[j]? = some u → j < 7 → W.cell? ⟨b8, o8 + i * 7 + j, none⟩ = some u := fun j u hu hj => by
              have q := hc8 j hj
              rw [hu] at q
              rw [h.cell (p := ⟨b8, o8 + i * 7 + j, none⟩) (block_lt_of_cell q)]; exact q
            have k9 : ∀ j u, (encC (nx, d))[j]? = some u → j < 7 → W.cell? ⟨b9, o9 + i * 7 + j, none⟩ = some u := fun j u hu hj => by
              have q := hc9 j hj
              rw [hu] at q
              rw [h.cell (p := ⟨b9, o9 + i * 7 + j, none⟩) (block_lt_of_cell q)]; exact q
            exact ⟨⟨k8 0 _ rfl (by omega), k8 1 _ rfl (by omega), k8 2 _ rfl (by omega), k8 3 _ rfl (by omega), k8 4 _ rfl (by omega), k8 5 _ rfl (by omega), k8 6 _ rfl (by omega)⟩, ⟨k9 0 _ rfl (by omega), k9 1 _ rfl (by omega), k9 2 _ rfl (by omega), k9 3 _ rfl (by omega), k9 4 _ rfl (by omega), k9 5 _ rfl (by omega), k9 6 _ rfl (by omega)⟩⟩)
          have BD : Hid (Below wr.heap.size wr wr.drew) := Lib.hid ⟨rfl, rfl, rfl, Nat.le_refl _, fun _ _ => rfl⟩
          have SM := Lib.hid (same_page wr.drew nx d)
          clear hc8 hc9
          go_wp2_with fail
          go_region_held (fun W : World => (W.cell? ⟨b8, o8 + i * 7, none⟩ = some (.int .i64 3) ∧ W.cell? ⟨b8, o8 + i * 7 + 1, none⟩ = some (.slice none 0 0) ∧ W.cell? ⟨b8, o8 + i * 7 + 2, none⟩ = some (.slice none 0 0) ∧ W.cell? ⟨b8, o8 + i * 7 + 3, none⟩ = some (.slice none 0 0) ∧ W.cell? ⟨b8, o8 + i * 7 + 4, none⟩ = some (.slice none 0 0) ∧ W.cell? ⟨b8, o8 + i * 7 + 5, none⟩ = some (.int .i64 nx) ∧ W.cell? ⟨b8, o8 + i * 7 + 6, none⟩ = some (.string d)) ∧ (W.cell? ⟨b9, o9 + i * 7, none⟩ = some (.int .i64 3) ∧ W.cell? ⟨b9, o9 + i * 7 + 1, none⟩ = some (.slice none 0 0) ∧ W.cell? ⟨b9, o9 + i * 7 + 2, none⟩ = some (.slice none 0 0) ∧ W.cell? ⟨b9, o9 + i * 7 + 3, none⟩ = some (.slice none 0 0) ∧ W.cell? ⟨b9, o9 + i * 7 + 4, none⟩ = some (.slice none 0 0) ∧ W.cell? ⟨b9, o9 + i * 7 + 5, none⟩ = some (.int .i64 nx) ∧ W.cell? ⟨b9, o9 + i * 7 + 6, none⟩ = some (.string d))) (first | exact KC.out _ (BD.out.trans hq) | exact KC.out _ BD.out) (first | (go_at_call 18; refine SM.out.mono ?_; rintro e wq ⟨rfl, hq⟩))
          have BQ := Lib.hid (Q.out.2.trans ((BD.out.trans hq).mono Q.out.2.size))
          clear hq
          go_wp2_with fail
          go_roundg (np - (i + 1))
          case measure => have := Q.out.1; omega
          case rel => exact ⟨i + 1, by omega, rfl, by go_num, BQ.out⟩
        · go_wp2_with fail
          have Q1 := Lib.hid Q.out.2
          clear hil hi
          go_loopg [13] k (fun gg si wr => ∃ (i : Nat), i ≤ k ∧ gg = k - i ∧ si = .int .i64 i ∧ Below w9.heap.size w9 wr)
          case atStart => exact ⟨0, Nat.zero_le _, rfl, rfl, Q1.out⟩
          case round =>
            obtain ⟨i, hi, hg, rfl, hb⟩ := hrel
            have Q : Aside (gk = k - i ∧ Below w9.heap.size w9 wr) := ⟨hg, hb⟩
            clear hg hb
            by_cases hil : i < k
            · obtain ⟨b1, o1, e1, m1⟩ := (FW.out.below Q.out.2).at i (by rw [List.length_append, ← HN.out]; omega)
              obtain ⟨b2, o2, e2, m2⟩ := (V.out.below (B9.out.trans (Q.out.2.mono B9.out.size))).at i (by rw [← HN.out]; exact hil)
              simp only [Option.some.injEq, Addr.mk.injEq, and_true] at e1
              rw [← e1.1, ← e1.2, getD_at0 bl _ i (by rw [← HN.out]; exact hil)] at m1
              subst e2
              obtain ⟨x, hx⟩ : ∃ x, x = bl.getD i 0 := ⟨_, rfl⟩
              rw [← hx] at m1 m2
              clear e1 hx
              have hil' : (i : Int) < (k : Int) := by omega
              have hil2 : (i : Int) < ((k + 2 : Nat) : Int) := by omega
              have gxx : (x != x) = false := by simp
              go_wp2_with fail
              go_quiet (fail)
              go_wp2_with fail
              go_roundg (k - (i + 1))
              case measure => have := Q.out.1; omega
              case rel => exact ⟨i + 1, by omega, rfl, by go_num, Q.out.2.trans ((below_drawn _ _).mono Q.out.2.size)⟩
            · go_wp2_with fail
              go_ret
              exact ⟨rfl, B9.out.trans (Q.out.2.mono B9.out.size)⟩
end Go.Proofs.Ytgiaekbdchfbkaa
