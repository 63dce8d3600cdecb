/-
  THE DOCUMENT'S DEVICE: Crash.
-/
import Derived.Test.YtojemioophlplaaRfG
namespace Go.Proofs.Ytojemioophlplaa
open Go.RowKit Go.Maps
namespace Rf
variable {B B' n : Nat} {w w' w1 w7 : World} {x : Nat} {bv lv kv v7 : Value} {s s' : RD} {y : Ly}
/-- What a crash leaves of a cache, each write by its fate. -/
def crL (f : Nat → Int × Int) : Nat → List Ly → List Ly
  | _, [] => []
  | k, y :: l => (if (keptN (f k)).2 = true then [{ y with l := y.l.take (keptN (f k)).1 }] else []) ++ crL f (k + 1) l
theorem crL_snoc (f : Nat → Int × Int) (y : Ly) : ∀ (l : List Ly) (k : Nat), crL f k (l ++ [y]) = crL f k l ++ (if (keptN (f (k + l.length))).2 = true then [{ y with l := y.l.take (keptN (f (k + l.length))).1 }] else [])
  | [], k => by simp [crL]
  | z :: l, k => by
    have e : k + 1 + l.length = k + (z :: l).length := by simp only [List.length_cons]; omega
    rw [List.cons_append, crL, crL, crL_snoc f y l, e, List.append_assoc]
theorem crL_none (f : Nat → Int × Int) : ∀ (l : List Ly) (k : Nat), (∀ j, k ≤ j → (keptN (f j)).2 = false) → crL f k l = []
  | [], _, _ => rfl
  | y :: l, k, h => by
    rw [crL, h k (Nat.le_refl _), crL_none f l (k + 1) (fun j hj => h j (by omega))]
    simp
theorem crL_app (f : Nat → Int × Int) : ∀ (l m : List Ly) (k : Nat), crL f k (l ++ m) = crL f k l ++ crL f (k + l.length) m
  | [], m, k => by simp [crL]
  | y :: l, m, k => by
    have e : k + 1 + l.length = k + (y :: l).length := by simp only [List.length_cons]; omega
    rw [List.cons_append, crL, crL, crL_app f l m, e, List.append_assoc]
theorem crL_length (f : Nat → Int × Int) : ∀ (l : List Ly) (k : Nat), (crL f k l).length ≤ l.length
  | [], _ => Nat.le_refl _
  | y :: l, k => by
    have := crL_length f l (k + 1)
    rw [crL, List.length_append, List.length_cons]
    split <;> simp <;> omega
def crR (s : RD) (fs : List (Int × Int)) : RD := { s with laid := s.laid ++ crL (fateAt fs) 0 s.cache, cache := [], armed := false, off := false }
def crN (fs : List (Int × Int)) (l : List Ly) : Nat := (crL (fateAt fs) 0 l).length
theorem own_take {g cap m k : Nat} {l : List UInt8} (h : Own B w (.slice (some ⟨g, 0, none⟩) m cap) l) (hk : k ≤ l.length) : Own B w (.slice (some ⟨g, 0, none⟩) k cap) (l.take k) := by
  obtain ⟨h1, ⟨hv, _⟩ | ⟨g2, c2, cur, hv, hB, hg, hn, hm, hs, ht⟩⟩ := h
  · simp at hv
  · simp only [Value.slice.injEq, Option.some.injEq, Addr.mk.injEq, and_true] at hv
    obtain ⟨rfl, rfl, rfl⟩ := hv
    have lk : (l.take k).length = k := by rw [List.length_take]; omega
    refine ⟨by rw [cells8_length, Nat.mul_one], .inr ⟨g, cap, cur, by rw [lk], hB, hg, by rw [lk]; omega, hm, hs, ?_⟩⟩
    rw [lk, Nat.mul_one]
    rw [Nat.mul_one] at ht
    have : cur.toList.take k = (cur.toList.take l.length).take k := by rw [List.take_take, Nat.min_eq_left hk]
    rw [this, ht]
    unfold cells8
    rw [List.map_take]
theorem LyOk.cut {g cap : Nat} {yb ya k : Nat} {l : List UInt8} (h : LyOk B w n ⟨yb, ya, some ⟨g, 0, none⟩, cap, l⟩) (hk : k ≤ l.length) : LyOk B w n ⟨yb, ya, some ⟨g, 0, none⟩, cap, l.take k⟩ := by
  have e : (l.take k).length = k := by rw [List.length_take]; omega
  refine ⟨?_, h.b, ?_⟩
  · show Own B w (.slice (some ⟨g, 0, none⟩) (l.take k).length cap) (l.take k)
    rw [e]
    exact own_take h.own hk
  · have := h.a
    simp only at this ⊢
    omega
set_option maxHeartbeats 16000000 in
set_option maxRecDepth 100000 in
theorem rcrash_any (h : Rd B w x bv lv kv s) (hBw : B ≤ w.heap.size) (hc : s.laid.length + s.cache.length < 100000000) (h5 : ∀ y ∈ s.cache, y.l.length = 512) (v : Value) (fs : List (Int × Int)) (hv : ∀ w', Kept (RFoot x lv kv) w w' → Fts w' v fs) :
    Calls Try.prog 18 #[.pointer (some ⟨x, 0, none⟩), v] w fun e w' => e = .returned (.int .i64 (crN fs s.cache : Int)) ∧ RL B w x bv lv kv w' (crR s fs) := by
  have H := Lib.hid h
  obtain ⟨ak, ck, e, hlc, hcm⟩ := (h.cache.row okLy).len
  obtain ⟨N, hN⟩ : ∃ N, N = s.cache.length := ⟨_, rfl⟩
  rw [← hN] at e hlc
  subst e
  have NN := Lib.hid hN
  have HC := Lib.hid hc
  have HB := Lib.hid hBw
  have H5 := Lib.hid h5
  have HV := Lib.hid hv
  unfold maxLen at hcm
  obtain ⟨af, cf, e, hf1, hf2, _, _⟩ := hv w (Kept.refl _ _)
  obtain ⟨F, hF⟩ : ∃ F, F = fs.length := ⟨_, rfl⟩
  rw [← hF] at e hf1
  subst e
  have FF := Lib.hid hF
  unfold maxLen at hf2
  clear h hc hBw hN h5 hv hF
  go_enter Try.func18, Try.ntmps18
  go_wp2_with fail
  go_loopg [5, 6] N (fun gg sn si wr => ∃ (i : Nat) (lv' : Value), i ≤ N ∧ gg = N - i ∧ si = .int .i64 i ∧ sn = .int .i64 (crN fs (s.cache.take i) : Int) ∧ Hid (Mid B w x bv lv (.slice ak N ck) lv' { s with laid := s.laid ++ crL (fateAt fs) 0 (s.cache.take i) } wr))
  case atStart => exact ⟨0, lv, Nat.zero_le _, rfl, rfl, rfl, Lib.hid (by rw [List.take_zero]; show Mid _ _ _ _ _ _ _ { s with laid := s.laid ++ [] } _; rw [List.append_nil]; exact Mid.start H.out (Kept.refl _ _))⟩
  case round =>
    obtain ⟨i, lv', hi, hg, rfl, rfl, S⟩ := hrel
    have G := Lib.hid hg
    clear hg
    have p3 : wr.cell? ⟨x, 3, none⟩ = some (.slice ak N ck) := S.out.rd.cell 3
    by_cases hgo : i < N ∧ i < F
    · have h1 : (i : Int) < (N : Int) := by omega
      have h2 : (i : Int) < (F : Int) := by omega
      obtain ⟨g, o, rfl, c0, c1, c2⟩ := kly_at (S.out.rd.cache.row okLy) i (by show i < s.cache.length; rw [← NN.out]; exact hgo.1)
      have my : s.cache.getD i kLy.z ∈ s.cache := by
        rw [List.getD_eq_getElem?_getD, List.getElem?_eq_getElem (by rw [← NN.out]; exact hgo.1)]
        exact List.getElem_mem _
      have tk := take_one s.cache i kLy.z (by rw [← NN.out]; exact hgo.1)
      obtain ⟨y, hy⟩ : ∃ y, y = s.cache.getD i kLy.z := ⟨_, rfl⟩
      have OY := Lib.hid (S.out.rd.lc _ my)
      have L5 := Lib.hid (H5.out _ my)
      simp only [← hy] at c0 c1 c2 OY L5
      obtain ⟨yb, ya, yad, ycap, yl⟩ := y
      simp only at L5
      obtain ⟨ug, ucap, ev, hu1, hu2, _, _⟩ := own_shape OY.out.own (by show 0 < yl.length; rw [L5.out]; decide)
      unfold Ly.v at ev c2
      simp only at ev c0 c1 c2
      simp only [Value.slice.injEq, true_and] at ev
      obtain ⟨rfl, rfl⟩ := ev
      rw [L5.out] at c2
      simp only at hu1
      rw [L5.out] at hu1
      unfold maxLen at hu2
      obtain ⟨af', cf', ef, _, _, _, hfc⟩ := HV.out wr S.out.kept
      simp only [Value.slice.injEq] at ef
      obtain ⟨rfl, -, rfl⟩ := ef
      obtain ⟨bf, fo, rfl, d0, d1⟩ := hfc i (by rw [← FF.out]; exact hgo.2)
      have KF : Hid (fateAt fs i = fs.getD i (0, 0)) := Lib.hid rfl
      obtain ⟨kd, hkd⟩ : ∃ kd, kd = (fs.getD i (0, 0)).1 := ⟨_, rfl⟩
      obtain ⟨fa, hfa⟩ : ∃ fa, fa = (fs.getD i (0, 0)).2 := ⟨_, rfl⟩
      rw [← hkd] at d0
      rw [← hfa] at d1
      have KN : Hid (keptN (fateAt fs i) = keptN (kd, fa)) := Lib.hid (by rw [KF.out, hkd, hfa])
      have TK : Hid (crL (fateAt fs) 0 (s.cache.take (i + 1)) = crL (fateAt fs) 0 (s.cache.take i) ++ (if (keptN (kd, fa)).2 = true then [⟨yb, ya, some ⟨ug, 0, none⟩, ycap, yl.take (keptN (kd, fa)).1⟩] else [])) := Lib.hid (by
        rw [tk, ← hy, crL_snoc]
        have el : 0 + (s.cache.take i).length = i := by rw [List.length_take, Nat.zero_add]; have := NN.out; omega
        rw [el, KN.out])
      have LC : Hid (crN fs (s.cache.take i) ≤ i) := Lib.hid (by
        unfold crN
        refine Nat.le_trans (crL_length _ _ _) ?_
        rw [List.length_take]; omega)
      have hi8 : i < 100000000 := by have := HC.out; have := NN.out; omega
      have LE : Hid (((s.laid ++ crL (fateAt fs) 0 (s.cache.take i)).length + 1) * kLy.b ≤ 140737488355328) := Lib.hid (by
        rw [List.length_append]
        show (_ + 1) * 40 ≤ _
        have h1 : (crL (fateAt fs) 0 (s.cache.take i)).length ≤ i := LC.out
        have := HC.out
        omega)
      have CN : Hid (crN fs (s.cache.take (i + 1)) = crN fs (s.cache.take i) + (if (keptN (kd, fa)).2 = true then 1 else 0)) := Lib.hid (by
        unfold crN
        rw [TK.out, List.length_append]
        split <;> rfl)
      obtain ⟨X, hX⟩ : ∃ X, X = wr.alloc (.cells #[.int .i64 (yb : Int), .int .i64 (ya : Int), .slice (some ⟨ug, 0, none⟩) 512 ycap] 71) := ⟨_, rfl⟩
      have BX : Hid (Below wr.heap.size wr X) := Lib.hid (by rw [hX]; exact (Below.refl _ _).alloc (Nat.le_refl _) _)
      have gX : Hid (X.heap[wr.heap.size]? = some (.cells #[.int .i64 (yb : Int), .int .i64 (ya : Int), .slice (some ⟨ug, 0, none⟩) 512 ycap] 71 (0, 0))) := Lib.hid (by rw [hX, heap_alloc_new])
      have x2 : X.cell? ⟨wr.heap.size, 2, none⟩ = some (.slice (some ⟨ug, 0, none⟩) 512 ycap) := cell_of_row _ _ 2 _ _ _ gX.out
      have xf2 : X.frozen? ⟨wr.heap.size, 2, none⟩ = false := frozen_of_row _ _ 2 _ _ gX.out
      have e0 : X.cell? ⟨bf, fo + i * 2, none⟩ = some (.int .i64 kd) := (BX.out.cell (block_lt_of_cell d0)).trans d0
      have e1 : X.cell? ⟨bf, fo + i * 2 + 1, none⟩ = some (.int .i64 fa) := (BX.out.cell (block_lt_of_cell d1)).trans d1
      have hX' := hX.symm
      obtain ⟨cn, hcn⟩ : ∃ cn, cn = crN fs (s.cache.take i) := ⟨_, rfl⟩
      obtain ⟨L, hL⟩ : ∃ L, L = crL (fateAt fs) 0 (s.cache.take i) := ⟨_, rfl⟩
      rw [← hL] at S TK LE
      rw [← hcn] at CN LC ⊢
      have hcn8 : cn < 100000000 := by have := LC.out; omega
      have X2 : Hid (∀ A, A ≤ 512 → ∃ Y, X.setCell ⟨wr.heap.size, 2, none⟩ (.slice (some ⟨ug, 0, none⟩) A ycap) = Y ∧ Hid (Mid B w x bv lv (.slice (some ⟨g, o, none⟩) N ck) lv' { s with laid := s.laid ++ L } Y ∧ LyOk B Y s.n ⟨yb, ya, some ⟨ug, 0, none⟩, ycap, yl.take A⟩ ∧ Y.heap[wr.heap.size]? = some (.cells #[.int .i64 (yb : Int), .int .i64 (ya : Int), .slice (some ⟨ug, 0, none⟩) A ycap] 71 (0, 0)))) := Lib.hid (fun A hA => by
        have bY : Below wr.heap.size wr (X.setCell ⟨wr.heap.size, 2, none⟩ (.slice (some ⟨ug, 0, none⟩) A ycap)) := BX.out.setCell (p := ⟨wr.heap.size, 2, none⟩) (Nat.le_refl _) _
        refine ⟨_, rfl, Lib.hid ⟨S.out.below bY, ?_, ?_⟩⟩
        · have h0 : LyOk B (X.setCell ⟨wr.heap.size, 2, none⟩ (.slice (some ⟨ug, 0, none⟩) A ycap)) s.n ⟨yb, ya, some ⟨ug, 0, none⟩, ycap, yl⟩ := ⟨OY.out.own.below bY, OY.out.b, OY.out.a⟩
          exact h0.cut (by rw [L5.out]; exact hA)
        · rw [heap_setCell_same _ _ _ _ _ _ gX.out]
          rfl)
      have KD : Hid (i + 1 ≤ N) := Lib.hid hgo.1
      clear tk hy my hX hkd hfa hgo d0 d1 hfc hL hcn
      by_cases k1 : kd = 1
      · subst k1
        obtain ⟨Y, hY, MY⟩ := X2.out 512 (by omega)
        have LA : Hid ((yl.take 512).length = 512) := Lib.hid (by rw [List.length_take, L5.out]; omega)
        have MD : Hid (Mid B w x bv lv (.slice (some ⟨g, o, none⟩) N ck) lv' { s with laid := s.laid ++ L } Y.drew) := Lib.hid (MY.out.1.below (Below.refl _ _).drew)
        have OD : Hid (LyOk B Y.drew s.n ⟨yb, ya, some ⟨ug, 0, none⟩, ycap, yl.take 512⟩) := Lib.hid ⟨MY.out.2.1.own.below (Below.refl _ _).drew, MY.out.2.1.b, MY.out.2.1.a⟩
        have z0 : Y.cell? ⟨wr.heap.size, 0, none⟩ = some (.int .i64 (yb : Int)) := cell_of_row _ _ 0 _ _ _ MY.out.2.2
        have z1 : Y.cell? ⟨wr.heap.size, 1, none⟩ = some (.int .i64 (ya : Int)) := cell_of_row _ _ 1 _ _ _ MY.out.2.2
        have z2 : Y.cell? ⟨wr.heap.size, 2, none⟩ = some (.slice (some ⟨ug, 0, none⟩) 512 ycap) := cell_of_row _ _ 2 _ _ _ MY.out.2.2
        have v2 : Y.cell? ⟨x, 2, none⟩ = some lv' := MY.out.1.rd.cell 2
        have v3 : (Y.alloc (.cells #[.int .i64 (yb : Int), .int .i64 (ya : Int), .slice (some ⟨ug, 0, none⟩) 512 ycap] 71)).cell? ⟨x, 2, none⟩ = some lv' := (MY.out.1.below ((Below.refl _ _).alloc (Nat.le_refl _) _)).rd.cell 2
        have v4 : (Y.drew.alloc (.cells #[.int .i64 (yb : Int), .int .i64 (ya : Int), .slice (some ⟨ug, 0, none⟩) 512 ycap] 71)).cell? ⟨x, 2, none⟩ = some lv' := (MD.out.below ((Below.refl _ _).alloc (Nat.le_refl _) _)).rd.cell 2
        have SB : Hid (B ≤ Y.drew.heap.size) := Lib.hid (Nat.le_trans HB.out MD.out.kept.size)
        have EN : Hid (crL (fateAt fs) 0 (s.cache.take (i + 1)) = L ++ [⟨yb, ya, some ⟨ug, 0, none⟩, ycap, yl.take 512⟩] ∧ crN fs (s.cache.take (i + 1)) = cn + 1) := Lib.hid (by
          have hk : keptN (1, fa) = (512, true) := by rfl
          refine ⟨by rw [TK.out, hk]; rfl, by rw [CN.out, hk]; rfl⟩)
        clear MY X2 S BX gX
        go_wp2_with fail
        go_region_law (
          refine step_app1 okLy rfl (.tmp 60) (.tmp 62) rfl (B := B) (w := Y.drew) (v := lv') (L := s.laid ++ L) rfl MD.out.rd.laid SB.out ⟨yb, ya, some ⟨ug, 0, none⟩, ycap, yl.take 512⟩ (by show _ = #[_, _, Value.slice (some ⟨ug, 0, none⟩) (yl.take 512).length ycap]; rw [LA.out]) rfl rfl LE.out ?_
          intro a7 n7 c7 w7 q7
          have Z7 := Lib.hid (MD.out.add q7.out.1 q7.out.2.1 q7.out.2.2 OD.out)
          have t1 := Z7.out.2.1
          have t2 := Z7.out.2.2
          clear q7)
        all_goals
          clear p3 c0 c1 c2 x2 xf2 e0 e1 hX' hY z0 z1 z2 v2 v3 v4 t1 t2
          go_wp2_with fail
          go_roundg (N - (i + 1))
          case measure => have := G.out; have := KD.out; omega
          case rel => exact ⟨i + 1, _, KD.out, rfl, by go_num, by rw [EN.out.2]; go_num, Lib.hid (by rw [EN.out.1, ← List.append_assoc]; exact Z7.out.1)⟩
      · have g1 : (kd == 1) = false := by rw [beq_eq_false_iff_ne]; exact k1
        by_cases k2 : kd = 2
        · subst k2
          by_cases f0 : fa < 0
          · have q1 : decide (fa < 0) = true := decide_eq_true f0
            obtain ⟨Y, hY, MY⟩ := X2.out 0 (by omega)
            have LA : Hid ((yl.take 0).length = 0) := Lib.hid (by rw [List.length_take, L5.out]; omega)
            have MD : Hid (Mid B w x bv lv (.slice (some ⟨g, o, none⟩) N ck) lv' { s with laid := s.laid ++ L } Y.drew) := Lib.hid (MY.out.1.below (Below.refl _ _).drew)
            have OD : Hid (LyOk B Y.drew s.n ⟨yb, ya, some ⟨ug, 0, none⟩, ycap, yl.take 0⟩) := Lib.hid ⟨MY.out.2.1.own.below (Below.refl _ _).drew, MY.out.2.1.b, MY.out.2.1.a⟩
            have z0 : Y.cell? ⟨wr.heap.size, 0, none⟩ = some (.int .i64 (yb : Int)) := cell_of_row _ _ 0 _ _ _ MY.out.2.2
            have z1 : Y.cell? ⟨wr.heap.size, 1, none⟩ = some (.int .i64 (ya : Int)) := cell_of_row _ _ 1 _ _ _ MY.out.2.2
            have z2 : Y.cell? ⟨wr.heap.size, 2, none⟩ = some (.slice (some ⟨ug, 0, none⟩) 0 ycap) := cell_of_row _ _ 2 _ _ _ MY.out.2.2
            have v2 : Y.cell? ⟨x, 2, none⟩ = some lv' := MY.out.1.rd.cell 2
            have v3 : (Y.alloc (.cells #[.int .i64 (yb : Int), .int .i64 (ya : Int), .slice (some ⟨ug, 0, none⟩) 0 ycap] 71)).cell? ⟨x, 2, none⟩ = some lv' := (MY.out.1.below ((Below.refl _ _).alloc (Nat.le_refl _) _)).rd.cell 2
            have v4 : (Y.drew.alloc (.cells #[.int .i64 (yb : Int), .int .i64 (ya : Int), .slice (some ⟨ug, 0, none⟩) 0 ycap] 71)).cell? ⟨x, 2, none⟩ = some lv' := (MD.out.below ((Below.refl _ _).alloc (Nat.le_refl _) _)).rd.cell 2
            have SB : Hid (B ≤ Y.drew.heap.size) := Lib.hid (Nat.le_trans HB.out MD.out.kept.size)
            have EN : Hid (crL (fateAt fs) 0 (s.cache.take (i + 1)) = L ++ [⟨yb, ya, some ⟨ug, 0, none⟩, ycap, yl.take 0⟩] ∧ crN fs (s.cache.take (i + 1)) = cn + 1) := Lib.hid (by
              have hk : keptN (2, fa) = (0, true) := by simp [keptN]; omega
              refine ⟨by rw [TK.out, hk]; rfl, by rw [CN.out, hk]; rfl⟩)
            clear MY X2 S BX gX
            go_wp2_with fail
            go_region_law (
              refine step_app1 okLy rfl (.tmp 60) (.tmp 62) rfl (B := B) (w := Y.drew) (v := lv') (L := s.laid ++ L) rfl MD.out.rd.laid SB.out ⟨yb, ya, some ⟨ug, 0, none⟩, ycap, yl.take 0⟩ (by show _ = #[_, _, Value.slice (some ⟨ug, 0, none⟩) (yl.take 0).length ycap]; rw [LA.out]) rfl rfl LE.out ?_
              intro a7 n7 c7 w7 q7
              have Z7 := Lib.hid (MD.out.add q7.out.1 q7.out.2.1 q7.out.2.2 OD.out)
              have t1 := Z7.out.2.1
              have t2 := Z7.out.2.2
              clear q7)
            all_goals
              clear p3 c0 c1 c2 x2 xf2 e0 e1 hX' hY z0 z1 z2 v2 v3 v4 t1 t2
              go_wp2_with fail
              go_roundg (N - (i + 1))
              case measure => have := G.out; have := KD.out; omega
              case rel => exact ⟨i + 1, _, KD.out, rfl, by go_num, by rw [EN.out.2]; go_num, Lib.hid (by rw [EN.out.1, ← List.append_assoc]; exact Z7.out.1)⟩
          · by_cases f5 : 512 < fa
            · have q1 : decide (fa < 0) = false := decide_eq_false f0
              have q2 : decide (fa > 512) = true := decide_eq_true f5
              obtain ⟨Y, hY, MY⟩ := X2.out 512 (by omega)
              have LA : Hid ((yl.take 512).length = 512) := Lib.hid (by rw [List.length_take, L5.out]; omega)
              have MD : Hid (Mid B w x bv lv (.slice (some ⟨g, o, none⟩) N ck) lv' { s with laid := s.laid ++ L } Y.drew) := Lib.hid (MY.out.1.below (Below.refl _ _).drew)
              have OD : Hid (LyOk B Y.drew s.n ⟨yb, ya, some ⟨ug, 0, none⟩, ycap, yl.take 512⟩) := Lib.hid ⟨MY.out.2.1.own.below (Below.refl _ _).drew, MY.out.2.1.b, MY.out.2.1.a⟩
              have z0 : Y.cell? ⟨wr.heap.size, 0, none⟩ = some (.int .i64 (yb : Int)) := cell_of_row _ _ 0 _ _ _ MY.out.2.2
              have z1 : Y.cell? ⟨wr.heap.size, 1, none⟩ = some (.int .i64 (ya : Int)) := cell_of_row _ _ 1 _ _ _ MY.out.2.2
              have z2 : Y.cell? ⟨wr.heap.size, 2, none⟩ = some (.slice (some ⟨ug, 0, none⟩) 512 ycap) := cell_of_row _ _ 2 _ _ _ MY.out.2.2
              have v2 : Y.cell? ⟨x, 2, none⟩ = some lv' := MY.out.1.rd.cell 2
              have v3 : (Y.alloc (.cells #[.int .i64 (yb : Int), .int .i64 (ya : Int), .slice (some ⟨ug, 0, none⟩) 512 ycap] 71)).cell? ⟨x, 2, none⟩ = some lv' := (MY.out.1.below ((Below.refl _ _).alloc (Nat.le_refl _) _)).rd.cell 2
              have v4 : (Y.drew.alloc (.cells #[.int .i64 (yb : Int), .int .i64 (ya : Int), .slice (some ⟨ug, 0, none⟩) 512 ycap] 71)).cell? ⟨x, 2, none⟩ = some lv' := (MD.out.below ((Below.refl _ _).alloc (Nat.le_refl _) _)).rd.cell 2
              have SB : Hid (B ≤ Y.drew.heap.size) := Lib.hid (Nat.le_trans HB.out MD.out.kept.size)
              have EN : Hid (crL (fateAt fs) 0 (s.cache.take (i + 1)) = L ++ [⟨yb, ya, some ⟨ug, 0, none⟩, ycap, yl.take 512⟩] ∧ crN fs (s.cache.take (i + 1)) = cn + 1) := Lib.hid (by
                have hk : keptN (2, fa) = (512, true) := by simp [keptN]; omega
                refine ⟨by rw [TK.out, hk]; rfl, by rw [CN.out, hk]; rfl⟩)
              clear MY X2 S BX gX
              go_wp2_with fail
              go_region_law (
                refine step_app1 okLy rfl (.tmp 60) (.tmp 62) rfl (B := B) (w := Y.drew) (v := lv') (L := s.laid ++ L) rfl MD.out.rd.laid SB.out ⟨yb, ya, some ⟨ug, 0, none⟩, ycap, yl.take 512⟩ (by show _ = #[_, _, Value.slice (some ⟨ug, 0, none⟩) (yl.take 512).length ycap]; rw [LA.out]) rfl rfl LE.out ?_
                intro a7 n7 c7 w7 q7
                have Z7 := Lib.hid (MD.out.add q7.out.1 q7.out.2.1 q7.out.2.2 OD.out)
                have t1 := Z7.out.2.1
                have t2 := Z7.out.2.2
                clear q7)
              all_goals
                clear p3 c0 c1 c2 x2 xf2 e0 e1 hX' hY z0 z1 z2 v2 v3 v4 t1 t2
                go_wp2_with fail
                go_roundg (N - (i + 1))
                case measure => have := G.out; have := KD.out; omega
                case rel => exact ⟨i + 1, _, KD.out, rfl, by go_num, by rw [EN.out.2]; go_num, Lib.hid (by rw [EN.out.1, ← List.append_assoc]; exact Z7.out.1)⟩
            · have q1 : decide (fa < 0) = false := decide_eq_false f0
              have q2 : decide (fa > 512) = false := decide_eq_false (by omega)
              obtain ⟨A, rfl⟩ : ∃ A : Nat, fa = (A : Int) := ⟨fa.toNat, by omega⟩
              have hA5 : A ≤ 512 := by omega
              have hAc : (A : Int) ≤ (ycap : Int) := by omega
              have hA0 : (0 : Int) ≤ (A : Int) := by omega
              obtain ⟨Y, hY, MY⟩ := X2.out A (by omega)
              have LA : Hid ((yl.take A).length = A) := Lib.hid (by rw [List.length_take, L5.out]; omega)
              have MD : Hid (Mid B w x bv lv (.slice (some ⟨g, o, none⟩) N ck) lv' { s with laid := s.laid ++ L } Y.drew) := Lib.hid (MY.out.1.below (Below.refl _ _).drew)
              have OD : Hid (LyOk B Y.drew s.n ⟨yb, ya, some ⟨ug, 0, none⟩, ycap, yl.take A⟩) := Lib.hid ⟨MY.out.2.1.own.below (Below.refl _ _).drew, MY.out.2.1.b, MY.out.2.1.a⟩
              have z0 : Y.cell? ⟨wr.heap.size, 0, none⟩ = some (.int .i64 (yb : Int)) := cell_of_row _ _ 0 _ _ _ MY.out.2.2
              have z1 : Y.cell? ⟨wr.heap.size, 1, none⟩ = some (.int .i64 (ya : Int)) := cell_of_row _ _ 1 _ _ _ MY.out.2.2
              have z2 : Y.cell? ⟨wr.heap.size, 2, none⟩ = some (.slice (some ⟨ug, 0, none⟩) A ycap) := cell_of_row _ _ 2 _ _ _ MY.out.2.2
              have v2 : Y.cell? ⟨x, 2, none⟩ = some lv' := MY.out.1.rd.cell 2
              have v3 : (Y.alloc (.cells #[.int .i64 (yb : Int), .int .i64 (ya : Int), .slice (some ⟨ug, 0, none⟩) A ycap] 71)).cell? ⟨x, 2, none⟩ = some lv' := (MY.out.1.below ((Below.refl _ _).alloc (Nat.le_refl _) _)).rd.cell 2
              have v4 : (Y.drew.alloc (.cells #[.int .i64 (yb : Int), .int .i64 (ya : Int), .slice (some ⟨ug, 0, none⟩) A ycap] 71)).cell? ⟨x, 2, none⟩ = some lv' := (MD.out.below ((Below.refl _ _).alloc (Nat.le_refl _) _)).rd.cell 2
              have SB : Hid (B ≤ Y.drew.heap.size) := Lib.hid (Nat.le_trans HB.out MD.out.kept.size)
              have EN : Hid (crL (fateAt fs) 0 (s.cache.take (i + 1)) = L ++ [⟨yb, ya, some ⟨ug, 0, none⟩, ycap, yl.take A⟩] ∧ crN fs (s.cache.take (i + 1)) = cn + 1) := Lib.hid (by
                have hk : keptN (2, (A : Int)) = (A, true) := by simp [keptN]; omega
                refine ⟨by rw [TK.out, hk]; rfl, by rw [CN.out, hk]; rfl⟩)
              clear MY X2 S BX gX
              go_wp2_with fail
              go_region_law (
                refine step_app1 okLy rfl (.tmp 60) (.tmp 62) rfl (B := B) (w := Y.drew) (v := lv') (L := s.laid ++ L) rfl MD.out.rd.laid SB.out ⟨yb, ya, some ⟨ug, 0, none⟩, ycap, yl.take A⟩ (by show _ = #[_, _, Value.slice (some ⟨ug, 0, none⟩) (yl.take A).length ycap]; rw [LA.out]) rfl rfl LE.out ?_
                intro a7 n7 c7 w7 q7
                have Z7 := Lib.hid (MD.out.add q7.out.1 q7.out.2.1 q7.out.2.2 OD.out)
                have t1 := Z7.out.2.1
                have t2 := Z7.out.2.2
                clear q7)
              all_goals
                clear p3 c0 c1 c2 x2 xf2 e0 e1 hX' hY z0 z1 z2 v2 v3 v4 t1 t2
                go_wp2_with fail
                go_roundg (N - (i + 1))
                case measure => have := G.out; have := KD.out; omega
                case rel => exact ⟨i + 1, _, KD.out, rfl, by go_num, by rw [EN.out.2]; go_num, Lib.hid (by rw [EN.out.1, ← List.append_assoc]; exact Z7.out.1)⟩
        · have g2 : (kd == 2) = false := by rw [beq_eq_false_iff_ne]; exact k2
          have EN : Hid (crL (fateAt fs) 0 (s.cache.take (i + 1)) = L ∧ crN fs (s.cache.take (i + 1)) = cn) := Lib.hid (by
            have hk : (keptN (kd, fa)).2 = false := by simp [keptN, k1, k2]
            refine ⟨by rw [TK.out, hk]; simp, by rw [CN.out, hk]; simp⟩)
          have SX := Lib.hid (S.out.below BX.out)
          clear X2 S BX gX k1 k2
          go_wp2_with fail
          go_roundg (N - (i + 1))
          case measure => have := G.out; have := KD.out; omega
          case rel => exact ⟨i + 1, lv', KD.out, rfl, by go_num, by rw [EN.out.2], Lib.hid (by rw [EN.out.1]; exact SX.out)⟩
    · have EN : Hid (crL (fateAt fs) 0 (s.cache.take i) = crL (fateAt fs) 0 s.cache) := Lib.hid (by
        have e := crL_app (fateAt fs) (s.cache.take i) (s.cache.drop i) 0
        rw [List.take_append_drop] at e
        rw [e]
        rcases Nat.lt_or_ge i N with q | q
        · rw [crL_none (fateAt fs) (s.cache.drop i) (0 + (s.cache.take i).length) (fun j hj => ?_), List.append_nil]
          have hj' : F ≤ j := by
            rw [List.length_take, ← NN.out] at hj
            omega
          unfold fateAt
          rw [List.getD_eq_getElem?_getD, List.getElem?_eq_none (by rw [← FF.out]; exact hj')]
          rfl
        · rw [List.drop_eq_nil_of_le (by rw [← NN.out]; exact q)]
          simp [crL])
      have EC : Hid (crN fs (s.cache.take i) = crN fs s.cache) := Lib.hid (by unfold crN; rw [EN.out])
      have hne : (decide ((i : Int) < (N : Int)) && decide ((i : Int) < (F : Int))) = false := by
        rw [Bool.and_eq_false_iff, decide_eq_false_iff_not, decide_eq_false_iff_not]
        omega
      have f3 : wr.frozen? ⟨x, 3, none⟩ = false := S.out.rd.free 3
      have CL := Lib.hid S.out.clear
      obtain ⟨Y, hY⟩ : ∃ Y, Y = wr.setCell ⟨x, 3, none⟩ (.slice none 0 0) := ⟨_, rfl⟩
      rw [← hY] at CL
      have hY' := hY.symm
      have d6 : Y.cell? ⟨x, 6, none⟩ = some (.bool s.off) := CL.out.1.cell 6
      have d6f : Y.frozen? ⟨x, 6, none⟩ = false := CL.out.1.free 6
      obtain ⟨Z, hZ⟩ : ∃ Z, Z = Y.setCell ⟨x, 6, none⟩ (.bool false) := ⟨_, rfl⟩
      have RZ : Hid (Rd B Z x bv lv' (.slice none 0 0) { s with laid := s.laid ++ crL (fateAt fs) 0 (s.cache.take i), cache := [], off := false } ∧ Kept (fun k => k = x) Y Z) := Lib.hid ⟨by rw [hZ]; exact CL.out.1.set 6 _ _ rfl rfl rfl rfl rfl, by rw [hZ]; exact kept_set Y _ _ rfl⟩
      have hZ' := hZ.symm
      have d4 : Z.cell? ⟨x, 4, none⟩ = some (.bool s.armed) := RZ.out.1.cell 4
      have d4f : Z.frozen? ⟨x, 4, none⟩ = false := RZ.out.1.free 4
      have FIN : Hid (RL B w x bv lv (.slice ak N ck) (Z.setCell ⟨x, 4, none⟩ (.bool false)) (crR s fs)) := Lib.hid (by
        refine RL.trans CL.out.2.1 CL.out.2.2 (RL.trans (lv' := lv') (kv' := .slice none 0 0) (RZ.out.2.mono (fun _ _ e => .inl e)) (fun _ e => .inl e) (RL.self ?_ (kept_set Z _ _ rfl)))
        have := RZ.out.1.set 4 (.bool false) { s with laid := s.laid ++ crL (fateAt fs) 0 (s.cache.take i), cache := [], off := false, armed := false } rfl rfl rfl rfl rfl
        rw [EN.out] at this
        exact this)
      clear hY hZ CL RZ
      by_cases hiN : i < N
      · have q1 : decide ((i : Int) < (N : Int)) = true := decide_eq_true (by omega)
        have q2 : decide ((i : Int) < (F : Int)) = false := decide_eq_false (by omega)
        clear hne
        go_wp2_with fail
        go_ret
        rw [EC.out]
        exact ⟨rfl, FIN.out⟩
      · have q1 : decide ((i : Int) < (N : Int)) = false := decide_eq_false (by omega)
        clear hne
        go_wp2_with fail
        go_ret
        rw [EC.out]
        exact ⟨rfl, FIN.out⟩
end Rf
end Go.Proofs.Ytojemioophlplaa
