/-
  RfH, RfI, RfJ, RfP, joined.
-/
import Derived.Test.YtbdlebengmbooaaRfG
import Derived.Test.YtbdlebengmbooaaWrB
section S0
namespace Go.Proofs.Ytbdlebengmbooaa
open Go.RowKit Go.Maps
namespace Rf
variable {B B' n : Nat} {w w' w1 w7 : World} {x : Nat} {bv lv kv v7 : Value} {s s' : RD} {y : Ly}
/-- What a crash leaves of a cache, each write by its fate. -/
def crL (f : Nat → Int × Int) : Nat → List Ly → List Ly
  | _, [] => []
  | k, y :: l => (if (keptN (f k)).2 = true then [{ y with l := y.l.take (keptN (f k)).1 }] else []) ++ crL f (k + 1) l
theorem crL_snoc (f : Nat → Int × Int) (y : Ly) : ∀ (l : List Ly) (k : Nat), crL f k (l ++ [y]) = crL f k l ++ (if (keptN (f (k + l.length))).2 = true then [{ y with l := y.l.take (keptN (f (k + l.length))).1 }] else [])
  | [], k => by simp [crL]
  | z :: l, k => by
    have e : k + 1 + l.length = k + (z :: l).length := by simp only [List.length_cons]; omega
    rw [List.cons_append, crL, crL, crL_snoc f y l, e, List.append_assoc]
theorem crL_none (f : Nat → Int × Int) : ∀ (l : List Ly) (k : Nat), (∀ j, k ≤ j → (keptN (f j)).2 = false) → crL f k l = []
  | [], _, _ => rfl
  | y :: l, k, h => by
    rw [crL, h k (Nat.le_refl _), crL_none f l (k + 1) (fun j hj => h j (by omega))]
    simp
theorem crL_app (f : Nat → Int × Int) : ∀ (l m : List Ly) (k : Nat), crL f k (l ++ m) = crL f k l ++ crL f (k + l.length) m
  | [], m, k => by simp [crL]
  | y :: l, m, k => by
    have e : k + 1 + l.length = k + (y :: l).length := by simp only [List.length_cons]; omega
    rw [List.cons_append, crL, crL, crL_app f l m, e, List.append_assoc]
theorem crL_length (f : Nat → Int × Int) : ∀ (l : List Ly) (k : Nat), (crL f k l).length ≤ l.length
  | [], _ => Nat.le_refl _
  | y :: l, k => by
    have := crL_length f l (k + 1)
    rw [crL, List.length_append, List.length_cons]
    split <;> simp <;> omega
def crR (s : RD) (fs : List (Int × Int)) : RD := { s with laid := s.laid ++ crL (fateAt fs) 0 s.cache, cache := [], armed := false, off := false }
def crN (fs : List (Int × Int)) (l : List Ly) : Nat := (crL (fateAt fs) 0 l).length
theorem own_take {g cap m k : Nat} {l : List UInt8} (h : Own B w (.slice (some ⟨g, 0, none⟩) m cap) l) (hk : k ≤ l.length) : Own B w (.slice (some ⟨g, 0, none⟩) k cap) (l.take k) := by
  obtain ⟨h1, ⟨hv, _⟩ | ⟨g2, c2, cur, hv, hB, hg, hn, hm, hs, ht⟩⟩ := h
  · simp at hv
  · simp only [Value.slice.injEq, Option.some.injEq, Addr.mk.injEq, and_true] at hv
    obtain ⟨rfl, rfl, rfl⟩ := hv
    have lk : (l.take k).length = k := by rw [List.length_take]; omega
    refine ⟨by rw [cells8_length, Nat.mul_one], .inr ⟨g, cap, cur, by rw [lk], hB, hg, by rw [lk]; omega, hm, hs, ?_⟩⟩
    rw [lk, Nat.mul_one]
    rw [Nat.mul_one] at ht
    have : cur.toList.take k = (cur.toList.take l.length).take k := by rw [List.take_take, Nat.min_eq_left hk]
    rw [this, ht]
    unfold cells8
    rw [List.map_take]
theorem LyOk.cut {g cap : Nat} {yb ya k : Nat} {l : List UInt8} (h : LyOk B w n ⟨yb, ya, some ⟨g, 0, none⟩, cap, l⟩) (hk : k ≤ l.length) : LyOk B w n ⟨yb, ya, some ⟨g, 0, none⟩, cap, l.take k⟩ := by
  have e : (l.take k).length = k := by rw [List.length_take]; omega
  refine ⟨?_, h.b, ?_⟩
  · show Own B w (.slice (some ⟨g, 0, none⟩) (l.take k).length cap) (l.take k)
    rw [e]
    exact own_take h.own hk
  · have := h.a
    simp only at this ⊢
    omega
set_option maxHeartbeats 16000000 in
set_option maxRecDepth 100000 in
theorem rcrash_any (h : Rd B w x bv lv kv s) (hBw : B ≤ w.heap.size) (hc : s.laid.length + s.cache.length < 1200000000000) (h5 : ∀ y ∈ s.cache, y.l.length = 512) (v : Value) (fs : List (Int × Int)) (hv : ∀ w', Kept (RFoot x lv kv) w w' → Fts w' v fs) :
    Calls Try.prog 13 #[.pointer (some ⟨x, 0, none⟩), v] w fun e w' => e = .returned (.int .i64 (crN fs s.cache : Int)) ∧ RL B w x bv lv kv w' (crR s fs) := by
  have H := Lib.hid h
  obtain ⟨ak, ck, e, hlc, hcm⟩ := (h.cache.row okLy).len
  obtain ⟨N, hN⟩ : ∃ N, N = s.cache.length := ⟨_, rfl⟩
  rw [← hN] at e hlc
  subst e
  have NN := Lib.hid hN
  have HC := Lib.hid hc
  have HB := Lib.hid hBw
  have H5 := Lib.hid h5
  have HV := Lib.hid hv
  unfold maxLen at hcm
  obtain ⟨af, cf, e, hf1, hf2, _, _⟩ := hv w (Kept.refl _ _)
  obtain ⟨F, hF⟩ : ∃ F, F = fs.length := ⟨_, rfl⟩
  rw [← hF] at e hf1
  subst e
  have FF := Lib.hid hF
  unfold maxLen at hf2
  clear h hc hBw hN h5 hv hF
  go_enter Try.func13, Try.ntmps13
  go_wp2_with fail
  go_loopg [5, 6] N (fun gg sn si wr => ∃ (i : Nat) (lv' : Value), i ≤ N ∧ gg = N - i ∧ si = .int .i64 i ∧ sn = .int .i64 (crN fs (s.cache.take i) : Int) ∧ Hid (Mid B w x bv lv (.slice ak N ck) lv' { s with laid := s.laid ++ crL (fateAt fs) 0 (s.cache.take i) } wr))
  case atStart => exact ⟨0, lv, Nat.zero_le _, rfl, rfl, rfl, Lib.hid (by rw [List.take_zero]; show Mid _ _ _ _ _ _ _ { s with laid := s.laid ++ [] } _; rw [List.append_nil]; exact Mid.start H.out (Kept.refl _ _))⟩
  case round =>
    obtain ⟨i, lv', hi, hg, rfl, rfl, S⟩ := hrel
    have G := Lib.hid hg
    clear hg
    have p3 : wr.cell? ⟨x, 3, none⟩ = some (.slice ak N ck) := S.out.rd.cell 3
    by_cases hgo : i < N ∧ i < F
    · have h1 : (i : Int) < (N : Int) := by omega
      have h2 : (i : Int) < (F : Int) := by omega
      obtain ⟨g, o, rfl, c0, c1, c2⟩ := kly_at (S.out.rd.cache.row okLy) i (by show i < s.cache.length; rw [← NN.out]; exact hgo.1)
      have my : s.cache.getD i kLy.z ∈ s.cache := by
        rw [List.getD_eq_getElem?_getD, List.getElem?_eq_getElem (by rw [← NN.out]; exact hgo.1)]
        exact List.getElem_mem _
      have tk := take_one s.cache i kLy.z (by rw [← NN.out]; exact hgo.1)
      obtain ⟨y, hy⟩ : ∃ y, y = s.cache.getD i kLy.z := ⟨_, rfl⟩
      have OY := Lib.hid (S.out.rd.lc _ my)
      have L5 := Lib.hid (H5.out _ my)
      simp only [← hy] at c0 c1 c2 OY L5
      obtain ⟨yb, ya, yad, ycap, yl⟩ := y
      simp only at L5
      obtain ⟨ug, ucap, ev, hu1, hu2, _, _⟩ := own_shape OY.out.own (by show 0 < yl.length; rw [L5.out]; decide)
      unfold Ly.v at ev c2
      simp only at ev c0 c1 c2
      simp only [Value.slice.injEq, true_and] at ev
      obtain ⟨rfl, rfl⟩ := ev
      rw [L5.out] at c2
      simp only at hu1
      rw [L5.out] at hu1
      unfold maxLen at hu2
      obtain ⟨af', cf', ef, _, _, _, hfc⟩ := HV.out wr S.out.kept
      simp only [Value.slice.injEq] at ef
      obtain ⟨rfl, -, rfl⟩ := ef
      obtain ⟨bf, fo, rfl, d0, d1⟩ := hfc i (by rw [← FF.out]; exact hgo.2)
      have KF : Hid (fateAt fs i = fs.getD i (0, 0)) := Lib.hid rfl
      obtain ⟨kd, hkd⟩ : ∃ kd, kd = (fs.getD i (0, 0)).1 := ⟨_, rfl⟩
      obtain ⟨fa, hfa⟩ : ∃ fa, fa = (fs.getD i (0, 0)).2 := ⟨_, rfl⟩
      rw [← hkd] at d0
      rw [← hfa] at d1
      have KN : Hid (keptN (fateAt fs i) = keptN (kd, fa)) := Lib.hid (by rw [KF.out, hkd, hfa])
      have TK : Hid (crL (fateAt fs) 0 (s.cache.take (i + 1)) = crL (fateAt fs) 0 (s.cache.take i) ++ (if (keptN (kd, fa)).2 = true then [⟨yb, ya, some ⟨ug, 0, none⟩, ycap, yl.take (keptN (kd, fa)).1⟩] else [])) := Lib.hid (by
        rw [tk, ← hy, crL_snoc]
        have el : 0 + (s.cache.take i).length = i := by rw [List.length_take, Nat.zero_add]; have := NN.out; omega
        rw [el, KN.out])
      have LC : Hid (crN fs (s.cache.take i) ≤ i) := Lib.hid (by
        unfold crN
        refine Nat.le_trans (crL_length _ _ _) ?_
        rw [List.length_take]; omega)
      have hi8 : i < 1200000000000 := by have := HC.out; have := NN.out; omega
      have LE : Hid (((s.laid ++ crL (fateAt fs) 0 (s.cache.take i)).length + 1) * kLy.b ≤ 140737488355328) := Lib.hid (by
        rw [List.length_append]
        show (_ + 1) * 40 ≤ _
        have h1 : (crL (fateAt fs) 0 (s.cache.take i)).length ≤ i := LC.out
        have := HC.out
        omega)
      have CN : Hid (crN fs (s.cache.take (i + 1)) = crN fs (s.cache.take i) + (if (keptN (kd, fa)).2 = true then 1 else 0)) := Lib.hid (by
        unfold crN
        rw [TK.out, List.length_append]
        split <;> rfl)
      obtain ⟨X, hX⟩ : ∃ X, X = wr.alloc (.cells #[.int .i64 (yb : Int), .int .i64 (ya : Int), .slice (some ⟨ug, 0, none⟩) 512 ycap] 77) := ⟨_, rfl⟩
      have BX : Hid (Below wr.heap.size wr X) := Lib.hid (by rw [hX]; exact (Below.refl _ _).alloc (Nat.le_refl _) _)
      have gX : Hid (X.heap[wr.heap.size]? = some (.cells #[.int .i64 (yb : Int), .int .i64 (ya : Int), .slice (some ⟨ug, 0, none⟩) 512 ycap] 77 (0, 0))) := Lib.hid (by rw [hX, heap_alloc_new])
      have x2 : X.cell? ⟨wr.heap.size, 2, none⟩ = some (.slice (some ⟨ug, 0, none⟩) 512 ycap) := cell_of_row _ _ 2 _ _ _ gX.out
      have xf2 : X.frozen? ⟨wr.heap.size, 2, none⟩ = false := frozen_of_row _ _ 2 _ _ gX.out
      have e0 : X.cell? ⟨bf, fo + i * 2, none⟩ = some (.int .i64 kd) := (BX.out.cell (block_lt_of_cell d0)).trans d0
      have e1 : X.cell? ⟨bf, fo + i * 2 + 1, none⟩ = some (.int .i64 fa) := (BX.out.cell (block_lt_of_cell d1)).trans d1
      have hX' := hX.symm
      obtain ⟨cn, hcn⟩ : ∃ cn, cn = crN fs (s.cache.take i) := ⟨_, rfl⟩
      obtain ⟨L, hL⟩ : ∃ L, L = crL (fateAt fs) 0 (s.cache.take i) := ⟨_, rfl⟩
      rw [← hL] at S TK LE
      rw [← hcn] at CN LC ⊢
      have hcn8 : cn < 1200000000000 := by have := LC.out; omega
      have X2 : Hid (∀ A, A ≤ 512 → ∃ Y, X.setCell ⟨wr.heap.size, 2, none⟩ (.slice (some ⟨ug, 0, none⟩) A ycap) = Y ∧ Hid (Mid B w x bv lv (.slice (some ⟨g, o, none⟩) N ck) lv' { s with laid := s.laid ++ L } Y ∧ LyOk B Y s.n ⟨yb, ya, some ⟨ug, 0, none⟩, ycap, yl.take A⟩ ∧ Y.heap[wr.heap.size]? = some (.cells #[.int .i64 (yb : Int), .int .i64 (ya : Int), .slice (some ⟨ug, 0, none⟩) A ycap] 77 (0, 0)))) := Lib.hid (fun A hA => by
        have bY : Below wr.heap.size wr (X.setCell ⟨wr.heap.size, 2, none⟩ (.slice (some ⟨ug, 0, none⟩) A ycap)) := BX.out.setCell (p := ⟨wr.heap.size, 2, none⟩) (Nat.le_refl _) _
        refine ⟨_, rfl, Lib.hid ⟨S.out.below bY, ?_, ?_⟩⟩
        · have h0 : LyOk B (X.setCell ⟨wr.heap.size, 2, none⟩ (.slice (some ⟨ug, 0, none⟩) A ycap)) s.n ⟨yb, ya, some ⟨ug, 0, none⟩, ycap, yl⟩ := ⟨OY.out.own.below bY, OY.out.b, OY.out.a⟩
          exact h0.cut (by rw [L5.out]; exact hA)
        · rw [heap_setCell_same _ _ _ _ _ _ gX.out]
          rfl)
      have KD : Hid (i + 1 ≤ N) := Lib.hid hgo.1
      clear tk hy my hX hkd hfa hgo d0 d1 hfc hL hcn
      by_cases k1 : kd = 1
      · subst k1
        obtain ⟨Y, hY, MY⟩ := X2.out 512 (by omega)
        have LA : Hid ((yl.take 512).length = 512) := Lib.hid (by rw [List.length_take, L5.out]; omega)
        have MD : Hid (Mid B w x bv lv (.slice (some ⟨g, o, none⟩) N ck) lv' { s with laid := s.laid ++ L } Y.drew) := Lib.hid (MY.out.1.below (Below.refl _ _).drew)
        have OD : Hid (LyOk B Y.drew s.n ⟨yb, ya, some ⟨ug, 0, none⟩, ycap, yl.take 512⟩) := Lib.hid ⟨MY.out.2.1.own.below (Below.refl _ _).drew, MY.out.2.1.b, MY.out.2.1.a⟩
        have z0 : Y.cell? ⟨wr.heap.size, 0, none⟩ = some (.int .i64 (yb : Int)) := cell_of_row _ _ 0 _ _ _ MY.out.2.2
        have z1 : Y.cell? ⟨wr.heap.size, 1, none⟩ = some (.int .i64 (ya : Int)) := cell_of_row _ _ 1 _ _ _ MY.out.2.2
        have z2 : Y.cell? ⟨wr.heap.size, 2, none⟩ = some (.slice (some ⟨ug, 0, none⟩) 512 ycap) := cell_of_row _ _ 2 _ _ _ MY.out.2.2
        have v2 : Y.cell? ⟨x, 2, none⟩ = some lv' := MY.out.1.rd.cell 2
        have v3 : (Y.alloc (.cells #[.int .i64 (yb : Int), .int .i64 (ya : Int), .slice (some ⟨ug, 0, none⟩) 512 ycap] 77)).cell? ⟨x, 2, none⟩ = some lv' := (MY.out.1.below ((Below.refl _ _).alloc (Nat.le_refl _) _)).rd.cell 2
        have v4 : (Y.drew.alloc (.cells #[.int .i64 (yb : Int), .int .i64 (ya : Int), .slice (some ⟨ug, 0, none⟩) 512 ycap] 77)).cell? ⟨x, 2, none⟩ = some lv' := (MD.out.below ((Below.refl _ _).alloc (Nat.le_refl _) _)).rd.cell 2
        have SB : Hid (B ≤ Y.drew.heap.size) := Lib.hid (Nat.le_trans HB.out MD.out.kept.size)
        have EN : Hid (crL (fateAt fs) 0 (s.cache.take (i + 1)) = L ++ [⟨yb, ya, some ⟨ug, 0, none⟩, ycap, yl.take 512⟩] ∧ crN fs (s.cache.take (i + 1)) = cn + 1) := Lib.hid (by
          have hk : keptN (1, fa) = (512, true) := by rfl
          refine ⟨by rw [TK.out, hk]; rfl, by rw [CN.out, hk]; rfl⟩)
        clear MY X2 S BX gX
        go_wp2_with fail
        go_region_law (
          refine step_app1 okLy rfl (.tmp 60) (.tmp 62) rfl (B := B) (w := Y.drew) (v := lv') (L := s.laid ++ L) rfl MD.out.rd.laid SB.out ⟨yb, ya, some ⟨ug, 0, none⟩, ycap, yl.take 512⟩ (by show _ = #[_, _, Value.slice (some ⟨ug, 0, none⟩) (yl.take 512).length ycap]; rw [LA.out]) rfl rfl LE.out ?_
          intro a7 n7 c7 w7 q7
          have Z7 := Lib.hid (MD.out.add q7.out.1 q7.out.2.1 q7.out.2.2 OD.out)
          have t1 := Z7.out.2.1
          have t2 := Z7.out.2.2
          clear q7)
        all_goals
          clear p3 c0 c1 c2 x2 xf2 e0 e1 hX' hY z0 z1 z2 v2 v3 v4 t1 t2
          go_wp2_with fail
          go_roundg (N - (i + 1))
          case measure => have := G.out; have := KD.out; omega
          case rel => exact ⟨i + 1, _, KD.out, rfl, by go_num, by rw [EN.out.2]; go_num, Lib.hid (by rw [EN.out.1, ← List.append_assoc]; exact Z7.out.1)⟩
      · have g1 : (kd == 1) = false := by rw [beq_eq_false_iff_ne]; exact k1
        by_cases k2 : kd = 2
        · subst k2
          by_cases f0 : fa < 0
          · have q1 : decide (fa < 0) = true := decide_eq_true f0
            obtain ⟨Y, hY, MY⟩ := X2.out 0 (by omega)
            have LA : Hid ((yl.take 0).length = 0) := Lib.hid (by rw [List.length_take, L5.out]; omega)
            have MD : Hid (Mid B w x bv lv (.slice (some ⟨g, o, none⟩) N ck) lv' { s with laid := s.laid ++ L } Y.drew) := Lib.hid (MY.out.1.below (Below.refl _ _).drew)
            have OD : Hid (LyOk B Y.drew s.n ⟨yb, ya, some ⟨ug, 0, none⟩, ycap, yl.take 0⟩) := Lib.hid ⟨MY.out.2.1.own.below (Below.refl _ _).drew, MY.out.2.1.b, MY.out.2.1.a⟩
            have z0 : Y.cell? ⟨wr.heap.size, 0, none⟩ = some (.int .i64 (yb : Int)) := cell_of_row _ _ 0 _ _ _ MY.out.2.2
            have z1 : Y.cell? ⟨wr.heap.size, 1, none⟩ = some (.int .i64 (ya : Int)) := cell_of_row _ _ 1 _ _ _ MY.out.2.2
            have z2 : Y.cell? ⟨wr.heap.size, 2, none⟩ = some (.slice (some ⟨ug, 0, none⟩) 0 ycap) := cell_of_row _ _ 2 _ _ _ MY.out.2.2
            have v2 : Y.cell? ⟨x, 2, none⟩ = some lv' := MY.out.1.rd.cell 2
            have v3 : (Y.alloc (.cells #[.int .i64 (yb : Int), .int .i64 (ya : Int), .slice (some ⟨ug, 0, none⟩) 0 ycap] 77)).cell? ⟨x, 2, none⟩ = some lv' := (MY.out.1.below ((Below.refl _ _).alloc (Nat.le_refl _) _)).rd.cell 2
            have v4 : (Y.drew.alloc (.cells #[.int .i64 (yb : Int), .int .i64 (ya : Int), .slice (some ⟨ug, 0, none⟩) 0 ycap] 77)).cell? ⟨x, 2, none⟩ = some lv' := (MD.out.below ((Below.refl _ _).alloc (Nat.le_refl _) _)).rd.cell 2
            have SB : Hid (B ≤ Y.drew.heap.size) := Lib.hid (Nat.le_trans HB.out MD.out.kept.size)
            have EN : Hid (crL (fateAt fs) 0 (s.cache.take (i + 1)) = L ++ [⟨yb, ya, some ⟨ug, 0, none⟩, ycap, yl.take 0⟩] ∧ crN fs (s.cache.take (i + 1)) = cn + 1) := Lib.hid (by
              have hk : keptN (2, fa) = (0, true) := by simp [keptN]; omega
              refine ⟨by rw [TK.out, hk]; rfl, by rw [CN.out, hk]; rfl⟩)
            clear MY X2 S BX gX
            go_wp2_with fail
            go_region_law (
              refine step_app1 okLy rfl (.tmp 60) (.tmp 62) rfl (B := B) (w := Y.drew) (v := lv') (L := s.laid ++ L) rfl MD.out.rd.laid SB.out ⟨yb, ya, some ⟨ug, 0, none⟩, ycap, yl.take 0⟩ (by show _ = #[_, _, Value.slice (some ⟨ug, 0, none⟩) (yl.take 0).length ycap]; rw [LA.out]) rfl rfl LE.out ?_
              intro a7 n7 c7 w7 q7
              have Z7 := Lib.hid (MD.out.add q7.out.1 q7.out.2.1 q7.out.2.2 OD.out)
              have t1 := Z7.out.2.1
              have t2 := Z7.out.2.2
              clear q7)
            all_goals
              clear p3 c0 c1 c2 x2 xf2 e0 e1 hX' hY z0 z1 z2 v2 v3 v4 t1 t2
              go_wp2_with fail
              go_roundg (N - (i + 1))
              case measure => have := G.out; have := KD.out; omega
              case rel => exact ⟨i + 1, _, KD.out, rfl, by go_num, by rw [EN.out.2]; go_num, Lib.hid (by rw [EN.out.1, ← List.append_assoc]; exact Z7.out.1)⟩
          · by_cases f5 : 512 < fa
            · have q1 : decide (fa < 0) = false := decide_eq_false f0
              have q2 : decide (fa > 512) = true := decide_eq_true f5
              obtain ⟨Y, hY, MY⟩ := X2.out 512 (by omega)
              have LA : Hid ((yl.take 512).length = 512) := Lib.hid (by rw [List.length_take, L5.out]; omega)
              have MD : Hid (Mid B w x bv lv (.slice (some ⟨g, o, none⟩) N ck) lv' { s with laid := s.laid ++ L } Y.drew) := Lib.hid (MY.out.1.below (Below.refl _ _).drew)
              have OD : Hid (LyOk B Y.drew s.n ⟨yb, ya, some ⟨ug, 0, none⟩, ycap, yl.take 512⟩) := Lib.hid ⟨MY.out.2.1.own.below (Below.refl _ _).drew, MY.out.2.1.b, MY.out.2.1.a⟩
              have z0 : Y.cell? ⟨wr.heap.size, 0, none⟩ = some (.int .i64 (yb : Int)) := cell_of_row _ _ 0 _ _ _ MY.out.2.2
              have z1 : Y.cell? ⟨wr.heap.size, 1, none⟩ = some (.int .i64 (ya : Int)) := cell_of_row _ _ 1 _ _ _ MY.out.2.2
              have z2 : Y.cell? ⟨wr.heap.size, 2, none⟩ = some (.slice (some ⟨ug, 0, none⟩) 512 ycap) := cell_of_row _ _ 2 _ _ _ MY.out.2.2
              have v2 : Y.cell? ⟨x, 2, none⟩ = some lv' := MY.out.1.rd.cell 2
              have v3 : (Y.alloc (.cells #[.int .i64 (yb : Int), .int .i64 (ya : Int), .slice (some ⟨ug, 0, none⟩) 512 ycap] 77)).cell? ⟨x, 2, none⟩ = some lv' := (MY.out.1.below ((Below.refl _ _).alloc (Nat.le_refl _) _)).rd.cell 2
              have v4 : (Y.drew.alloc (.cells #[.int .i64 (yb : Int), .int .i64 (ya : Int), .slice (some ⟨ug, 0, none⟩) 512 ycap] 77)).cell? ⟨x, 2, none⟩ = some lv' := (MD.out.below ((Below.refl _ _).alloc (Nat.le_refl _) _)).rd.cell 2
              have SB : Hid (B ≤ Y.drew.heap.size) := Lib.hid (Nat.le_trans HB.out MD.out.kept.size)
              have EN : Hid (crL (fateAt fs) 0 (s.cache.take (i + 1)) = L ++ [⟨yb, ya, some ⟨ug, 0, none⟩, ycap, yl.take 512⟩] ∧ crN fs (s.cache.take (i + 1)) = cn + 1) := Lib.hid (by
                have hk : keptN (2, fa) = (512, true) := by simp [keptN]; omega
                refine ⟨by rw [TK.out, hk]; rfl, by rw [CN.out, hk]; rfl⟩)
              clear MY X2 S BX gX
              go_wp2_with fail
              go_region_law (
                refine step_app1 okLy rfl (.tmp 60) (.tmp 62) rfl (B := B) (w := Y.drew) (v := lv') (L := s.laid ++ L) rfl MD.out.rd.laid SB.out ⟨yb, ya, some ⟨ug, 0, none⟩, ycap, yl.take 512⟩ (by show _ = #[_, _, Value.slice (some ⟨ug, 0, none⟩) (yl.take 512).length ycap]; rw [LA.out]) rfl rfl LE.out ?_
                intro a7 n7 c7 w7 q7
                have Z7 := Lib.hid (MD.out.add q7.out.1 q7.out.2.1 q7.out.2.2 OD.out)
                have t1 := Z7.out.2.1
                have t2 := Z7.out.2.2
                clear q7)
              all_goals
                clear p3 c0 c1 c2 x2 xf2 e0 e1 hX' hY z0 z1 z2 v2 v3 v4 t1 t2
                go_wp2_with fail
                go_roundg (N - (i + 1))
                case measure => have := G.out; have := KD.out; omega
                case rel => exact ⟨i + 1, _, KD.out, rfl, by go_num, by rw [EN.out.2]; go_num, Lib.hid (by rw [EN.out.1, ← List.append_assoc]; exact Z7.out.1)⟩
            · have q1 : decide (fa < 0) = false := decide_eq_false f0
              have q2 : decide (fa > 512) = false := decide_eq_false (by omega)
              obtain ⟨A, rfl⟩ : ∃ A : Nat, fa = (A : Int) := ⟨fa.toNat, by omega⟩
              have hA5 : A ≤ 512 := by omega
              have hAc : (A : Int) ≤ (ycap : Int) := by omega
              have hA0 : (0 : Int) ≤ (A : Int) := by omega
              obtain ⟨Y, hY, MY⟩ := X2.out A (by omega)
              have LA : Hid ((yl.take A).length = A) := Lib.hid (by rw [List.length_take, L5.out]; omega)
              have MD : Hid (Mid B w x bv lv (.slice (some ⟨g, o, none⟩) N ck) lv' { s with laid := s.laid ++ L } Y.drew) := Lib.hid (MY.out.1.below (Below.refl _ _).drew)
              have OD : Hid (LyOk B Y.drew s.n ⟨yb, ya, some ⟨ug, 0, none⟩, ycap, yl.take A⟩) := Lib.hid ⟨MY.out.2.1.own.below (Below.refl _ _).drew, MY.out.2.1.b, MY.out.2.1.a⟩
              have z0 : Y.cell? ⟨wr.heap.size, 0, none⟩ = some (.int .i64 (yb : Int)) := cell_of_row _ _ 0 _ _ _ MY.out.2.2
              have z1 : Y.cell? ⟨wr.heap.size, 1, none⟩ = some (.int .i64 (ya : Int)) := cell_of_row _ _ 1 _ _ _ MY.out.2.2
              have z2 : Y.cell? ⟨wr.heap.size, 2, none⟩ = some (.slice (some ⟨ug, 0, none⟩) A ycap) := cell_of_row _ _ 2 _ _ _ MY.out.2.2
              have v2 : Y.cell? ⟨x, 2, none⟩ = some lv' := MY.out.1.rd.cell 2
              have v3 : (Y.alloc (.cells #[.int .i64 (yb : Int), .int .i64 (ya : Int), .slice (some ⟨ug, 0, none⟩) A ycap] 77)).cell? ⟨x, 2, none⟩ = some lv' := (MY.out.1.below ((Below.refl _ _).alloc (Nat.le_refl _) _)).rd.cell 2
              have v4 : (Y.drew.alloc (.cells #[.int .i64 (yb : Int), .int .i64 (ya : Int), .slice (some ⟨ug, 0, none⟩) A ycap] 77)).cell? ⟨x, 2, none⟩ = some lv' := (MD.out.below ((Below.refl _ _).alloc (Nat.le_refl _) _)).rd.cell 2
              have SB : Hid (B ≤ Y.drew.heap.size) := Lib.hid (Nat.le_trans HB.out MD.out.kept.size)
              have EN : Hid (crL (fateAt fs) 0 (s.cache.take (i + 1)) = L ++ [⟨yb, ya, some ⟨ug, 0, none⟩, ycap, yl.take A⟩] ∧ crN fs (s.cache.take (i + 1)) = cn + 1) := Lib.hid (by
                have hk : keptN (2, (A : Int)) = (A, true) := by simp [keptN]; omega
                refine ⟨by rw [TK.out, hk]; rfl, by rw [CN.out, hk]; rfl⟩)
              clear MY X2 S BX gX
              go_wp2_with fail
              go_region_law (
                refine step_app1 okLy rfl (.tmp 60) (.tmp 62) rfl (B := B) (w := Y.drew) (v := lv') (L := s.laid ++ L) rfl MD.out.rd.laid SB.out ⟨yb, ya, some ⟨ug, 0, none⟩, ycap, yl.take A⟩ (by show _ = #[_, _, Value.slice (some ⟨ug, 0, none⟩) (yl.take A).length ycap]; rw [LA.out]) rfl rfl LE.out ?_
                intro a7 n7 c7 w7 q7
                have Z7 := Lib.hid (MD.out.add q7.out.1 q7.out.2.1 q7.out.2.2 OD.out)
                have t1 := Z7.out.2.1
                have t2 := Z7.out.2.2
                clear q7)
              all_goals
                clear p3 c0 c1 c2 x2 xf2 e0 e1 hX' hY z0 z1 z2 v2 v3 v4 t1 t2
                go_wp2_with fail
                go_roundg (N - (i + 1))
                case measure => have := G.out; have := KD.out; omega
                case rel => exact ⟨i + 1, _, KD.out, rfl, by go_num, by rw [EN.out.2]; go_num, Lib.hid (by rw [EN.out.1, ← List.append_assoc]; exact Z7.out.1)⟩
        · have g2 : (kd == 2) = false := by rw [beq_eq_false_iff_ne]; exact k2
          have EN : Hid (crL (fateAt fs) 0 (s.cache.take (i + 1)) = L ∧ crN fs (s.cache.take (i + 1)) = cn) := Lib.hid (by
            have hk : (keptN (kd, fa)).2 = false := by simp [keptN, k1, k2]
            refine ⟨by rw [TK.out, hk]; simp, by rw [CN.out, hk]; simp⟩)
          have SX := Lib.hid (S.out.below BX.out)
          clear X2 S BX gX k1 k2
          go_wp2_with fail
          go_roundg (N - (i + 1))
          case measure => have := G.out; have := KD.out; omega
          case rel => exact ⟨i + 1, lv', KD.out, rfl, by go_num, by rw [EN.out.2], Lib.hid (by rw [EN.out.1]; exact SX.out)⟩
    · have EN : Hid (crL (fateAt fs) 0 (s.cache.take i) = crL (fateAt fs) 0 s.cache) := Lib.hid (by
        have e := crL_app (fateAt fs) (s.cache.take i) (s.cache.drop i) 0
        rw [List.take_append_drop] at e
        rw [e]
        rcases Nat.lt_or_ge i N with q | q
        · rw [crL_none (fateAt fs) (s.cache.drop i) (0 + (s.cache.take i).length) (fun j hj => ?_), List.append_nil]
          have hj' : F ≤ j := by
            rw [List.length_take, ← NN.out] at hj
            omega
          unfold fateAt
          rw [List.getD_eq_getElem?_getD, List.getElem?_eq_none (by rw [← FF.out]; exact hj')]
          rfl
        · rw [List.drop_eq_nil_of_le (by rw [← NN.out]; exact q)]
          simp [crL])
      have EC : Hid (crN fs (s.cache.take i) = crN fs s.cache) := Lib.hid (by unfold crN; rw [EN.out])
      have hne : (decide ((i : Int) < (N : Int)) && decide ((i : Int) < (F : Int))) = false := by
        rw [Bool.and_eq_false_iff, decide_eq_false_iff_not, decide_eq_false_iff_not]
        omega
      have f3 : wr.frozen? ⟨x, 3, none⟩ = false := S.out.rd.free 3
      have CL := Lib.hid S.out.clear
      obtain ⟨Y, hY⟩ : ∃ Y, Y = wr.setCell ⟨x, 3, none⟩ (.slice none 0 0) := ⟨_, rfl⟩
      rw [← hY] at CL
      have hY' := hY.symm
      have d6 : Y.cell? ⟨x, 6, none⟩ = some (.bool s.off) := CL.out.1.cell 6
      have d6f : Y.frozen? ⟨x, 6, none⟩ = false := CL.out.1.free 6
      obtain ⟨Z, hZ⟩ : ∃ Z, Z = Y.setCell ⟨x, 6, none⟩ (.bool false) := ⟨_, rfl⟩
      have RZ : Hid (Rd B Z x bv lv' (.slice none 0 0) { s with laid := s.laid ++ crL (fateAt fs) 0 (s.cache.take i), cache := [], off := false } ∧ Kept (fun k => k = x) Y Z) := Lib.hid ⟨by rw [hZ]; exact CL.out.1.set 6 _ _ rfl rfl rfl rfl rfl, by rw [hZ]; exact kept_set Y _ _ rfl⟩
      have hZ' := hZ.symm
      have d4 : Z.cell? ⟨x, 4, none⟩ = some (.bool s.armed) := RZ.out.1.cell 4
      have d4f : Z.frozen? ⟨x, 4, none⟩ = false := RZ.out.1.free 4
      have FIN : Hid (RL B w x bv lv (.slice ak N ck) (Z.setCell ⟨x, 4, none⟩ (.bool false)) (crR s fs)) := Lib.hid (by
        refine RL.trans CL.out.2.1 CL.out.2.2 (RL.trans (lv' := lv') (kv' := .slice none 0 0) (RZ.out.2.mono (fun _ _ e => .inl e)) (fun _ e => .inl e) (RL.self ?_ (kept_set Z _ _ rfl)))
        have := RZ.out.1.set 4 (.bool false) { s with laid := s.laid ++ crL (fateAt fs) 0 (s.cache.take i), cache := [], off := false, armed := false } rfl rfl rfl rfl rfl
        rw [EN.out] at this
        exact this)
      clear hY hZ CL RZ
      by_cases hiN : i < N
      · have q1 : decide ((i : Int) < (N : Int)) = true := decide_eq_true (by omega)
        have q2 : decide ((i : Int) < (F : Int)) = false := decide_eq_false (by omega)
        clear hne
        go_wp2_with fail
        go_ret
        rw [EC.out]
        exact ⟨rfl, FIN.out⟩
      · have q1 : decide ((i : Int) < (N : Int)) = false := decide_eq_false (by omega)
        clear hne
        go_wp2_with fail
        go_ret
        rw [EC.out]
        exact ⟨rfl, FIN.out⟩
end Rf
end Go.Proofs.Ytbdlebengmbooaa
end S0

section S1
namespace Go.Proofs.Ytbdlebengmbooaa
open Go.RowKit Go.Maps
namespace Rf
variable {B B' n : Nat} {w w' w1 w7 : World} {x : Nat} {bv lv kv v7 : Value} {s s' : RD} {y : Ly}
/-- Layings over a medium. -/
def layL (m : List UInt8) (L : List Ly) : List UInt8 := L.foldl (fun m y => splice m (512 * y.b + y.a) y.l) m
theorem layL_snoc (m : List UInt8) (L : List Ly) (y : Ly) : layL m (L ++ [y]) = splice (layL m L) (512 * y.b + y.a) y.l := by simp [layL]
theorem layL_app (m : List UInt8) (L K : List Ly) : layL m (L ++ K) = layL (layL m L) K := by simp [layL]
theorem layL_length {k : Nat} (L : List Ly) : ∀ m : List UInt8, m.length = 512 * k → (∀ y ∈ L, y.b < k ∧ y.a + y.l.length ≤ 512) → (layL m L).length = 512 * k := by
  induction L with
  | nil => intro m h _; exact h
  | cons y L ih =>
    intro m h hy
    have := hy y (by simp)
    exact ih _ (by rw [length_splice _ _ _ (by omega)]; exact h) (fun z hz => hy z (by simp [hz]))
def base0 (s : RD) : List UInt8 := if s.base = [] then List.replicate (512 * s.n) 0 else s.base
theorem base0_length (h : s.base = [] ∨ s.base.length = 512 * s.n) : (base0 s).length = 512 * s.n := by
  unfold base0
  split
  · rw [List.length_replicate]
  · rcases h with h | h
    · exact absurd h (by assumption)
    · exact h
def medR (s : RD) : List UInt8 := layL (base0 s) s.laid
set_option maxHeartbeats 16000000 in
set_option maxRecDepth 100000 in
theorem rmed_any (h : Rd B w x bv lv kv s) :
    Calls Try.prog 23 #[.pointer (some ⟨x, 0, none⟩)] w fun e w' => ∃ v, e = .returned v ∧ Own w.heap.size w' v (medR s) ∧ Below w.heap.size w w' := by
  have H := Lib.hid h
  have HN := Lib.hid h.n
  have BL := Lib.hid (base0_length h.bl)
  obtain ⟨T, hT⟩ : ∃ T, T = 512 * s.n := ⟨_, rfl⟩
  have TT := Lib.hid hT
  have hT4 : T ≤ 2097152 := by rw [hT]; have := h.n.2; omega
  obtain ⟨Y, hY⟩ : ∃ Y, Y = w.alloc (.cells (madeCells #[.int .u8 0] T) 5) := ⟨_, rfl⟩
  obtain ⟨g, hg⟩ : ∃ g, g = w.heap.size := ⟨_, rfl⟩
  have hmk : (Instr.makeSlice 35 (.int .i64 (T : Int)) (.int .i64 (T : Int))).run Try.prog w = .ok (.slice (some ⟨g, 0, none⟩) T T) Y := by rw [hY, hg]; exact make_bytes w T T rfl rfl (Nat.le_refl _) (by omega)
  have BY : Hid (Below w.heap.size w Y) := Lib.hid (by rw [hY]; exact (Below.refl _ _).alloc (Nat.le_refl _) _)
  have OY : Hid (Own w.heap.size Y (.slice (some ⟨g, 0, none⟩) T T) (List.replicate T 0)) := Lib.hid (own_of (by rw [hY, hg, heap_alloc_new, made_zeros]) (by omega) (by rw [List.length_replicate]) (by unfold maxLen; omega))
  have GG := Lib.hid hg
  have p0 : w.cell? ⟨x, 0, none⟩ = some (.int .i64 (s.n : Int)) := h.cell 0
  have w0 : IntKind.i64.wrap ((s.n : Int) * 512) = (T : Int) := by rw [IntKind.wrap_i64, hT]; have := h.n.2; omega
  have w0' : wrap64 ((s.n : Int) * 512) = (T : Int) := by unfold wrap64; rw [hT]; have := h.n.2; omega
  obtain ⟨ab, cb, eb, hb1, hb2⟩ := h.base.bytes.len
  obtain ⟨M, hM⟩ : ∃ M, M = s.base.length := ⟨_, rfl⟩
  rw [← hM] at eb hb1
  obtain ⟨al, cl, el, hl1, hl2⟩ := (h.laid.row okLy).len
  obtain ⟨N, hN⟩ : ∃ N, N = s.laid.length := ⟨_, rfl⟩
  rw [← hN] at el hl1
  subst eb el
  have MM := Lib.hid hM
  have NN := Lib.hid hN
  have MT : Hid (M = 0 ∨ M = T) := Lib.hid (by
    rw [hM, hT]
    rcases h.bl with q | q
    · exact .inl (by rw [q]; rfl)
    · exact .inr q)
  have B0 : Hid (splice (List.replicate T 0) 0 s.base = base0 s) := Lib.hid (by
    unfold base0
    split
    · rw [hT]
      have : s.base = [] := by assumption
      rw [this, splice_nil]
    · rcases h.bl with q | q
      · exact absurd q (by assumption)
      · exact splice_all _ _ (by rw [List.length_replicate, q, hT]))
  unfold maxLen at hb2 hl2
  rw [← hg]
  clear h hT hY hg hM hN
  go_enter Try.func23, Try.ntmps23
  go_wp2_with fail
  clear hmk p0 w0 w0'
  go_loopg [4] M (fun gg si wr => ∃ (i : Nat), i ≤ M ∧ gg = M - i ∧ si = .int .i64 i ∧ Hid (Own w.heap.size wr (.slice (some ⟨g, 0, none⟩) T T) (splice (List.replicate T 0) 0 (s.base.take i)) ∧ Below w.heap.size w wr))
  case atStart => exact ⟨0, Nat.zero_le _, rfl, rfl, Lib.hid ⟨by rw [List.take_zero, splice_nil]; exact OY.out, BY.out⟩⟩
  case round =>
    obtain ⟨i, hi, hgk, rfl, S⟩ := hrel
    have G := Lib.hid hgk
    clear hgk
    have p1 : wr.cell? ⟨x, 1, none⟩ = some (.slice ab M cb) := (H.out.below S.out.2).cell 1
    by_cases hlt : i < M
    · have hlt' : (i : Int) < (M : Int) := by omega
      have hiT : (i : Int) < (T : Int) := by rcases MT.out with q | q <;> omega
      obtain ⟨ba, bo, bc, e, _, _, cu⟩ := own_at (H.out.below S.out.2).base i (by rw [← MM.out]; exact hlt)
      simp only [Value.slice.injEq] at e
      obtain ⟨rfl, -, rfl⟩ := e
      have LS : Hid (s.base.length ≤ T) := Lib.hid (by rw [← MM.out]; rcases MT.out with q | q <;> omega)
      obtain ⟨⟨u, hc1⟩, hc2, hS⟩ := own_set S.out.1 i (s.base.getD i 0) (by rw [length_splice _ _ _ (by rw [List.length_take, List.length_replicate]; have := LS.out; omega), List.length_replicate]; omega)
      have e2 := splice_moreA (List.replicate T 0) s.base 0 i (by rw [← MM.out]; exact hlt) (by rw [List.length_replicate]; have := LS.out; omega)
      rw [Nat.zero_add] at e2
      rw [e2] at hS
      obtain ⟨z, hz⟩ : ∃ z, z = c8 (s.base.getD i 0) := ⟨_, rfl⟩
      rw [← hz] at cu hS
      have SS := Lib.hid hS
      clear hS hz e2
      go_wp2_with fail
      go_roundg (M - (i + 1))
      case measure => have := G.out; omega
      case rel => exact ⟨i + 1, by omega, rfl, by go_num, Lib.hid ⟨SS.out, S.out.2.setCell (p := ⟨g, i, none⟩) (by show _ ≤ g; rw [GG.out]; exact Nat.le_refl _) _⟩⟩
    · have SB : Hid (Own w.heap.size wr (.slice (some ⟨g, 0, none⟩) T T) (base0 s) ∧ Below w.heap.size w wr) := Lib.hid ⟨by
        have := S.out.1
        rw [List.take_of_length_le (by rw [← MM.out]; omega), B0.out] at this
        exact this, S.out.2⟩
      clear S
      go_wp2_with fail
      clear p1
      go_loopg [5] N (fun gg si wr => ∃ (i : Nat), i ≤ N ∧ gg = N - i ∧ si = .int .i64 i ∧ Hid (Own w.heap.size wr (.slice (some ⟨g, 0, none⟩) T T) (layL (base0 s) (s.laid.take i)) ∧ Below w.heap.size w wr))
      case atStart => exact ⟨0, Nat.zero_le _, rfl, rfl, Lib.hid ⟨SB.out.1, SB.out.2⟩⟩
      case round =>
        clear SB G
        obtain ⟨k, hk, hgk, rfl, S⟩ := hrel
        have G := Lib.hid hgk
        clear hgk
        have p2 : wr.cell? ⟨x, 2, none⟩ = some (.slice al N cl) := (H.out.below S.out.2).cell 2
        by_cases hlt2 : k < N
        · have hlt2' : (k : Int) < (N : Int) := by omega
          have RB := H.out.below S.out.2
          obtain ⟨lb, lo, rfl, c0, c1, c2⟩ := kly_at (RB.laid.row okLy) k (by rw [← NN.out]; exact hlt2)
          have my : s.laid.getD k kLy.z ∈ s.laid := by
            rw [List.getD_eq_getElem?_getD, List.getElem?_eq_getElem (by rw [← NN.out]; exact hlt2)]
            exact List.getElem_mem _
          have tk := take_one s.laid k kLy.z (by rw [← NN.out]; exact hlt2)
          obtain ⟨y, hy⟩ : ∃ y, y = s.laid.getD k kLy.z := ⟨_, rfl⟩
          have OK := Lib.hid (RB.ll _ my)
          have CC : Hid (∀ W, Below w.heap.size w W → W.cell? ⟨x, 2, none⟩ = some (.slice (some ⟨lb, lo, none⟩) N cl) ∧ W.cell? ⟨lb, lo + k * 3, none⟩ = some (.int .i64 (y.b : Int)) ∧ W.cell? ⟨lb, lo + k * 3 + 1, none⟩ = some (.int .i64 (y.a : Int)) ∧ W.cell? ⟨lb, lo + k * 3 + 2, none⟩ = some y.v ∧ LyOk B W s.n y) := Lib.hid (fun W hW => by
            have R := H.out.below hW
            obtain ⟨h1, h2, h3⟩ := kly_row (R.laid.row okLy) k (by rw [← NN.out]; exact hlt2) rfl hy
            exact ⟨R.cell 2, h1, h2, h3, by rw [hy]; exact R.ll _ my⟩)
          simp only [← hy] at c0 c1 c2 OK
          have QL : Hid ((layL (base0 s) (s.laid.take k)).length = T) := Lib.hid (by rw [TT.out]; exact layL_length _ _ BL.out (fun z hz => ⟨(RB.ll z (List.mem_of_mem_take hz)).b, (RB.ll z (List.mem_of_mem_take hz)).a⟩))
          have EQ : Hid (layL (base0 s) (s.laid.take (k + 1)) = splice (layL (base0 s) (s.laid.take k)) (512 * y.b + y.a) y.l) := Lib.hid (by rw [tk, ← hy, layL_snoc])
          have LN : Hid (y.a + y.l.length ≤ 512 ∧ y.b < s.n) := Lib.hid ⟨OK.out.a, OK.out.b⟩
          have ycm := OK.out.cap
          obtain ⟨q, hq⟩ : ∃ q, q = layL (base0 s) (s.laid.take k) := ⟨_, rfl⟩
          rw [← hq] at S QL EQ
          clear RB my tk hy hq
          obtain ⟨yb, ya, yad, ycap, yl⟩ := y
          unfold Ly.v at c2 CC
          simp only at c0 c1 c2 CC EQ LN ycm
          obtain ⟨m, hm⟩ : ∃ m, m = yl.length := ⟨_, rfl⟩
          rw [← hm] at c2 CC LN ycm
          have MM2 := Lib.hid hm
          unfold maxLen at ycm
          have hm512 : m ≤ 512 ∧ ya ≤ 512 := by have := LN.out; omega
          obtain ⟨hycap, hycm, _⟩ := ycm
          clear hm c0 c1
          go_wp2_with fail
          go_loopg [6] m (fun gg sj wq => ∃ (j : Nat), j ≤ m ∧ gg = m - j ∧ sj = .int .i64 j ∧ Hid (Own w.heap.size wq (.slice (some ⟨g, 0, none⟩) T T) (splice q (512 * yb + ya) (yl.take j)) ∧ Below w.heap.size w wq))
          case atStart => exact ⟨0, Nat.zero_le _, rfl, rfl, Lib.hid ⟨by rw [List.take_zero, splice_nil]; exact S.out.1, S.out.2⟩⟩
          case round =>
            clear c2 p2
            obtain ⟨j, hj, hgj, rfl, U⟩ := hrel
            have G2 := Lib.hid hgj
            clear hgj
            obtain ⟨d2, d0, d1, dv, ok⟩ := CC.out wr U.out.2
            by_cases hjn : j < m
            · have hjn' : (j : Int) < (m : Int) := by omega
              obtain ⟨ub, uo, eu, cu⟩ := ok.at j (by rw [← MM2.out]; exact hjn)
              simp only at eu cu
              subst eu
              have AB : Hid (512 * yb + ya + j < T ∧ 512 * yb + ya + m ≤ T) := Lib.hid (by have := LN.out; have := TT.out; omega)
              obtain ⟨⟨u, hc1⟩, hc2, hS⟩ := own_set U.out.1 (512 * yb + ya + j) (yl.getD j 0) (by rw [length_splice _ _ _ (by rw [List.length_take, QL.out, ← MM2.out]; have := AB.out; omega), QL.out]; exact AB.out.1)
              rw [splice_moreA _ _ _ _ (by rw [← MM2.out]; exact hjn) (by rw [QL.out, ← MM2.out]; exact AB.out.2)] at hS
              obtain ⟨z, hz⟩ : ∃ z, z = c8 (yl.getD j 0) := ⟨_, rfl⟩
              rw [← hz] at cu hS
              obtain ⟨k1, hk1⟩ : ∃ k1, k1 = 512 * yb := ⟨_, rfl⟩
              obtain ⟨k2, hk2⟩ : ∃ k2, k2 = 512 * yb + ya := ⟨_, rfl⟩
              obtain ⟨k3, hk3⟩ : ∃ k3, k3 = 512 * yb + ya + j := ⟨_, rfl⟩
              have WR : Hid (wrap64 ((yb : Int) * 512) = (k1 : Int) ∧ wrap64 ((k1 : Int) + (ya : Int)) = (k2 : Int) ∧ wrap64 ((k2 : Int) + (j : Int)) = (k3 : Int) ∧ IntKind.i64.wrap ((yb : Int) * 512) = (k1 : Int) ∧ IntKind.i64.wrap ((k1 : Int) + (ya : Int)) = (k2 : Int) ∧ IntKind.i64.wrap ((k2 : Int) + (j : Int)) = (k3 : Int) ∧ (k3 : Int) < (T : Int)) := Lib.hid (by
                have := AB.out
                refine ⟨by unfold wrap64; omega, by unfold wrap64; omega, by unfold wrap64; omega, by rw [IntKind.wrap_i64]; omega, by rw [IntKind.wrap_i64]; omega, by rw [IntKind.wrap_i64]; omega, by omega⟩)
              rw [← hk3] at hc1 hc2 hS
              have SS := Lib.hid hS
              obtain ⟨wr1, wr2, wr3, wr4, wr5, wr6, wr7⟩ := WR.out
              clear hS hz ok hk1 hk2 hk3 hlt
              go_wp2_with fail
              go_region
              all_goals
                go_wp2_with fail
                go_roundg (m - (j + 1))
                case measure => have := G2.out; omega
                case rel => exact ⟨j + 1, by omega, rfl, by go_num, Lib.hid ⟨SS.out, (U.out.2.setCell (p := ⟨g, k3, none⟩) (by show _ ≤ g; rw [GG.out]; exact Nat.le_refl _) _).drew⟩⟩
            · clear d0 d1
              go_wp2_with fail
              go_roundg (N - (k + 1))
              case measure => have := G.out; omega
              case rel => exact ⟨k + 1, by omega, rfl, by go_num, Lib.hid ⟨by rw [EQ.out]; have := U.out.1; rw [List.take_of_length_le (by rw [← MM2.out]; omega)] at this; exact this, U.out.2⟩⟩
        · have e : s.laid.take k = s.laid := List.take_of_length_le (by rw [← NN.out]; omega)
          rw [e] at S
          clear e
          go_wp2_with fail
          go_ret
          have t1 := S.out.1
          have t2 := S.out.2
          rw [← GG.out] at t1 t2
          exact ⟨_, rfl, t1, t2⟩
end Rf
end Go.Proofs.Ytbdlebengmbooaa
end S1

section S2
namespace Go.Proofs.Ytbdlebengmbooaa
open Go.RowKit Go.Maps
namespace Rf
variable {B B' n : Nat} {w w' w1 w7 : World} {x : Nat} {bv lv kv v7 : Value} {s s' : RD} {y : Ly}
end Rf
end Go.Proofs.Ytbdlebengmbooaa
end S2

section S3
namespace Go.Proofs.Ytbdlebengmbooaa
open Go.RowKit Go.Maps
namespace Rf
def tw (y : Ly) : Wt := (y.b, y.l)
/-- The same device. -/
structure Rel (s : DS) (r : RD) : Prop where
  n : r.n = s.n
  bl : r.base = [] ∨ r.base.length = 512 * r.n
  ll : ∀ y ∈ r.laid, y.b < r.n ∧ y.a + y.l.length ≤ 512
  med : medR r = s.med
  cache : r.cache.map tw = s.cache
  c0 : ∀ y ∈ r.cache, y.b < r.n ∧ y.a = 0 ∧ y.l.length = 512
  armed : r.armed = s.armed
  left : s.armed = true → r.left = s.left
  off : r.off = s.down
  cr : r.cr = s.cr
  cw : r.cw = s.cw
  cf : r.cf = s.cf
variable {s : DS} {r : RD}
theorem raw_splice (m : List UInt8) (b c a : Nat) (p : List UInt8) (hp : a + p.length ≤ 512) (h : 512 * b + 512 ≤ m.length) : raw (splice m (512 * b + a) p) c = if b = c then splice (raw m c) a p else raw m c := by
  apply List.ext_getElem?
  intro k
  by_cases hk : k < 512
  · rw [raw_at _ _ _ hk, splice_at _ _ _ (by omega)]
    by_cases e : b = c
    · subst e
      rw [if_pos rfl, splice_at _ _ _ (by rw [raw_length _ _ h]; omega)]
      by_cases h2 : a ≤ k ∧ k < a + p.length
      · rw [if_pos (by omega), if_pos h2]
        congr 1
        omega
      · rw [if_neg (by omega), if_neg h2, raw_at _ _ _ hk]
    · rw [if_neg (by omega), if_neg e, raw_at _ _ _ hk]
  · have n1 : (raw (splice m (512 * b + a) p) c)[k]? = none := by unfold raw; exact List.getElem?_eq_none (by rw [List.length_take]; omega)
    have n2 : (raw m c)[k]? = none := by unfold raw; exact List.getElem?_eq_none (by rw [List.length_take]; omega)
    rw [n1]
    by_cases e : b = c
    · subst e
      rw [if_pos rfl, List.getElem?_eq_none (by rw [length_splice _ _ _ (by rw [raw_length _ _ h]; omega), raw_length _ _ h]; omega)]
    · rw [if_neg e, n2]
theorem raw_layL {n : Nat} (c : Nat) (L : List Ly) : ∀ m : List UInt8, m.length = 512 * n → (∀ y ∈ L, y.b < n ∧ y.a + y.l.length ≤ 512) → raw (layL m L) c = playedL (raw m c) L c := by
  induction L with
  | nil => intro m _ _; rfl
  | cons y L ih =>
    intro m h hy
    have h1 := hy y (by simp)
    have hl : (splice m (512 * y.b + y.a) y.l).length = 512 * n := by rw [length_splice _ _ _ (by omega)]; exact h
    have e := ih _ hl (fun z hz => hy z (by simp [hz]))
    show raw (layL (splice m (512 * y.b + y.a) y.l) L) c = playedL (if y.b = c then splice (raw m c) y.a y.l else raw m c) L c
    rw [e, raw_splice _ _ _ _ _ h1.2 (by omega)]
theorem R0_base (b : Nat) (hb : b < r.n) : R0 r b = raw (base0 r) b := by
  unfold R0 base0
  split
  · apply List.ext_getElem?
    intro k
    by_cases hk : k < 512
    · rw [raw_at _ _ _ hk, List.getElem?_replicate, List.getElem?_replicate, if_pos hk, if_pos (by omega)]
    · rw [List.getElem?_eq_none (by rw [List.length_replicate]; omega)]
      unfold raw
      rw [List.getElem?_eq_none (by rw [List.length_take]; omega)]
  · rfl
theorem Rel.raw (h : Rel s r) (b : Nat) (hb : b < r.n) : rawR r b = Go.Proofs.Ytbdlebengmbooaa.raw s.med b := by
  unfold rawR
  rw [R0_base b hb, ← h.med, medR, raw_layL b r.laid _ (base0_length h.bl) h.ll]
theorem has_same (h : Rel s r) (i : Int) : hasR r i = hasB s i := by unfold hasR hasB; rw [h.n]
theorem snoc_ind {α : Type} {P : List α → Prop} (h0 : P []) (h1 : ∀ l x, P l → P (l ++ [x])) (l : List α) : P l := by
  have : ∀ k, k ≤ l.length → P (l.take k) := fun k => by
    induction k with
    | zero => intro _; simpa using h0
    | succ k ih =>
      intro hk
      have e : l.take (k + 1) = l.take k ++ [l[k]] := by rw [List.take_add_one, List.getElem?_eq_getElem (by omega)]; rfl
      rw [e]
      exact h1 _ _ (ih (by omega))
  simpa using this l.length (Nat.le_refl _)
theorem played_cache (p : List UInt8) (hp : p.length = 512) (b : Nat) (C : List Ly) : (∀ y ∈ C, y.a = 0 ∧ y.l.length = 512) → playedL p C b = match lastIx b (C.map tw) 0 with
    | some i => ((C.map tw).getD i (0, [])).2
    | none => p := by
  refine snoc_ind (P := fun C => (∀ y ∈ C, y.a = 0 ∧ y.l.length = 512) → playedL p C b = match lastIx b (C.map tw) 0 with
    | some i => ((C.map tw).getD i (0, [])).2
    | none => p) (fun _ => rfl) (fun C y ih hy => ?_) C
  have h0 := hy y (by simp)
  have hC : ∀ z ∈ C, z.a = 0 ∧ z.l.length = 512 := fun z hz => hy z (by simp [hz])
  have e := ih hC
  have pl : (playedL p C b).length = 512 := played_length _ _ _ hp (fun z hz => by have := hC z hz; omega)
  rw [played_snoc, List.map_append, List.map_cons, List.map_nil, lastIx_snoc]
  by_cases hb : y.b = b
  · rw [if_pos hb, if_pos (show (tw y).1 = b from hb)]
    simp only [Nat.zero_add]
    rw [List.getD_eq_getElem?_getD, List.getElem?_append_right (Nat.le_refl _), Nat.sub_self]
    show splice (playedL p C b) y.a y.l = y.l
    rw [h0.1]
    exact splice_all _ _ (by rw [pl, h0.2])
  · rw [if_neg hb, if_neg (show ¬ (tw y).1 = b from hb), e]
    cases hl : lastIx b (C.map tw) 0 with
    | none => rfl
    | some i =>
      have := (lastIx_lt b _ 0 i hl).2.1
      simp only
      rw [List.getD_eq_getElem?_getD, List.getD_eq_getElem?_getD, List.getElem?_append_left (by omega)]
theorem Rel.rd (h : Rel s r) (b : Nat) (hb : b < r.n) : rdR r b = rdB s b := by
  have hl : (rawR r b).length = 512 := played_length _ _ _ (R0_length h.bl b hb) (fun y hy => (h.ll y hy).2)
  unfold rdR rdB
  rw [played_cache _ hl b r.cache (fun y hy => (h.c0 y hy).2), h.cache, h.raw b hb]
  cases lastIx b s.cache 0 <;> rfl
theorem read_same (h : Rel s r) (i : Int) : (rrd r i).2 = (rdD s i).2 ∧ Rel (rdD s i).1 (rrd r i).1 := by
  unfold rrd rdD
  rw [has_same h]
  by_cases h1 : hasB s i = false
  · rw [if_pos h1, if_pos h1]; exact ⟨rfl, h⟩
  · rw [if_neg h1, if_neg h1, h.off]
    by_cases h2 : s.down = true
    · rw [if_pos h2, if_pos h2]; exact ⟨rfl, h⟩
    · rw [if_neg h2, if_neg h2]
      have hb : i.toNat < r.n := by
        have : hasR r i = true := by rw [has_same h]; simpa using h1
        obtain ⟨k, rfl, hk⟩ := hasR_nat this
        simpa using hk
      exact ⟨by simp only [h.rd _ hb], h.n, h.bl, h.ll, h.med, h.cache, h.c0, h.armed, h.left, rfl, by show up r.cr = up s.cr; rw [h.cr], h.cw, h.cf⟩
theorem raw_same (h : Rel s r) (i : Int) : rawQ r i = rawD s i := by
  unfold rawQ rawD
  rw [has_same h]
  by_cases h1 : hasB s i = false
  · rw [if_pos h1, if_pos h1]
  · rw [if_neg h1, if_neg h1]
    have hb : i.toNat < r.n := by
      have : hasR r i = true := by rw [has_same h]; simpa using h1
      obtain ⟨k, rfl, hk⟩ := hasR_nat this
      simpa using hk
    rw [h.raw _ hb]
theorem act_rel (h : Rel s r) : ((actD s).2 = if (actR r).2 = true then 0 else 6) ∧ Rel (actD s).1 (actR r).1 := by
  have e1 := h.off
  have e2 := h.armed
  by_cases ha : s.armed = true
  · have el := h.left ha
    by_cases hl : s.left = 0
    · have d : actD s = ({ s with down := true }, 6) := by unfold actD; rw [if_pos (by simp [ha, hl])]
      rw [d]
      by_cases ho : s.down = true
      · have q : actR r = (r, false) := by unfold actR; rw [if_pos (by rw [e1]; exact ho)]
        rw [q]
        exact ⟨rfl, h.n, h.bl, h.ll, h.med, h.cache, h.c0, h.armed, h.left, by rw [e1]; exact ho, h.cr, h.cw, h.cf⟩
      · have q : actR r = ({ r with off := true }, false) := by unfold actR; rw [if_neg (by rw [e1]; exact ho), if_pos (by rw [e2, ha, el, hl]; rfl)]
        rw [q]
        exact ⟨rfl, h.n, h.bl, h.ll, h.med, h.cache, h.c0, h.armed, h.left, rfl, h.cr, h.cw, h.cf⟩
    · by_cases ho : s.down = true
      · have d : actD s = (s, 6) := by unfold actD; rw [if_neg (by simp [hl]), if_pos ho]
        have q : actR r = (r, false) := by unfold actR; rw [if_pos (by rw [e1]; exact ho)]
        rw [d, q]
        exact ⟨rfl, h⟩
      · have d : actD s = ({ s with left := wrap64 (s.left - 1) }, 0) := by unfold actD; rw [if_neg (by simp [hl]), if_neg ho, if_pos ha]
        have q : actR r = ({ r with left := wrap64 (r.left - 1) }, true) := by unfold actR; rw [if_neg (by rw [e1]; exact ho), if_neg (by rw [el]; simp [hl]), if_pos (by rw [e2]; exact ha)]
        rw [d, q]
        exact ⟨rfl, h.n, h.bl, h.ll, h.med, h.cache, h.c0, h.armed, fun _ => by show wrap64 (r.left - 1) = wrap64 (s.left - 1); rw [el], h.off, h.cr, h.cw, h.cf⟩
  · have ha' : r.armed = false := by rw [e2]; simpa using ha
    have ha2 : s.armed = false := by simpa using ha
    by_cases ho : s.down = true
    · have d : actD s = (s, 6) := by unfold actD; rw [if_neg (by simp [ha2]), if_pos ho]
      have q : actR r = (r, false) := by unfold actR; rw [if_pos (by rw [e1]; exact ho)]
      rw [d, q]
      exact ⟨rfl, h⟩
    · have d : actD s = (s, 0) := by unfold actD; rw [if_neg (by simp [ha2]), if_neg ho, if_neg ha]
      have q : actR r = (r, true) := by unfold actR; rw [if_neg (by rw [e1]; exact ho), if_neg (by simp [ha']), if_neg (by simp [ha'])]
      rw [d, q]
      exact ⟨rfl, h⟩
theorem write_same (h : Rel s r) (i : Int) (p : List UInt8) (y : Ly) (h1 : y.b = i.toNat) (h2 : y.a = 0) (h3 : y.l = p) : (wrR r i p y).2 = (wrE s i p).2 ∧ Rel (wrE s i p).1 (wrR r i p y).1 := by
  unfold wrR wrE
  rw [has_same h]
  by_cases hb : hasB s i = false
  · rw [if_pos hb, if_pos hb]; exact ⟨rfl, h⟩
  · rw [if_neg hb, if_neg hb]
    by_cases h5 : p.length ≠ 512
    · rw [if_pos h5, if_pos h5]; exact ⟨rfl, h⟩
    · rw [if_neg h5, if_neg h5]
      obtain ⟨e, hr⟩ := act_rel h
      by_cases ha : (actR r).2 = true
      · rw [if_pos ha] at e
        rw [if_neg (by rw [ha]; exact Bool.noConfusion), if_neg (by rw [e]; simp)]
        have k1 := act_keeps r
        have k2 := act_same s
        have hbn : y.b < r.n := by
          have : hasR r i = true := by rw [has_same h]; simpa using hb
          obtain ⟨k, rfl, hk⟩ := hasR_nat this
          rw [h1]
          simpa using hk
        have h5' : p.length = 512 := by omega
        refine ⟨rfl, hr.n, hr.bl, hr.ll, hr.med, ?_, ?_, hr.armed, hr.left, hr.off, hr.cr, ?_, hr.cf⟩
        · show (r.cache ++ [y]).map tw = (actD s).1.cache ++ [(i.toNat, p)]
          rw [List.map_append, h.cache, k2.1]
          show _ ++ [(y.b, y.l)] = _
          rw [h1, h3]
        · intro z hz
          have hz' : z ∈ r.cache ++ [y] := hz
          rcases List.mem_append.1 hz' with q | q
          · have := h.c0 z q
            exact ⟨by show z.b < (actR r).1.n; rw [k1.1]; exact this.1, this.2⟩
          · rw [List.mem_singleton.1 q]
            exact ⟨by show y.b < (actR r).1.n; rw [k1.1]; exact hbn, h2, by rw [h3]; exact h5'⟩
        · show up r.cw = up (actD s).1.cw
          rw [k2.2.2.2.2.2, h.cw]
      · rw [if_neg ha] at e
        have ha' : (actR r).2 = false := by simpa using ha
        rw [if_pos ha', if_pos (by rw [e]; simp)]
        exact ⟨e.symm, hr⟩
theorem sets_layL {n : Nat} (f : Nat → Int × Int) : ∀ (C : List Ly) (k : Nat) (m : List UInt8), (∀ y ∈ C, y.b < n ∧ y.a = 0 ∧ y.l.length = 512) → m.length = 512 * n → sets f k (C.map tw) m = layL m (crL f k C)
  | [], _, _, _, _ => rfl
  | y :: C, k, m, h, hm => by
    have h0 := h y (by simp)
    have hC : ∀ z ∈ C, z.b < n ∧ z.a = 0 ∧ z.l.length = 512 := fun z hz => h z (by simp [hz])
    have hn : (keptN (f k)).1 ≤ 512 := keptN_le _
    have tl : (y.l.take (keptN (f k)).1).length ≤ 512 := by rw [List.length_take]; omega
    have hl : (lay m y.b (y.l.take (keptN (f k)).1)).length = 512 * n := by rw [lay_length _ _ _ (by omega)]; exact hm
    rw [List.map_cons, sets, crL, layL_app]
    show sets f (k + 1) (C.map tw) (lay m y.b (y.l.take (keptN (f k)).1)) = _
    rw [sets_layL f C (k + 1) _ hC hl]
    by_cases hk : (keptN (f k)).2 = true
    · rw [if_pos hk]
      show _ = layL (splice m (512 * y.b + y.a) (y.l.take (keptN (f k)).1)) _
      rw [h0.2.1, Nat.add_zero]
      rfl
    · rw [if_neg hk]
      have hz : (keptN (f k)).1 = 0 := by
        unfold keptN at hk ⊢
        split at hk
        · simp at hk
        · split at hk
          · simp at hk
          · rename_i a b
            rw [if_neg a, if_neg b]
      rw [hz, List.take_zero]
      show layL (splice m _ []) _ = layL m _
      rw [splice_nil]
theorem crL_kept (C : List Ly) : ∀ k, (∀ y ∈ C, y.l.length = 512) → crL (fun _ => (1, 0)) k C = C := by
  induction C with
  | nil => intro _ _; rfl
  | cons y C ih =>
    intro k h
    have h0 := h y (by simp)
    rw [crL, ih (k + 1) (fun z hz => h z (by simp [hz]))]
    show [{ y with l := y.l.take 512 }] ++ C = y :: C
    rw [List.take_of_length_le (by omega)]
    rfl
theorem cnts_crL (f : Nat → Int × Int) : ∀ (C : List Ly) (k : Nat), (crL f k C).length = cnts f k (C.map tw)
  | [], _ => rfl
  | y :: C, k => by
    rw [crL, List.length_append, List.map_cons, cnts, cnts_crL f C (k + 1)]
    split <;> rfl
theorem crL_ok (f : Nat → Int × Int) (n : Nat) : ∀ (C : List Ly) (k : Nat), (∀ y ∈ C, y.b < n ∧ y.a = 0 ∧ y.l.length = 512) → ∀ y ∈ crL f k C, y.b < n ∧ y.a + y.l.length ≤ 512
  | [], _, _, y, hy => by simp [crL] at hy
  | z :: C, k, h, y, hy => by
    rw [crL] at hy
    rcases List.mem_append.1 hy with q | q
    · split at q
      · rw [List.mem_singleton.1 q]
        have := h z (by simp)
        simp only [List.length_take]
        omega
      · simp at q
    · exact crL_ok f n C (k + 1) (fun z hz => h z (by simp [hz])) y q
theorem flush_same (h : Rel s r) : (flR r).2 = (flD s).2 ∧ Rel (flD s).1 (flR r).1 := by
  unfold flR flD
  obtain ⟨e, hr⟩ := act_rel h
  by_cases ha : (actR r).2 = true
  · rw [if_pos ha] at e
    rw [if_neg (by rw [ha]; exact Bool.noConfusion), if_neg (by rw [e]; simp)]
    have k1 := act_keeps r
    refine ⟨rfl, hr.n, hr.bl, ?_, ?_, rfl, fun y hy => by simp at hy, hr.armed, hr.left, hr.off, hr.cr, hr.cw, by show up r.cf = up s.cf; rw [h.cf]⟩
    · intro y hy
      show y.b < (actR r).1.n ∧ _
      rw [k1.1]
      rcases List.mem_append.1 hy with q | q
      · exact h.ll y q
      · have := h.c0 y q
        omega
    · have eb : base0 (actR r).1 = base0 r := by unfold base0; rw [k1.2.2.2.2.2, k1.1]
      show layL (base0 (actR r).1) (r.laid ++ r.cache) = sets (fun _ => (1, 0)) 0 s.cache s.med
      rw [eb, layL_app, ← h.cache, sets_layL (n := r.n) _ _ _ _ (fun y hy => h.c0 y hy) (by rw [← h.med]; exact layL_length _ _ (base0_length h.bl) h.ll), crL_kept _ _ (fun y hy => (h.c0 y hy).2.2), ← h.med]
      rfl
  · rw [if_neg ha] at e
    have ha' : (actR r).2 = false := by simpa using ha
    rw [if_pos ha', if_pos (by rw [e]; simp)]
    exact ⟨e.symm, hr⟩
theorem crash_same (h : Rel s r) (fs : List (Int × Int)) : crN fs r.cache = cnts (fateAt fs) 0 s.cache ∧ Rel (crD s fs) (crR r fs) := by
  refine ⟨by unfold crN; rw [cnts_crL, h.cache], h.n, h.bl, ?_, ?_, rfl, fun y hy => by simp [crR] at hy, rfl, fun e => by simp [crD] at e, rfl, h.cr, h.cw, h.cf⟩
  · intro y hy
    rcases List.mem_append.1 hy with q | q
    · exact h.ll y q
    · exact crL_ok _ _ _ _ (fun y hy => h.c0 y hy) y q
  · show layL (base0 r) (r.laid ++ crL (fateAt fs) 0 r.cache) = sets (fateAt fs) 0 s.cache s.med
    rw [layL_app, ← h.cache, sets_layL (n := r.n) _ _ _ _ (fun y hy => h.c0 y hy) (by rw [← h.med]; exact layL_length _ _ (base0_length h.bl) h.ll), ← h.med]
    rfl
theorem arm_same (h : Rel s r) (k : Int) : (armR r k).2 = (armD s k).2 ∧ Rel (armD s k).1 (armR r k).1 := by
  unfold armR armD
  by_cases h1 : k < 0
  · rw [if_pos h1, if_pos h1]; exact ⟨rfl, h⟩
  · rw [if_neg h1, if_neg h1, h.off]
    by_cases h2 : s.down = true
    · rw [if_pos h2, if_pos h2]; exact ⟨rfl, h⟩
    · rw [if_neg h2, if_neg h2]
      exact ⟨rfl, h.n, h.bl, h.ll, h.med, h.cache, h.c0, rfl, fun _ => rfl, rfl, h.cr, h.cw, h.cf⟩
theorem edit_same (h : Rel s r) (i a : Int) (p : List UInt8) (y : Ly) (h1 : y.b = i.toNat) (h2 : y.a = a.toNat) (h3 : y.l = p) : (edR r i a p y).2 = (edD s i a p).2 ∧ Rel (edD s i a p).1 (edR r i a p y).1 := by
  unfold edR edD
  rw [has_same h]
  by_cases hb : hasB s i = false
  · rw [if_pos hb, if_pos hb]; exact ⟨rfl, h⟩
  · rw [if_neg hb, if_neg hb]
    by_cases h5 : a < 0 ∨ 512 - (p.length : Int) < a
    · rw [if_pos h5, if_pos h5]; exact ⟨rfl, h⟩
    · rw [if_neg h5, if_neg h5]
      have hbn : y.b < r.n := by
        have : hasR r i = true := by rw [has_same h]; simpa using hb
        obtain ⟨k, rfl, hk⟩ := hasR_nat this
        rw [h1]
        simpa using hk
      refine ⟨rfl, h.n, h.bl, ?_, ?_, h.cache, h.c0, h.armed, h.left, h.off, h.cr, h.cw, h.cf⟩
      · intro z hz
        rcases List.mem_append.1 hz with q | q
        · exact h.ll z q
        · rw [List.mem_singleton.1 q]
          exact ⟨hbn, by rw [h2, h3]; omega⟩
      · show layL (base0 r) (r.laid ++ [y]) = splice s.med (512 * i.toNat + a.toNat) p
        rw [layL_snoc, h1, h2, h3, ← h.med]
        rfl
theorem new_same (n : Nat) : Rel (newD n (List.replicate (512 * n) 0)) (newR n []) :=
  ⟨rfl, .inl rfl, fun y hy => by simp [newR] at hy, rfl, rfl, fun y hy => by simp [newR] at hy, rfl, fun e => by simp [newD] at e, rfl, rfl, rfl, rfl⟩
theorem of_same (n : Nat) (m : List UInt8) (hm : m.length = 512 * n) (hn : 64 ≤ n) : Rel (newD n m) (newR n m) :=
  ⟨rfl, .inr hm, fun y hy => by simp [newR] at hy, by
    have : m ≠ [] := fun e => by rw [e] at hm; simp at hm; omega
    show layL (base0 (newR n m)) [] = m
    unfold base0
    rw [if_neg (show ¬ (newR n m).base = [] from this)]
    rfl, rfl, fun y hy => by simp [newR] at hy, rfl, fun e => by simp [newD] at e, rfl, rfl, rfl, rfl⟩
theorem pend_same (h : Rel s r) : blocksR r.cache = blocksOf s.cache := by
  rw [← h.cache]
  unfold blocksR blocksOf
  rw [List.map_map]
  rfl
end Rf
end Go.Proofs.Ytbdlebengmbooaa
end S3
