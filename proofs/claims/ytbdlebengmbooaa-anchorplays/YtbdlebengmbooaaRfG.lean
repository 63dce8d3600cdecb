/-
  THE DOCUMENT'S DEVICE: Flush.
-/
import Derived.Test.YtbdlebengmbooaaRfF
namespace Go.Proofs.Ytbdlebengmbooaa
open Go.RowKit Go.Maps
namespace Rf
variable {B B' n : Nat} {w w' w1 w7 : World} {x : Nat} {bv lv kv v7 : Value} {s s' : RD} {y : Ly}
/-- Between two rounds that lay on the medium. -/
structure Mid (B : Nat) (w : World) (x : Nat) (bv lv kv : Value) (lv' : Value) (s : RD) (wr : World) : Prop where
  rd : Rd B wr x bv lv' kv s
  kept : Kept (RFoot x lv kv) w wr
  foot : ∀ k, RFoot x lv' kv k → RFoot x lv kv k ∨ w.heap.size ≤ k
theorem Mid.below {lv' : Value} (h : Mid B w x bv lv kv lv' s w1) (hb : Below w1.heap.size w1 w') : Mid B w x bv lv kv lv' s w' :=
  ⟨h.rd.below hb, h.kept.trans (Below.kept hb (fun _ => False)) (fun _ _ e => e.elim), h.foot⟩
theorem Mid.add {lv' : Value} {o : Obj} (h : Mid B w x bv lv kv lv' s w1) (hO : OwnR kLy B w7 v7 (s.laid ++ [y])) (hG : (w1.alloc o).grownBy w7 lv'.ownBlock) (hA : v7.ownBlock = lv'.ownBlock ∨ v7.ownBlock = some (w1.alloc o).heap.size) (hy : LyOk B w1 s.n y) :
    Mid B w x bv lv kv v7 { s with laid := s.laid ++ [y] } (w7.setCell ⟨x, 2, none⟩ v7) ∧ w7.cell? ⟨x, 2, none⟩ = some lv' ∧ w7.frozen? ⟨x, 2, none⟩ = false := by
  obtain ⟨⟨h1, h2, h3⟩, h4, h5⟩ := h.rd.addLaid hO hG hA hy
  refine ⟨⟨h1, ⟨h2.os.trans h.kept.os, h2.tape.trans h.kept.tape, h2.output.trans h.kept.output, Nat.le_trans h.kept.size h2.size, fun k hk1 hn => ?_⟩, fun k e => ?_⟩, h4, h5⟩
  · rw [h2.block k (Nat.lt_of_lt_of_le hk1 h.kept.size) (fun e => by rcases h.foot k e with q | q; exact hn q; omega)]
    exact h.kept.block k hk1 hn
  · rcases h3 k e with q | q
    · exact h.foot k q
    · exact .inr (Nat.le_trans h.kept.size q)
/-- The cache is let go. -/
theorem Mid.clear {lv' : Value} (h : Mid B w x bv lv kv lv' s w1) : Rd B (w1.setCell ⟨x, 3, none⟩ (.slice none 0 0)) x bv lv' (.slice none 0 0) { s with cache := [] } ∧ Kept (RFoot x lv kv) w (w1.setCell ⟨x, 3, none⟩ (.slice none 0 0)) ∧ (∀ k, RFoot x lv' (.slice none 0 0) k → RFoot x lv kv k ∨ w.heap.size ≤ k) := by
  refine ⟨h.rd.cacheTo (w1 := w1) (Kept.refl _ _) (OwnR.nil _ _ _) (fun k e => by simp [Value.ownBlock] at e) (fun y hy => by simp at hy), h.kept.trans (G := fun k => k = x) (kept_set w1 _ _ rfl) (fun k _ e => .inl e), fun k e => ?_⟩
  rcases e with e | e | e
  · exact .inl (.inl e)
  · exact h.foot k (.inr (.inl e))
  · simp [Value.ownBlock] at e
theorem Mid.start (h : Rd B w1 x bv lv kv s) (hk : Kept (fun k => k = x) w w1) : Mid B w x bv lv kv lv s w1 := ⟨h, hk.mono (fun _ _ e => .inl e), fun _ e => .inl e⟩
theorem kly_row {a : Option Addr} {m c : Nat} {L : List Ly} (H : Row kLy w (.slice a m c) L) (k : Nat) (hk : k < L.length) {g o : Nat} (e : a = some ⟨g, o, none⟩) {z : Ly} (hz : z = L.getD k kLy.z) : w.cell? ⟨g, o + k * 3, none⟩ = some (.int .i64 (z.b : Int)) ∧ w.cell? ⟨g, o + k * 3 + 1, none⟩ = some (.int .i64 (z.a : Int)) ∧ w.cell? ⟨g, o + k * 3 + 2, none⟩ = some z.v := by
  obtain ⟨b, off, e2, h1, h2, h3⟩ := kly_at H k hk
  rw [e] at e2
  simp only [Option.some.injEq, Addr.mk.injEq, and_true] at e2
  obtain ⟨rfl, rfl⟩ := e2
  rw [← hz] at h1 h2 h3
  exact ⟨h1, h2, h3⟩
def flR (s : RD) : RD × Int :=
  if (actR s).2 = false then ((actR s).1, 6) else ({ (actR s).1 with cf := up s.cf, laid := s.laid ++ s.cache, cache := [] }, 0)
set_option maxHeartbeats 8000000 in
set_option maxRecDepth 100000 in
theorem rflush_any (h : Rd B w x bv lv kv s) (hBw : B ≤ w.heap.size) (hc : s.laid.length + s.cache.length < 1200000000000) :
    Calls Try.prog 36 #[.pointer (some ⟨x, 0, none⟩)] w fun e w' => e = .returned (.int .i64 (flR s).2) ∧ RL B w x bv lv kv w' (flR s).1 := by
  have H := Lib.hid h
  have AC := Lib.hid (ract_any H.out)
  cases ha : (actR s).2 with
  | false =>
    have E : Hid (flR s = ((actR s).1, 6)) := Lib.hid (by unfold flR; rw [if_pos ha])
    rw [ha] at AC
    clear h hc hBw
    go_enter Try.func36, Try.ntmps36
    go_wp2_with fail
    refine AC.out.mono ?_
    rintro e w1 ⟨rfl, hr, hk1⟩
    have R1 := Lib.hid (And.intro hr hk1)
    clear hr hk1 AC
    go_wp2_with fail
    go_ret
    rw [E.out]
    exact ⟨rfl, RL.self R1.out.1 R1.out.2⟩
  | true =>
    have E : Hid (flR s = ({ (actR s).1 with cf := up s.cf, laid := s.laid ++ s.cache, cache := [] }, 0)) := Lib.hid (by unfold flR; rw [if_neg (by rw [ha]; exact Bool.noConfusion)])
    rw [ha] at AC
    have AK := Lib.hid (act_keeps s)
    obtain ⟨t, ht⟩ : ∃ t, t = (actR s).1 := ⟨_, rfl⟩
    rw [← ht] at AC E AK
    obtain ⟨ak, ck, e, hlc, hcm⟩ := (h.cache.row okLy).len
    obtain ⟨N, hN⟩ : ∃ N, N = s.cache.length := ⟨_, rfl⟩
    rw [← hN] at e hlc
    subst e
    have NN := Lib.hid hN
    have HC := Lib.hid hc
    have HB := Lib.hid hBw
    unfold maxLen at hcm
    clear ht ha h hc hBw hN
    go_enter Try.func36, Try.ntmps36
    go_wp2_with fail
    refine AC.out.mono ?_
    rintro e w1 ⟨rfl, hr, hk1⟩
    have c9 : w1.cell? ⟨x, 9, none⟩ = some (.int .i64 t.cf) := hr.cell 9
    have f9 : w1.frozen? ⟨x, 9, none⟩ = false := hr.free 9
    obtain ⟨X, hX⟩ : ∃ X, X = w1.setCell ⟨x, 9, none⟩ (.int .i64 (up t.cf)) := ⟨_, rfl⟩
    have M0 : Hid (Mid B w x bv lv (.slice ak N ck) lv { t with cf := up t.cf } X) := Lib.hid (by
      rw [hX]
      exact Mid.start (hr.set 9 _ _ rfl rfl rfl rfl rfl) (hk1.trans (G := fun k => k = x) (kept_set w1 _ _ rfl) (fun _ _ e => e)))
    have hX' := hX.symm
    unfold up at hX'
    have q3 : X.cell? ⟨x, 3, none⟩ = some (.slice ak N ck) := M0.out.rd.cell 3
    clear hr hk1 AC hX
    go_wp2_with fail
    clear hX' c9 f9 q3
    go_loopg [4] N (fun gg si wr => ∃ (i : Nat) (lv' : Value), i ≤ N ∧ gg = N - i ∧ si = .int .i64 i ∧ Hid (Mid B w x bv lv (.slice ak N ck) lv' { t with cf := up t.cf, laid := s.laid ++ s.cache.take i } wr))
    case atStart => exact ⟨0, lv, Nat.zero_le _, rfl, rfl, Lib.hid (by rw [List.take_zero, List.append_nil, ← AK.out.2.2.1]; exact M0.out)⟩
    case round =>
      clear M0
      obtain ⟨i, lv', hi, hg, rfl, S⟩ := hrel
      have G := Lib.hid hg
      clear hg
      have p2 : wr.cell? ⟨x, 2, none⟩ = some lv' := S.out.rd.cell 2
      have p3 : wr.cell? ⟨x, 3, none⟩ = some (.slice ak N ck) := S.out.rd.cell 3
      by_cases hlt : i < N
      · have hlt' : (i : Int) < (N : Int) := by omega
        have SD : Hid (Mid B w x bv lv (.slice ak N ck) lv' { t with cf := up t.cf, laid := s.laid ++ s.cache.take i } wr.drew) := Lib.hid (S.out.below (Below.refl _ _).drew)
        obtain ⟨g, o, rfl, c0, c1, c2⟩ := kly_at (SD.out.rd.cache.row okLy) i (by show i < t.cache.length; rw [AK.out.2.1, ← NN.out]; exact hlt)
        have my : t.cache.getD i kLy.z ∈ t.cache := by
          rw [List.getD_eq_getElem?_getD, List.getElem?_eq_getElem (by rw [AK.out.2.1, ← NN.out]; exact hlt)]
          exact List.getElem_mem _
        have tk := take_one s.cache i kLy.z (by rw [← NN.out]; exact hlt)
        obtain ⟨y, hy⟩ : ∃ y, y = t.cache.getD i kLy.z := ⟨_, rfl⟩
        have OY := Lib.hid (SD.out.rd.lc _ my)
        simp only [← hy] at c0 c1 c2 OY
        have TK : Hid (s.laid ++ s.cache.take (i + 1) = (s.laid ++ s.cache.take i) ++ [y]) := Lib.hid (by rw [tk, hy, AK.out.2.1, List.append_assoc])
        have LE : Hid (((s.laid ++ s.cache.take i).length + 1) * kLy.b ≤ 140737488355328) := Lib.hid (by rw [List.length_append, List.length_take]; show (_ + 1) * 40 ≤ _; have := HC.out; omega)
        obtain ⟨L, hL⟩ : ∃ L, L = s.laid ++ s.cache.take i := ⟨_, rfl⟩
        rw [← hL] at SD TK LE
        obtain ⟨yb, ya, yad, ycap, yl⟩ := y
        unfold Ly.v at c2
        simp only at c0 c1 c2
        obtain ⟨M, hM⟩ : ∃ M, M = yl.length := ⟨_, rfl⟩
        rw [← hM] at c2
        have MM := Lib.hid hM
        have p2d : wr.drew.cell? ⟨x, 2, none⟩ = some lv' := SD.out.rd.cell 2
        have p3d : wr.drew.cell? ⟨x, 3, none⟩ = some (.slice (some ⟨g, o, none⟩) N ck) := SD.out.rd.cell 3
        have y5 : (wr.drew.alloc (.cells #[.int .i64 (yb : Int), .int .i64 (ya : Int), .slice yad M ycap] 77)).cell? ⟨x, 2, none⟩ = some lv' := (SD.out.below ((Below.refl _ _).alloc (Nat.le_refl _) _)).rd.cell 2
        have y6 : (wr.alloc (.cells #[.int .i64 (yb : Int), .int .i64 (ya : Int), .slice yad M ycap] 77)).cell? ⟨x, 2, none⟩ = some lv' := (S.out.below ((Below.refl _ _).alloc (Nat.le_refl _) _)).rd.cell 2
        have SB : Hid (B ≤ wr.drew.heap.size) := Lib.hid (Nat.le_trans HB.out SD.out.kept.size)
        clear tk hy my hM hL S
        go_wp2_with fail
        go_region_law (
          refine step_app1 okLy rfl (.tmp 31) (.tmp 39) rfl (B := B) (w := wr.drew) (v := lv') (L := L) rfl SD.out.rd.laid SB.out ⟨yb, ya, yad, ycap, yl⟩ (by show _ = #[_, _, Value.slice yad yl.length ycap]; rw [← MM.out]) rfl rfl LE.out ?_
          intro a7 n7 c7 w7 q7
          have Z7 := Lib.hid (SD.out.add q7.out.1 q7.out.2.1 q7.out.2.2 OY.out)
          have z1 := Z7.out.2.1
          have z2 := Z7.out.2.2
          clear q7)
        all_goals
          clear p2 p3 p2d p3d y5 y6 c0 c1 c2 z1 z2
          go_wp2_with fail
          go_roundg (N - (i + 1))
          case measure => have := G.out; omega
          case rel => exact ⟨i + 1, _, by omega, rfl, by go_num, Lib.hid (by rw [TK.out]; exact Z7.out.1)⟩
      · have e : s.cache.take i = s.cache := List.take_of_length_le (by rw [← NN.out]; omega)
        rw [e] at S
        have f3 : wr.frozen? ⟨x, 3, none⟩ = false := S.out.rd.free 3
        have CL := Lib.hid S.out.clear
        clear e p2
        go_wp2_with fail
        go_ret
        rw [E.out]
        refine ⟨rfl, _, _, ?_, CL.out.2.1, CL.out.2.2⟩
        have := CL.out.1
        rw [AK.out.2.2.2.2.1] at this
        exact this
end Rf
end Go.Proofs.Ytbdlebengmbooaa
