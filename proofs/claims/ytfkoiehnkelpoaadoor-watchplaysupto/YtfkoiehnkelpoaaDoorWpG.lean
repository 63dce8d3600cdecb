/-
  The law's played: one step on both hubs.
-/
import Derived.Test.YtfkoiehnkelpoaaDoorWpF
namespace Go.Proofs.YtfkoiehnkelpoaaDoor
open Go.RowKit
namespace Wt
theorem cut_rowP {α : Type} {K : Kd α} (ok : K.Ok) {B : Nat} {w : World} {a : Option Addr} {n c : Nat} {l : List α} {x : α} (h : OwnR K B w (.slice a n c) (l ++ [x])) : ∃ g, a = some ⟨g, 0, none⟩ ∧ n = l.length + 1 ∧ l.length + 1 ≤ c ∧ OwnR K B w (.slice (some ⟨g, 0, none⟩) l.length c) l := by
  have ht := OwnR.take ok h l.length (by simp)
  rw [List.take_left] at ht
  obtain ⟨h1, ⟨hv, hn⟩ | ⟨gb, cap', cur, hv, h2, h3, h4, h5⟩⟩ := h
  · simp at hn
  · simp only [Value.slice.injEq] at hv
    obtain ⟨e1, e2, e3⟩ := hv
    rw [List.length_append, List.length_singleton] at h4 e2
    subst e1 e3
    exact ⟨gb, rfl, e2, h4, ht⟩
/-- What a step leaves. -/
def Pl (w0 w : World) (g : Nat) (v : Value) (k : Nat) (u : Value) (w' : World) : Prop := ∃ v' u' s', Bd w0 w g v k u v' u' s' w'
section
variable (w0 w : World) (g : Nat) (v : Value) (k : Nat) (u : Value) (s : St) (H : Bt w0 w g v k u s)
include H
theorem Bt.asks : (Calls Tryd.prog 11 #[.pointer (some ⟨g, 0, none⟩)] w fun e w' => e = .returned (.int .i64 s.lo) ∧ w' = w) ∧ (Calls Tryd.prog 12 #[.pointer (some ⟨g, 0, none⟩)] w fun e w' => e = .returned (.int .i64 s.hi) ∧ w' = w)
    ∧ (Calls Tryd.prog 39 #[.pointer (some ⟨k, 0, none⟩)] w fun e w' => e = .returned (.int .i64 s.lo) ∧ w' = w) ∧ (Calls Tryd.prog 36 #[.pointer (some ⟨k, 0, none⟩)] w fun e w' => e = .returned (.int .i64 s.hi) ∧ w' = w) :=
  ⟨low_any w g v s H.h, high_any w g v s H.h, rlow_any w k u s H.r, rhigh_any w k u s H.r⟩
end
set_option maxHeartbeats 16000000 in
set_option maxRecDepth 100000 in
theorem played_none (a : Option Addr) (n c : Nat) (ok kn km : Int) (kp : ByteArray) (w0 w : World) (g : Nat) (v : Value) (k : Nat) (u : Value) (s : St) (H : Bt w0 w g v k u s) (h1 : ok ≠ 1) (h2 : ok ≠ 2) :
    Calls Tryd.prog 20 #[.pointer (some ⟨g, 0, none⟩), .pointer (some ⟨k, 0, none⟩), .agg #[.int .i64 ok, .slice a n c, .int .i64 kn, .string kp, .int .i64 km]] w fun e w' => e = .returned (.bool true) ∧ Pl w0 w g v k u w' := by
  have HH := Lib.hid H
  obtain ⟨lo, hi, es⟩ := s
  obtain ⟨X, hX⟩ : ∃ X, X = w.alloc (.cells #[.int .i64 ok, .slice a n c, .int .i64 kn, .string kp, .int .i64 km] 51) := ⟨_, rfl⟩
  have BX : Hid (Below w.heap.size w X) := Lib.hid (by rw [hX]; exact (Below.refl _ w).alloc (Nat.le_refl _) _)
  have c0 : X.cell? ⟨w.heap.size, 0, none⟩ = some (.int .i64 ok) := by rw [hX, World.cell?_alloc_new]; rfl
  have g1 : (ok == 1) = false := by rw [beq_eq_false_iff_ne]; exact h1
  have g2 : (ok == 2) = false := by rw [beq_eq_false_iff_ne]; exact h2
  have AS := Lib.hid (Bt.asks w0 X g v k u _ (HH.out.below BX.out))
  have FN : Hid (Pl w0 w g v k u X) := Lib.hid ⟨_, _, _, HH.out.same BX.out⟩
  have hX' := hX.symm
  clear hX H HH BX
  go_enter Tryd.func20, Tryd.ntmps20
  go_wp2_with fail
  refine AS.out.1.mono ?_
  rintro e w1 ⟨rfl, rfl⟩
  go_wp2_with fail
  refine AS.out.2.2.1.mono ?_
  rintro e w2 ⟨rfl, rfl⟩
  go_wp2_with fail
  refine AS.out.2.1.mono ?_
  rintro e w3 ⟨rfl, rfl⟩
  go_wp2_with fail
  refine AS.out.2.2.2.mono ?_
  rintro e w4 ⟨rfl, rfl⟩
  go_wp2_with fail
  go_ret
  exact ⟨rfl, FN.out⟩
set_option maxHeartbeats 16000000 in
set_option maxRecDepth 100000 in
theorem played_since (mk : Ev) (a : Option Addr) (n c : Nat) (kn km : Int) (kp : ByteArray) (w0 w : World) (g : Nat) (v : Value) (k : Nat) (u : Value) (s : St) (hG : Gl mk w0) (hp : kp.size ≤ 1048576) (H : Bt w0 w g v k u s) :
    Calls Tryd.prog 20 #[.pointer (some ⟨g, 0, none⟩), .pointer (some ⟨k, 0, none⟩), .agg #[.int .i64 2, .slice a n c, .int .i64 kn, .string kp, .int .i64 km]] w fun e w' => e = .returned (.bool true) ∧ Pl w0 w g v k u w' := by
  have HH := Lib.hid H
  obtain ⟨lo, hi, es⟩ := s
  obtain ⟨b, hb⟩ : ∃ b, b = w.heap.size := ⟨_, rfl⟩
  obtain ⟨X, hX⟩ : ∃ X, X = w.alloc (.cells #[.int .i64 2, .slice a n c, .int .i64 kn, .string kp, .int .i64 km] 51) := ⟨_, rfl⟩
  have BX : Hid (Below w.heap.size w X) := Lib.hid (by rw [hX]; exact (Below.refl _ w).alloc (Nat.le_refl _) _)
  have CX : Hid (∀ W, Below X.heap.size X W → ∀ i y, #[Value.int .i64 2, .slice a n c, .int .i64 kn, .string kp, .int .i64 km][i]? = some y → W.cell? ⟨b, i, none⟩ = some y) := Lib.hid fun W hbb i y h => by
    have h1 : X.cell? ⟨b, i, none⟩ = some y := by rw [hX, hb, World.cell?_alloc_new]; exact h
    rw [hbb.cell (block_lt_of_cell h1)]; exact h1
  have c0 : X.cell? ⟨b, 0, none⟩ = some (.int .i64 2) := CX.out X (Below.refl _ _) 0 _ rfl
  have BD : Hid (Below X.heap.size X X.drew) := Lib.hid ((Below.refl _ X).drew)
  have d2 : X.drew.cell? ⟨b, 2, none⟩ = some (.int .i64 kn) := CX.out _ BD.out 2 _ rfl
  have d3 : X.drew.cell? ⟨b, 3, none⟩ = some (.string kp) := CX.out _ BD.out 3 _ rfl
  have d4 : X.drew.cell? ⟨b, 4, none⟩ = some (.int .i64 km) := CX.out _ BD.out 4 _ rfl
  have AS : Hid (∀ W : World, Below X.heap.size X W → Bt w0 W g v k u ⟨lo, hi, es⟩ ∧ Below w.heap.size w W) := Lib.hid fun W hbb => ⟨(HH.out.below BX.out).below hbb, BX.out.trans (hbb.mono BX.out.size)⟩
  have SI : Hid (∀ W : World, Below X.heap.size X W → ∀ ver most, Calls Tryd.prog 14 #[.pointer (some ⟨g, 0, none⟩), .int .i64 ver, .string kp, .int .i64 most] W fun e w' => ∃ a n c x, e = .returned (.tuple #[.slice a n c, .int .i64 x, .int .i64 (sinE ⟨lo, hi, es⟩ ver kp most)]) ∧ Si W ⟨lo, hi, es⟩ ver kp most (.slice a n c) x w') := Lib.hid fun W hbb ver most => since_any W g v _ ver kp most (hG.of (AS.out W hbb).1).hm (AS.out W hbb).1.h HH.out.ok
  have SR : Hid (∀ W : World, Below X.heap.size X W → ∀ ver most, Calls Tryd.prog 38 #[.pointer (some ⟨k, 0, none⟩), .int .i64 ver, .string kp, .int .i64 most] W fun e w' => ∃ a n c x, e = .returned (.tuple #[.slice a n c, .int .i64 x, .int .i64 (sinE ⟨lo, hi, es⟩ ver kp most)]) ∧ Si W ⟨lo, hi, es⟩ ver kp most (.slice a n c) x w') := Lib.hid fun W hbb ver most => rsince_any W k u _ ver kp most hp (AS.out W hbb).1.r HH.out.ok HH.out.hz
  have FN : Hid (∀ W : World, Below X.heap.size X W → Pl w0 w g v k u W) := Lib.hid fun W hbb => ⟨_, _, _, HH.out.same (AS.out W hbb).2⟩
  have hX' := hX.symm
  have hb' := hb.symm
  clear hX hb H HH BX hG hp
  go_enter Tryd.func20, Tryd.ntmps20
  go_wp2_with fail
  go_region_held3 (fun W : World => W.cell? ⟨b, 2, none⟩ = some (.int .i64 kn) ∧ W.cell? ⟨b, 3, none⟩ = some (.string kp) ∧ W.cell? ⟨b, 4, none⟩ = some (.int .i64 km)) (first | exact ⟨by assumption, by assumption, by assumption⟩ | go_keep) (first
    | (go_at_call 36
       refine (Bt.asks w0 _ g v k u _ (AS.out _ BD.out).1).2.2.2.mono ?_
       rintro e x1 ⟨rfl, rfl⟩)
    | (go_at_call 14
       refine (SI.out _ BD.out _ _).mono ?_
       rintro e x2 ⟨ra, rn, rc, rx, rfl, rs⟩
       have B2 : Hid (Below X.heap.size X x2) := Lib.hid (BD.out.trans (rs.1.mono BD.out.size))
       have S2 := Lib.hid rs
       have e2 : x2.cell? ⟨b, 2, none⟩ = some (.int .i64 kn) := CX.out _ B2.out 2 _ rfl
       have e3 : x2.cell? ⟨b, 3, none⟩ = some (.string kp) := CX.out _ B2.out 3 _ rfl
       have e4 : x2.cell? ⟨b, 4, none⟩ = some (.int .i64 km) := CX.out _ B2.out 4 _ rfl
       clear rs))
  have BE : Hid (Below X.heap.size X x2.drew) := Lib.hid (B2.out.drew)
  have h2 : x2.drew.cell? ⟨b, 2, none⟩ = some (.int .i64 kn) := CX.out _ BE.out 2 _ rfl
  have h3 : x2.drew.cell? ⟨b, 3, none⟩ = some (.string kp) := CX.out _ BE.out 3 _ rfl
  have h4 : x2.drew.cell? ⟨b, 4, none⟩ = some (.int .i64 km) := CX.out _ BE.out 4 _ rfl
  clear d2 d3 d4 e2 e3 e4 c0
  go_wp2_with fail
  go_region_held3 (fun W : World => W.cell? ⟨b, 2, none⟩ = some (.int .i64 kn) ∧ W.cell? ⟨b, 3, none⟩ = some (.string kp) ∧ W.cell? ⟨b, 4, none⟩ = some (.int .i64 km)) (first | exact ⟨by assumption, by assumption, by assumption⟩ | go_keep) (first
    | (go_at_call 36
       refine (Bt.asks w0 _ g v k u _ (AS.out _ BE.out).1).2.2.2.mono ?_
       rintro e x1 ⟨rfl, rfl⟩)
    | (go_at_call 38
       refine (SR.out _ BE.out _ _).mono ?_
       rintro e x3 ⟨ra3, rn3, rc3, rx3, rfl, rs⟩
       have B3 : Hid (Below X.heap.size X x3) := Lib.hid (BE.out.trans (rs.1.mono BE.out.size))
       have S3 := Lib.hid rs
       have e2 : x3.cell? ⟨b, 2, none⟩ = some (.int .i64 kn) := CX.out _ B3.out 2 _ rfl
       have e3 : x3.cell? ⟨b, 3, none⟩ = some (.string kp) := CX.out _ B3.out 3 _ rfl
       have e4 : x3.cell? ⟨b, 4, none⟩ = some (.int .i64 km) := CX.out _ B3.out 4 _ rfl
       clear rs))
  clear h2 h3 h4 e2 e3 e4
  have EQ : Hid (rx = rx3 ∧ ∃ L, Row kE x3 (.slice ra rn rc) L ∧ Row kE x3 (.slice ra3 rn3 rc3) L) := Lib.hid (by
    have q2 := S2.out
    have q3 := S3.out
    have hb0 : Below x2.heap.size x2 x2.drew := (Below.refl _ x2).drew
    have hbb : Below x2.heap.size x2 x3 := hb0.trans (q3.1.mono hb0.size)
    by_cases z : sinE ⟨lo, hi, es⟩ (IntKind.i64.wrap (hi - kn)) kp km = 0
    · obtain ⟨o2, y2⟩ := q2.2.2 z
      obtain ⟨o3, y3⟩ := q3.2.2 z
      exact ⟨by rw [y2, y3], _, (o2.below hbb).row okE, o3.row okE⟩
    · obtain ⟨o2, y2⟩ := q2.2.1 z
      obtain ⟨o3, y3⟩ := q3.2.1 z
      exact ⟨by rw [y2, y3], [], by rw [o2]; exact Row.nil _, by rw [o3]; exact Row.nil _⟩)
  obtain ⟨rfl, L, -, -⟩ := EQ.out
  obtain ⟨L', SM⟩ : ∃ L', Hid (Row kE x3 (.slice ra rn rc) L' ∧ Row kE x3 (.slice ra3 rn3 rc3) L') := by obtain ⟨-, L', h⟩ := EQ.out; exact ⟨L', Lib.hid h⟩
  have SY := Lib.hid (same_yes _ _ _ x3 SM.out.1 SM.out.2)
  generalize sinE ⟨lo, hi, es⟩ (IntKind.i64.wrap (hi - kn)) kp km = E
  go_wp2_with fail
  refine SY.out.mono ?_
  rintro e x4 ⟨rfl, hb4⟩
  have B4 : Hid (Below X.heap.size X x4) := Lib.hid (B3.out.trans (hb4.mono B3.out.size))
  have AT := Lib.hid (Bt.asks w0 x4 g v k u _ (AS.out x4 B4.out).1)
  clear hb4 SY SM EQ
  go_wp2_with fail
  refine AT.out.1.mono ?_
  rintro e w1 ⟨rfl, rfl⟩
  go_wp2_with fail
  refine AT.out.2.2.1.mono ?_
  rintro e w2 ⟨rfl, rfl⟩
  go_wp2_with fail
  refine AT.out.2.1.mono ?_
  rintro e w3 ⟨rfl, rfl⟩
  go_wp2_with fail
  refine AT.out.2.2.2.mono ?_
  rintro e w4 ⟨rfl, rfl⟩
  go_wp2_with fail
  go_ret
  exact ⟨rfl, FN.out _ B4.out⟩
end Wt
end Go.Proofs.YtfkoiehnkelpoaaDoor
