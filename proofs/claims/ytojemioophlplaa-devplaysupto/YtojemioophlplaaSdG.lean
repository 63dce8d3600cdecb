/-
  The law's made; two sides apart.
-/
import Derived.Test.YtojemioophlplaaSdF
namespace Go.Proofs.Ytojemioophlplaa
open Go.RowKit Go.Maps
namespace Rf
variable {B : Nat} {w0 w w' W W' : World} {p q : Nat} {F G : Nat → Prop} {n m : Nat}
theorem Sd.lt (h : Sd w0 w p F n) (k : Nat) (hk : F k) : w0.heap.size ≤ k ∧ k < w.heap.size := by
  obtain ⟨⟨d, mb, mp, cv, x, bv, lv, kv, s, r, h1, h2, h3, h4, h5⟩, hb⟩ := h
  exact h1.foot_lt k ((h5 k).1 hk)
theorem Sd.bytes_ne (h : Sd w0 w p F n) {B' : Nat} {v : Value} {l : List UInt8} (ho : Own B' w v l) : ∀ k, v.ownBlock = some k → ¬ F k := by
  obtain ⟨⟨d, mb, mp, cv, x, bv, lv, kv, s, r, h1, h2, h3, h4, h5⟩, hb⟩ := h
  intro k hk hf
  rcases (h5 k).1 hf with e | e | e
  · obtain ⟨cur, hq⟩ := row_block ho hk
    rw [e, h1.self] at hq
    simp only [Option.some.injEq, Obj.cells.injEq] at hq
    exact absurd hq.2.1 (by decide)
  · exact h1.dv.bytes_ne ho k hk e
  · exact h1.rd.bytes_ne ho k hk e
/-- What another side does leaves this one. -/
theorem Sd.other (hq : Sd w0 w q G n) (hp : Sd w0 w p F m) (hd : ∀ k, F k → ¬ G k) (hk : Kept F w w') (hb : Below w0.heap.size w0 w') : Sd w0 w' q G n := by
  obtain ⟨⟨d, mb, mp, cv, x, bv, lv, kv, s, r, h1, h2, h3, h4, h5⟩, _⟩ := hq
  exact ⟨⟨d, mb, mp, cv, x, bv, lv, kv, s, r, h1.kept hk (fun k e f => hd k f ((h5 k).2 e)) (fun v l ho => hp.bytes_ne ho), h2, h3, h4, h5⟩, hb⟩
/-- Two sides, apart. -/
structure Tw (w0 w : World) (p q n : Nat) : Prop where
  ex : ∃ F G, Sd w0 w p F n ∧ Sd w0 w q G n ∧ ∀ k, F k → ¬ G k
theorem Tw.bel (h : Tw w0 w p q n) : Below w0.heap.size w0 w := by
  obtain ⟨F, G, h1, _, _⟩ := h.ex
  exact h1.bel
theorem Tw.swap (h : Tw w0 w p q n) : Tw w0 w q p n := by
  obtain ⟨F, G, h1, h2, h3⟩ := h.ex
  exact ⟨G, F, h2, h1, fun k e f => h3 k f e⟩
theorem Tw.step (h1 : Sd w0 w p F n) (h2 : Sd w0 w q G n) (hd : ∀ k, F k → ¬ G k) (hs : SdM w0 w p F w' m) (hm : n ≤ m) : Tw w0 w' p q m := by
  obtain ⟨F', g1, g2, g3⟩ := hs
  refine ⟨F', G, g1, (h2.other h1 hd g2 g1.bel).more hm, fun k e f => ?_⟩
  rcases g3 k e with z | z
  · exact hd k z f
  · have := (h2.lt k f).2
    omega
theorem Tw.plays (h : Tw w0 w p q n) (hn : n ≤ 1050000) (o : OpD) (ho : o.At w0) : Calls Try.prog 5 #[.pointer (some ⟨p, 0, none⟩), .agg o.cells.toArray] w fun e w' => e = .returned (.bool true) ∧ Tw w0 w' p q (n + 1) := by
  obtain ⟨F, G, h1, h2, h3⟩ := h.ex
  refine ((SdM.start h1).plays (by omega) o ho).mono ?_
  rintro e w' ⟨rfl, hs⟩
  exact ⟨rfl, Tw.step h1 h2 h3 hs (by omega)⟩
theorem Tw.ends (h : Tw w0 w p q n) (hn : n ≤ 1049000) : Calls Try.prog 6 #[.pointer (some ⟨p, 0, none⟩)] w fun e w' => e = .returned (.bool true) ∧ Tw w0 w' p q (n + 12) := by
  obtain ⟨F, G, h1, h2, h3⟩ := h.ex
  refine (ends_any h1 (by omega)).mono ?_
  rintro e w' ⟨rfl, hs⟩
  exact ⟨rfl, Tw.step h1 h2 h3 hs (by omega)⟩
/-- What made makes. -/
def Md (w0 w w' : World) (g : Nat) (i : Int) : Prop :=
  Below w.heap.size w w' ∧ ((¬ (64 ≤ i ∧ i ≤ 4096) ∧ w'.cell? ⟨g, 0, none⟩ = some (.pointer none)) ∨ ((64 ≤ i ∧ i ≤ 4096) ∧ (∃ d, w'.cell? ⟨g, 0, none⟩ = some (.pointer (some d))) ∧ ∃ F, Sd w0 w' g F 0 ∧ ∀ k, F k → w.heap.size ≤ k))
set_option maxHeartbeats 4000000 in
theorem made_any (i : Int) (w0 w : World) (h0 : Below w0.heap.size w0 w) : Calls Try.prog 4 #[.int .i64 i] w fun e w' => ∃ g, e = .returned (.tuple #[.pointer (some ⟨g, 0, none⟩), .bool true]) ∧ Md w0 w w' g i := by
  by_cases hg : 64 ≤ i ∧ i ≤ 4096
  · obtain ⟨k, rfl⟩ : ∃ k : Nat, i = (k : Int) := ⟨i.toNat, by omega⟩
    have K : Hid (64 ≤ k ∧ k ≤ 4096) := Lib.hid ⟨by omega, by omega⟩
    have H0 := Lib.hid h0
    clear hg h0
    go_enter Try.func4, Try.ntmps4
    go_wp2_with fail
    refine (new_ok k w K.out.1 K.out.2).mono ?_
    rintro e w1 ⟨rfl, hb1, hd1⟩
    obtain ⟨d, hd⟩ : ∃ d, d = w.heap.size + 2 := ⟨_, rfl⟩
    rw [← hd]
    rw [← hd] at hd1
    have P1 := Lib.hid (And.intro hb1 hd1)
    have DD := Lib.hid hd
    clear hb1 hd1 hd
    go_wp2_with fail
    refine (rnew_ok k w1 K.out.1 K.out.2).mono ?_
    rintro e w2 ⟨rfl, hb2, hr2⟩
    obtain ⟨x, hx⟩ : ∃ x, x = w1.heap.size := ⟨_, rfl⟩
    rw [← hx]
    have hr2' : Rd w1.heap.size w2 x (.slice none 0 0) (.slice none 0 0) (.slice none 0 0) (newR k []) := by rw [hx]; exact hr2
    have P2 := Lib.hid (And.intro hb2 hr2')
    clear hb2 hr2 hr2' hx
    go_wp2_with fail
    go_ret2
    refine ⟨w2.heap.size, rfl, ?_, .inr ⟨⟨by have := K.out.1; omega, by have := K.out.2; omega⟩, ⟨⟨d, 0, none⟩, ?_⟩, SFoot w2.heap.size d w.heap.size (w.heap.size + 1) (.slice none 0 0) x (.slice none 0 0) (.slice none 0 0), ⟨⟨d, w.heap.size, w.heap.size + 1, .slice none 0 0, x, .slice none 0 0, .slice none 0 0, .slice none 0 0, newD k (List.replicate (512 * k) 0), newR k [], ?_, new_same k, Nat.zero_le _, Nat.zero_le _, fun _ => Iff.rfl⟩, ?_⟩, ?_⟩⟩
    · exact P1.out.1.trans ((P2.out.1.trans ((Below.refl _ _).alloc (Nat.le_refl _) _ |> fun h => h.mono P2.out.1.size)).mono P1.out.1.size)
    · rw [World.cell?_alloc_new]; rfl
    · have ba : Below w2.heap.size w2 (w2.alloc (.cells #[.pointer (some ⟨d, 0, none⟩), .pointer (some ⟨x, 0, none⟩)] 29)) := (Below.refl _ _).alloc (Nat.le_refl _) _
      have hw : w0.heap.size ≤ w.heap.size := H0.out.size
      refine ⟨by rw [heap_alloc_new], Dv.mono ((P1.out.2.below P2.out.1).below ba) hw, Rd.mono (P2.out.2.below ba) (Nat.le_trans hw P1.out.1.size), Nat.le_trans hw (Nat.le_trans P1.out.1.size P2.out.1.size)⟩
    · have bb : Below w.heap.size w (w2.alloc (.cells #[.pointer (some ⟨d, 0, none⟩), .pointer (some ⟨x, 0, none⟩)] 29)) := P1.out.1.trans ((P2.out.1.trans ((Below.refl _ _).alloc (Nat.le_refl _) _ |> fun h => h.mono P2.out.1.size)).mono P1.out.1.size)
      exact H0.out.trans (bb.mono H0.out.size)
    · intro j e
      rcases e with e | e | e
      · rw [e]; exact Nat.le_trans P1.out.1.size P2.out.1.size
      · exact (P1.out.2.foot_lt j e).1
      · exact Nat.le_trans P1.out.1.size (P2.out.2.foot_lt j e).1
  · have NB := Lib.hid (new_bad i w (by omega))
    have RB := Lib.hid (rnew_bad i w (by omega))
    have HG := Lib.hid hg
    clear hg h0
    go_enter Try.func4, Try.ntmps4
    go_wp2_with fail
    refine NB.out.mono ?_
    rintro e w1 ⟨rfl, rfl⟩
    go_wp2_with fail
    refine RB.out.mono ?_
    rintro e w2 ⟨rfl, rfl⟩
    go_wp2_with fail
    go_ret2
    exact ⟨_, rfl, (Below.refl _ _).alloc (Nat.le_refl _) _, .inl ⟨HG.out, by rw [World.cell?_alloc_new]; rfl⟩⟩
end Rf
end Go.Proofs.Ytojemioophlplaa
