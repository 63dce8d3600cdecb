/-
  THE DOCUMENT'S DEVICE: Edit, Flush, Pending.
-/
import Derived.Test.YtbdlebengmbooaaRfE
namespace Go.Proofs.Ytbdlebengmbooaa
open Go.RowKit Go.Maps
namespace Rf
variable {B B' n : Nat} {w w' w1 w7 : World} {x : Nat} {bv lv kv v7 : Value} {s s' : RD} {y : Ly}
def edR (s : RD) (i at_ : Int) (p : List UInt8) (y : Ly) : RD × Int :=
  if hasR s i = false then (s, 60) else if at_ < 0 ∨ 512 - (p.length : Int) < at_ then (s, 1) else ({ s with laid := s.laid ++ [y] }, 0)
set_option maxHeartbeats 8000000 in
set_option maxRecDepth 100000 in
theorem redit_any (h : Rd B w x bv lv kv s) (hBw : B ≤ w.heap.size) (i at_ : Int) (v : Value) (p : List UInt8) (hv : Bytes w v p) (hc : s.laid.length < 1200000000000) :
    Calls Try.prog 16 #[.pointer (some ⟨x, 0, none⟩), .int .i64 i, .int .i64 at_, v] w fun e w' => ∃ y : Ly, e = .returned (.int .i64 (edR s i at_ p y).2) ∧ RL B w x bv lv kv w' (edR s i at_ p y).1 ∧ y.b = i.toNat ∧ y.a = at_.toNat ∧ y.l = p := by
  have H := Lib.hid h
  have HV := Lib.hid hv
  obtain ⟨av, cap, e, hlc, hcm⟩ := hv.len
  subst e
  have hh := Lib.hid (there_any H.out i)
  unfold maxLen at hcm
  obtain ⟨n, hn⟩ : ∃ n, n = p.length := ⟨_, rfl⟩
  rw [← hn] at hlc HV ⊢
  have NN := Lib.hid hn
  clear h hv hn
  cases hb : hasR s i with
  | false =>
    have E : Hid (∀ y, edR s i at_ p y = (s, 60)) := Lib.hid (fun y => by simp [edR, hb])
    rw [hb] at hh
    go_enter Try.func16, Try.ntmps16
    go_wp2_with fail
    refine hh.out.mono ?_
    rintro e w1 ⟨rfl, rfl⟩
    go_wp2_with fail
    go_ret
    refine ⟨⟨i.toNat, at_.toNat, none, 0, p⟩, ?_, ?_, rfl, rfl, rfl⟩
    · rw [E.out]; rfl
    · rw [E.out]; exact RL.same H.out (Kept.refl _ _)
  | true =>
    obtain ⟨k, rfl, hk⟩ := hasR_nat hb
    rw [hb] at hh
    by_cases hbad : at_ < 0 ∨ 512 - (n : Int) < at_
    · have E : Hid (∀ y, edR s k at_ p y = (s, 1)) := Lib.hid (fun y => by unfold edR; rw [if_neg (by rw [hb]; exact Bool.noConfusion), if_pos (by rw [← NN.out]; exact hbad)])
      have FIN : Hid (∀ W : World, W = w → ∃ y : Ly, (Ending.returned (.int .i64 1)) = .returned (.int .i64 (edR s k at_ p y).2) ∧ RL B w x bv lv kv W (edR s k at_ p y).1 ∧ y.b = (k : Int).toNat ∧ y.a = at_.toNat ∧ y.l = p) := Lib.hid (fun W hW => by
        refine ⟨⟨k, at_.toNat, none, 0, p⟩, by rw [E.out], ?_, by simp, rfl, rfl⟩
        rw [E.out, hW]; exact RL.same H.out (Kept.refl _ _))
      by_cases h1 : at_ < 0
      · have g1 : decide (at_ < 0) = true := decide_eq_true h1
        clear hbad
        go_enter Try.func16, Try.ntmps16
        go_wp2_with fail
        refine hh.out.mono ?_
        rintro e w1 ⟨rfl, rfl⟩
        go_wp2_with fail
        go_ret
        exact FIN.out _ rfl
      · have g1 : decide (at_ < 0) = false := decide_eq_false h1
        by_cases h2 : 512 < at_
        · have g2 : decide (at_ > 512) = true := decide_eq_true h2
          clear hbad
          go_enter Try.func16, Try.ntmps16
          go_wp2_with fail
          refine hh.out.mono ?_
          rintro e w1 ⟨rfl, rfl⟩
          go_wp2_with fail
          go_ret
          exact FIN.out _ rfl
        · have g2 : decide (at_ > 512) = false := decide_eq_false (by omega)
          have g3 : decide ((n : Int) > 512 - at_) = true := decide_eq_true (by omega)
          have hw3 : wrap64 (512 - at_) = 512 - at_ := by unfold wrap64; omega
          clear hbad
          go_enter Try.func16, Try.ntmps16
          go_wp2_with fail
          refine hh.out.mono ?_
          rintro e w1 ⟨rfl, rfl⟩
          go_wp2_with fail
          go_ret
          exact FIN.out _ rfl
    · have h0 : ¬ at_ < 0 := fun e => hbad (.inl e)
      have h5 : at_ + (n : Int) ≤ 512 := by
        have q : ¬ (512 - (n : Int) < at_) := fun e => hbad (.inr e)
        omega
      have E : Hid (∀ y, edR s k at_ p y = ({ s with laid := s.laid ++ [y] }, 0)) := Lib.hid (fun y => by unfold edR; rw [if_neg (by rw [hb]; exact Bool.noConfusion), if_neg (by rw [← NN.out]; exact hbad)])
      have g1 : decide (at_ < 0) = false := decide_eq_false h0
      have g2 : decide (at_ > 512) = false := decide_eq_false (by omega)
      have g3 : decide ((n : Int) > 512 - at_) = false := decide_eq_false (by omega)
      have hw3 : Hid (wrap64 (512 - at_) = 512 - at_) := Lib.hid (by unfold wrap64; omega)
      obtain ⟨a, rfl⟩ : ∃ a : Nat, at_ = (a : Int) := ⟨at_.toNat, by omega⟩
      have AL : Hid (a + n ≤ 512 ∧ n ≤ 512 ∧ k < s.n) := Lib.hid ⟨by omega, by omega, hk⟩
      have CP : Hid (Calls Try.prog 41 #[.slice av n cap] w.drew fun e w' => ∃ V, e = .returned V ∧ ∃ ad c, V = .slice ad n c ∧ Own w.heap.size w' (.slice ad n c) p ∧ Below w.heap.size w w' ∧ w'.cell? ⟨x, 2, none⟩ = some lv) := Lib.hid (by
        have hW : Below w.heap.size w w.drew := (Below.refl _ _).drew
        refine (copied_any _ p w.drew (HV.out.below hW) (by rw [← NN.out]; have := AL.out.2.1; omega)).mono ?_
        rintro e w' ⟨v', rfl, ho, hb'⟩
        obtain ⟨ad, c, rfl⟩ := own_slice ho
        rw [← NN.out] at ho ⊢
        have hbb := hW.trans (hb'.mono hW.size)
        exact ⟨_, rfl, ad, c, rfl, ho.mono hW.size, hbb, (H.out.below hbb).cell 2⟩)
      have q2' : w.cell? ⟨x, 2, none⟩ = some lv := H.out.cell 2
      have HC := Lib.hid hc
      have HB := Lib.hid hBw
      clear hb hbad h0 h5 hc hBw hk
      go_enter Try.func16, Try.ntmps16
      go_wp2_with fail
      refine hh.out.mono ?_
      rintro e w1 ⟨rfl, rfl⟩
      have hw4 := hw3.out
      go_wp2_with fail
      clear hw4 g1 g2 g3
      go_region_law (first
        | (refine step_calls (enters _ _ Try.func41 (by kernel_rfl) (by kernel_rfl)) rfl #[.tmp 35] _ rfl (us := #[.slice av n cap]) (by simp only [List.map_toArray, List.map_cons, List.map_nil]; rfl) CP.out ?_
           intro V2 w2 q2
           obtain ⟨ad, c, rfl, ho2, hb2, y3⟩ := q2.out
           have R3 := Lib.hid (And.intro ho2 hb2)
           have y5 : (w2.alloc (.cells #[.int .i64 (k : Int), .int .i64 (a : Int), .slice ad n c] 77)).cell? ⟨x, 2, none⟩ = some lv := (H.out.below (R3.out.2.alloc R3.out.2.size _)).cell 2
           clear ho2 hb2 q2)
        | (refine step_app1 okLy rfl (.tmp 32) (.tmp 38) rfl (B := B) (w := w2) (v := lv) (L := s.laid) rfl (H.out.below R3.out.2).laid (Nat.le_trans HB.out R3.out.2.size) ⟨k, a, ad, c, p⟩ (by show _ = #[_, _, Value.slice ad p.length c]; rw [← NN.out]) rfl rfl (by show (_ + 1) * 40 ≤ _; have := HC.out; omega) ?_
           intro a7 n7 c7 w7 q7
           have Z7 := Lib.hid ((H.out.below R3.out.2).addLaid q7.out.1 q7.out.2.1 q7.out.2.2 ⟨by show Own B w2 (.slice ad p.length c) p; rw [← NN.out]; exact R3.out.1.mono HB.out, AL.out.2.2, by show a + p.length ≤ 512; rw [← NN.out]; exact AL.out.1⟩)
           have z1 := Z7.out.2.1
           have z2 := Z7.out.2.2
           clear q7))
      all_goals
        go_wp2_with fail
        go_ret
        refine ⟨⟨k, a, ad, c, p⟩, by rw [E.out]; rfl, ?_, by simp, by simp, rfl⟩
        rw [E.out]
        exact RL.trans (lv' := lv) (kv' := kv) (Below.kept R3.out.2 _) (fun _ e => .inl e) ⟨_, _, Z7.out.1⟩
def blocksR (l : List Ly) : List Int := l.map fun y => (y.b : Int)
end Rf
end Go.Proofs.Ytbdlebengmbooaa
