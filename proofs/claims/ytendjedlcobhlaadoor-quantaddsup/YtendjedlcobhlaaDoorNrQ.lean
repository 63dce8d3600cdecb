/-
  Plus, Within of every two lists.
-/
import Derived.Test.YtendjedlcobhlaaDoorNrP
namespace Go.Proofs.YtendjedlcobhlaaDoor
open Go.RowKit Go.Lib
noncomputable def plE (l t : List Am) : Int := if bothB l t = true then nrE (l ++ t) else 31
noncomputable def plL (l t : List Am) : List Am := if bothB l t = true then nrL (l ++ t) else []
theorem own_plQ {B : Nat} {w : World} {v : Value} {l : List Am} (H : OwnR kAm B w v l) : ∀ ad n c, v = .slice (some ad) n c → ∃ b off, ad = ⟨b, off, none⟩ := by
  obtain ⟨_, ⟨hv, hn⟩ | ⟨g, cap, cur, hv, _⟩⟩ := H
  · intro ad n c e; rw [hv] at e; injection e with e; cases e
  · intro ad n c e; rw [hv] at e; injection e with e; injection e with e; exact ⟨g, 0, e.symm⟩
set_option maxHeartbeats 4000000 in
set_option maxRecDepth 100000 in
theorem plus_any (v u : Value) (l t : List Am) (w : World) (hv : Row kAm w v l) (hu : Row kAm w u t) (hz : (l.length + t.length) * 24 ≤ 140737488355328) (hf : ∀ x ∈ l, x.v ≤ 9223372036854775807) (hf' : ∀ x ∈ t, x.v ≤ 9223372036854775807) :
    Calls Tryd.prog 11 #[v, u] w fun e w' => ∃ a n c, e = .returned (.tuple #[.slice a n c, .int .i64 (plE l t)]) ∧ OwnR kAm w.heap.size w' (.slice a n c) (plL l t) ∧ Below w.heap.size w w' := by
  have V := Lib.hid hv
  have U := Lib.hid hu
  have Z := Lib.hid hz
  obtain ⟨va, vc, rfl, -, -⟩ := hv.len
  obtain ⟨ua, uc, rfl, -, -⟩ := hu.len
  have FF : Hid (∀ x ∈ l ++ t, x.v ≤ 9223372036854775807) := Lib.hid fun x hx => (List.mem_append.1 hx).elim (hf x) (hf' x)
  clear hz hf hf'
  cases hb : bothB l t with
  | false =>
    have e1 : plE l t = 31 := by unfold plE; rw [hb]; rfl
    have e2 : plL l t = [] := by unfold plL; rw [hb]; rfl
    have VB : Hid (Calls Tryd.prog 34 #[.slice va l.length vc, .slice ua t.length uc] w fun e w' => e = .returned (.bool false) ∧ Below w.heap.size w w') := Lib.hid (by have q := bothValid_any _ _ l t w hv hu; rw [hb] at q; exact q)
    rw [e1, e2]
    clear e1 e2 hb hv hu
    go_enter Tryd.func11, Tryd.ntmps11
    go_wp2_with fail
    refine VB.out.mono ?_
    rintro e w1 ⟨rfl, hb⟩
    have B1 := Lib.hid hb
    clear hb
    go_wp2_with fail
    go_ret2
    exact ⟨none, 0, 0, rfl, OwnR.nil _ _ _, B1.out⟩
  | true =>
    have e1 : plE l t = nrE (l ++ t) := by unfold plE; rw [hb]; rfl
    have e2 : plL l t = nrL (l ++ t) := by unfold plL; rw [hb]; rfl
    have VB : Hid (Calls Tryd.prog 34 #[.slice va l.length vc, .slice ua t.length uc] w fun e w' => e = .returned (.bool true) ∧ Below w.heap.size w w') := Lib.hid (by have q := bothValid_any _ _ l t w hv hu; rw [hb] at q; exact q)
    rw [e1, e2]
    clear e1 e2 hb hv hu
    obtain ⟨E, hE⟩ : ∃ E, E = nrE (l ++ t) := ⟨_, rfl⟩
    rw [← hE]
    have HE := Lib.hid hE
    clear hE
    go_enter Tryd.func11, Tryd.ntmps11
    go_wp2_with fail
    refine VB.out.mono ?_
    rintro e w1 ⟨rfl, hb⟩
    have B1 := Lib.hid hb
    clear hb
    go_wp2_with fail
    have BA : ∀ o, Below w1.heap.size w1 (w1.alloc o) := fun o => (Below.refl _ w1).alloc (Nat.le_refl _) o
    refine (concat_row _ (.slice va l.length vc) (.slice ua t.length uc) l t _ ?r0 ?r1 Z.out ?c0 ?c1).mono ?_
    case r0 => exact V.out.below (B1.out.trans ((BA _).mono B1.out.size))
    case r1 => exact U.out.below (B1.out.trans ((BA _).mono B1.out.size))
    case c0 => rw [World.cell?_alloc_new]; rfl
    case c1 => rw [World.cell?_alloc_new]; rfl
    rintro e w2 ⟨v2, rfl, ho, hb⟩
    have O2 := Lib.hid ho
    have B2 : Hid (Below w.heap.size w w2) := Lib.hid (B1.out.trans (((BA _).trans (hb.mono (BA _).size)).mono B1.out.size))
    clear ho hb BA
    go_wp2_with fail
    refine (normal_any v2 (l ++ t) w2 (O2.out.row okAm) (own_plQ O2.out) (by rw [List.length_append]; exact Z.out) FF.out).mono ?_
    rintro e w3 ⟨a, n, c, rfl, ho, hb⟩
    have O3 : Hid (OwnR kAm w.heap.size w3 (.slice a n c) (nrL (l ++ t)) ∧ Below w.heap.size w w3) := Lib.hid ⟨ho.mono B2.out.size, B2.out.trans (hb.mono B2.out.size)⟩
    rw [← HE.out]
    clear ho hb
    go_wp2_with fail
    go_ret2
    exact ⟨a, n, c, rfl, O3.out.1, O3.out.2⟩
end Go.Proofs.YtendjedlcobhlaaDoor
