/-
  The law QuantAddsUp.
-/
import Derived.Test.YtendjedlcobhlaaDoorLawAdE
import Derived.Test.YtendjedlcobhlaaDoorLawAdY
import Derived.Test.YtendjedlcobhlaaDoorLawAdZ
namespace Go.Proofs.YtendjedlcobhlaaDoor
open Go.RowKit Go.Lib
open Go.Sort (grow)
theorem quantAddsUp_core (v u y : Value) (l t s : List Am) (m : Amt) (w : World) (G : Glob w) (hm : Mark w m) (hv : Row kAm w v l) (hu : Row kAm w u t) (hy : Row kAm w y s) (hz : (l.length + 1) * 24 ≤ 140737488355328) (hz' : (t.length + 1) * 24 ≤ 140737488355328) (hz'' : (s.length + 1) * 24 ≤ 140737488355328) (hf : ∀ x ∈ l, x.v ≤ 9223372036854775807) (hf' : ∀ x ∈ t, x.v ≤ 9223372036854775807) (hf'' : ∀ x ∈ s, x.v ≤ 9223372036854775807) :
    Calls Tryd.prog 4 #[v, u, y] w fun e w' => e = .returned (.bool true) ∧ Below w.heap.size w w' := by
  cases hb : bothB l t with
  | false =>
    obtain ⟨e1, e2⟩ := plus_no hb
    by_cases hc : amsC l = 0
    · have hd : amsC t ≠ 0 := by
        intro q
        unfold bothB at hb
        rw [decide_eq_true hc, decide_eq_true q] at hb
        cases hb
      exact addsUp_bad2 v u y l t s _ m _ _ _ _ (amsC t) hc rfl hd e1 e2 w G hm hv hu hy hz hz' hz'' hf hf' hf'' rfl rfl rfl rfl rfl
    · exact addsUp_bad1 v u y l t s _ m _ _ _ _ (amsC l) rfl hc e1 e2 w G hm hv hu hy hz hz' hz'' hf hf' hf'' rfl rfl rfl rfl rfl
  | true =>
    obtain ⟨_, q⟩ := nam_minus hb hf hf'
    by_cases hE : plE l t = 0
    · rcases q with ⟨q1, q2⟩ | ⟨q1, q2⟩
      · exact addsUp_z0 v u y l t s _ m _ _ _ _ ⟨#[0]⟩ _ _ _ _ _ _ _ _ _ _ _ hb ⟨rfl, rfl, rfl⟩ ⟨rfl, rfl, rfl⟩ ⟨rfl, rfl, rfl⟩ rfl rfl hE q1 q2 (by decide) w G hm hv hu hy hz hz' hz'' hf hf' hf'' rfl rfl rfl rfl rfl
      · exact addsUp_z1 v u y l t s _ m _ _ _ _ _ _ _ _ _ _ _ _ _ _ _ _ hb ⟨rfl, rfl, rfl⟩ ⟨rfl, rfl, rfl⟩ ⟨rfl, rfl, rfl⟩ rfl rfl hE q1 rfl q2 w G hm hv hu hy hz hz' hz'' hf hf' hf'' rfl rfl rfl rfl rfl
    · rcases q with ⟨q1, q2⟩ | ⟨q1, q2⟩
      · exact addsUp_e0 v u y l t s _ m _ _ _ _ _ ⟨#[0]⟩ _ _ _ _ _ _ _ _ _ _ _ hb ⟨rfl, rfl, rfl⟩ ⟨rfl, rfl, rfl⟩ ⟨rfl, rfl, rfl⟩ rfl rfl rfl hE q1 q2 (by decide) w G hm hv hu hy hz hz' hz'' hf hf' hf'' rfl rfl rfl rfl rfl
      · exact addsUp_e1 v u y l t s _ m _ _ _ _ _ _ _ _ _ _ _ _ _ _ _ _ _ hb ⟨rfl, rfl, rfl⟩ ⟨rfl, rfl, rfl⟩ ⟨rfl, rfl, rfl⟩ rfl rfl rfl hE q1 rfl q2 w G hm hv hu hy hz hz' hz'' hf hf' hf'' rfl rfl rfl rfl rfl
theorem quantAddsUp_walk (v : Value) (l : List Am) (u : Value) (t : List Am) (y : Value) (s : List Am) (w : World) (hN : Glob w ∧ ∃ m, Mark w m) (hv : Row kAm w v l) (hs : (l.length + 1) * 24 ≤ 140737488355328 ∧ ∀ x ∈ l, x.v ≤ 9223372036854775807) (hu : Row kAm w u t) (hs' : (t.length + 1) * 24 ≤ 140737488355328 ∧ ∀ x ∈ t, x.v ≤ 9223372036854775807) (hy : Row kAm w y s) (hs'' : (s.length + 1) * 24 ≤ 140737488355328 ∧ ∀ x ∈ s, x.v ≤ 9223372036854775807) :
    Calls Tryd.prog 4 #[v, u, y] w fun e w' => e = .returned (.bool true) ∧ Below w.heap.size w w' := by
  obtain ⟨G, m, hm⟩ := hN
  exact quantAddsUp_core v u y l t s m w G hm hv hu hy hs.1 hs'.1 hs''.1 hs.2 hs'.2 hs''.2
end Go.Proofs.YtendjedlcobhlaaDoor
