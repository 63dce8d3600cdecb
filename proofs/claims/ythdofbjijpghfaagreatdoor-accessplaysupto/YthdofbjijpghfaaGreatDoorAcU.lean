/-
  The law's lives.
-/
import Derived.Test.YthdofbjijpghfaaGreatDoorMgD
namespace Go.Proofs.YthdofbjijpghfaaGreatDoor
open Go.RowKit
namespace Ac
def x0 : Bd := ⟨⟨#[47, 97]⟩, ⟨#[119]⟩, ⟨#[97, 110, 110]⟩, 1⟩
def D1 : DataW Unit := (DataW.map []).put (kl x0.p x0.n) (eR x0.s x0.v)
def D2 : DataW Unit := D1.del (kl x0.p x0.n)
theorem x0_fit : x0.Fit := ⟨by decide, by decide⟩
theorem x0_ok : (bdR x0).2 = 0 := by kernel_rfl
theorem key_lit (p n : ByteArray) : WideAt.IsKeyLit (kl p n) := by unfold kl; trivial
theorem in_x0 : InD D1 x0 := ⟨fun zd => by unfold D1; exact Maps.atKey_put_same Maps.isMap_empty (key_lit _ _) _ zd, by decide, by decide⟩
theorem in_D1 {x : Bd} (h : InD D1 x) : x = x0 := by
  by_cases e : kl x.p x.n = kl x0.p x0.n
  · have q := h.1 (.map [])
    rw [e, in_x0.1] at q
    obtain ⟨q1, q2⟩ := eR_inj q
    obtain ⟨r1, r2⟩ := kl_inj e h.2.1 h.2.2 in_x0.2.1 in_x0.2.2
    cases x
    simp only at q1 q2 r1 r2
    rw [← q1, ← q2, r1, r2]
  · have q := h.1 (.lit (.bool true))
    have q' := h.1 (.lit (.bool false))
    unfold D1 at q q'
    rw [Maps.atKey_put_other e] at q q'
    have z : ∀ zd, (DataW.map [] : DataW Unit).atKey (kl x.p x.n) zd = zd := fun zd => Maps.atKey_of_not_has rfl zd
    rw [z] at q q'
    rw [← q'] at q
    simp at q
theorem in_D2 {x : Bd} (h : InD D2 x) : False := by
  by_cases e : kl x.p x.n = kl x0.p x0.n
  · have q := h.1 (.lit (.bool true))
    have q' := h.1 (.lit (.bool false))
    unfold D2 at q q'
    rw [e, Maps.atKey_del_same] at q q'
    rw [← q'] at q
    simp at q
  · have hx : InD D1 x := ⟨fun zd => by have := h.1 zd; unfold D2 at this; rw [Maps.atKey_del_other e] at this; exact this, h.2⟩
    rw [in_D1 hx] at e
    exact e rfl
theorem yes1 (v : Int) (p : ByteArray) (h1 : isB x0.s x0.v x0.s v = true) (h2 : Lib.containsS (lineP p) x0.p = true) : MayP D1 x0.s v p := Or.inr ⟨fun e => by have := congrArg ByteArray.size e; simp [x0, rootT, ByteArray.size] at this, x0, in_x0, h1, (Lib.containsS_iff _ _).1 h2⟩
theorem no1 (s : ByteArray) (v : Int) (p : ByteArray) (hs : s ≠ rootT) (h : isB x0.s x0.v s v = false ∨ Lib.containsS (lineP p) x0.p = false) : ¬ MayP D1 s v p := by
  rintro (⟨e, _⟩ | ⟨_, x, a, c, d⟩)
  · exact hs e
  · rw [in_D1 a] at c d
    rcases h with h | h
    · rw [h] at c; simp at c
    · rw [(Lib.containsS_iff _ _).2 d] at h; simp at h
theorem no2 (s : ByteArray) (v : Int) (p : ByteArray) (hs : s ≠ rootT) : ¬ MayP D2 s v p := by
  rintro (⟨e, _⟩ | ⟨_, x, a, _, _⟩)
  · exact hs e
  · exact in_D2 a
theorem ne_root (s : ByteArray) (h : s.size = 3) : s ≠ rootT := fun e => by rw [e] at h; exact absurd h (by decide)
theorem m1 : MayP D1 ⟨#[97, 110, 110]⟩ 0 ⟨#[47, 97, 47, 98]⟩ := yes1 0 ⟨#[47, 97, 47, 98]⟩ (by kernel_rfl) (by kernel_rfl)
theorem m2 : MayP D1 ⟨#[97, 110, 110]⟩ 1 ⟨#[47, 97]⟩ := yes1 1 ⟨#[47, 97]⟩ (by kernel_rfl) (by kernel_rfl)
theorem m3 : ¬ MayP D1 ⟨#[97, 110, 110]⟩ 2 ⟨#[47, 97]⟩ := no1 _ _ _ (ne_root _ rfl) (Or.inl (by kernel_rfl))
theorem m4 : ¬ MayP D1 ⟨#[97, 110, 110]⟩ 0 ⟨#[47, 97, 98]⟩ := no1 _ _ _ (ne_root _ rfl) (Or.inr (by kernel_rfl))
theorem m5 : ¬ MayP D1 ⟨#[98, 111, 98]⟩ 0 ⟨#[47, 97]⟩ := no1 _ _ _ (ne_root _ rfl) (Or.inl (by kernel_rfl))
theorem m6 : ¬ MayP D2 ⟨#[97, 110, 110]⟩ 0 ⟨#[47, 97]⟩ := no2 _ _ _ (ne_root _ rfl)
theorem m7 : MayP D2 ⟨#[114, 111, 111, 116]⟩ 3 ⟨#[47, 97]⟩ := Or.inl ⟨rfl, by kernel_rfl, by kernel_rfl⟩
theorem a_ok : L.splitE x0.p = 0 := by kernel_rfl
end Ac
end Go.Proofs.YthdofbjijpghfaaGreatDoor
