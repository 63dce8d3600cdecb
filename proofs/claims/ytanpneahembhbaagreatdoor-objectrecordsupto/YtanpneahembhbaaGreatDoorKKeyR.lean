/-
  RANGES OF KEYS, without the program.
-/
import Derived.Test.YtanpneahembhbaaGreatDoorKKeyM
namespace Go.Proofs.YtanpneahembhbaaGreatDoor.K
open Go
/-- Does the tuple begin with these parts? -/
def begB : List ByteArray → List ByteArray → Bool
  | [], _ => true
  | _ :: _, [] => false
  | p :: r, t :: q => if p = t then begB r q else false
theorem begB_take (ps ts : List ByteArray) : begB ps ts = true ↔ ps.length ≤ ts.length ∧ ts.take ps.length = ps := by
  induction ps generalizing ts with
  | nil => simp [begB]
  | cons p r ih =>
    cases ts with
    | nil => simp [begB]
    | cons t q =>
      rw [begB]
      by_cases e : p = t
      · subst e
        rw [if_pos rfl, ih q]
        simp
      · rw [if_neg e]
        simp only [Bool.false_eq_true, false_iff, List.length_cons, List.take_succ_cons, List.cons.injEq]
        exact fun h => e h.2.1.symm
/-- Where a range ends. -/
def toL : List ByteArray → List UInt8
  | [] => []
  | [t] => enc t.data.toList ++ [0, 2]
  | t :: u :: r => enc t.data.toList ++ 0 :: 1 :: toL (u :: r)
theorem to_body (ts : List ByteArray) (h : ts ≠ []) : toL ts = bodyL ts ++ [0, 2] := by
  induction ts with
  | nil => exact absurd rfl h
  | cons t r ih =>
    cases r with
    | nil => rfl
    | cons u r => rw [toL, bodyL, ih (by simp)]; simp
theorem from_to (ts : List ByteArray) (h : ts ≠ []) : bl (keyL ts) (toL ts) = true := by
  rw [body_key ts h, to_body ts h, bl_app]; rfl
theorem to_head (t : ByteArray) (r : List ByteArray) : ∃ c X, c < 255 ∧ toL (t :: r) = enc t.data.toList ++ 0 :: c :: X := by
  cases r with
  | nil => exact ⟨2, [], by decide, rfl⟩
  | cons u r => exact ⟨1, _, by decide, rfl⟩
theorem in_range (ps ts : List ByteArray) (h : ps ≠ []) : (!(bl (keyL ts) (keyL ps)) && bl (keyL ts) (toL ps)) = begB ps ts := by
  induction ps generalizing ts with
  | nil => exact absurd rfl h
  | cons p r ih =>
    cases ts with
    | nil =>
      rw [key_order]; rfl
    | cons t q =>
      by_cases e : t = p
      · subst e
        rw [begB, if_pos rfl, keyL, keyL, bl_app, bl_same, bl_same]
        cases r with
        | nil =>
          rw [toL, bl_app, keyL, bl_to_nil]; rfl
        | cons u r => rw [toL, bl_app, bl_same, bl_same, ih q (by simp)]
      · have e' : p ≠ t := fun h => e h.symm
        rw [begB, if_neg e']
        obtain ⟨c, X, hc, hX⟩ := to_head p r
        rw [hX, keyL, keyL, enc_order 1 1 (by decide) (by decide) _ _ _ _ (data_ne e), enc_order 1 c (by decide) hc _ _ _ _ (data_ne e)]
        cases bl t.data.toList p.data.toList <;> rfl
theorem ranges_apart (a b : List ByteArray) (h1 : begB a b = false) (h2 : begB b a = false) : bl (toL a) (keyL b) = true ∨ bl (toL b) (keyL a) = true := by
  induction a generalizing b with
  | nil => exact absurd h1 (by simp [begB])
  | cons p r ih =>
    cases b with
    | nil => exact absurd h2 (by simp [begB])
    | cons q s =>
      by_cases e : p = q
      · subst e
        rw [begB, if_pos rfl] at h1 h2
        cases r with
        | nil => exact absurd h1 (by simp [begB])
        | cons u r =>
          cases s with
          | nil => exact absurd h2 (by simp [begB])
          | cons v s =>
            rw [toL, toL, show keyL (p :: v :: s) = enc p.data.toList ++ 0 :: 1 :: keyL (v :: s) from rfl, show keyL (p :: u :: r) = enc p.data.toList ++ 0 :: 1 :: keyL (u :: r) from rfl, bl_app, bl_app, bl_same, bl_same, bl_same, bl_same]
            exact ih (v :: s) h1 h2
      · have e' : q ≠ p := fun h => e h.symm
        obtain ⟨c, X, hc, hX⟩ := to_head p r
        obtain ⟨d, Y, hd, hY⟩ := to_head q s
        rw [hX, hY, keyL, keyL, enc_order c 1 hc (by decide) _ _ _ _ (data_ne e), enc_order d 1 hd (by decide) _ _ _ _ (data_ne e')]
        cases g : bl p.data.toList q.data.toList with
        | true => exact .inl rfl
        | false =>
          right
          cases g2 : bl q.data.toList p.data.toList with
          | true => rfl
          | false => exact absurd (bl_total _ _ g g2) (data_ne e)
end Go.Proofs.YtanpneahembhbaaGreatDoor.K
