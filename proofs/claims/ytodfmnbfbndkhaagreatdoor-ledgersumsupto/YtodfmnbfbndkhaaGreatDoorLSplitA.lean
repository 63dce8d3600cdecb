/-
  Split: of every text.
-/
import Derived.Test.YtodfmnbfbndkhaaGreatDoorLPieces
import Derived.Test.YtodfmnbfbndkhaaGreatDoorLReadK
namespace Go.Proofs.YtodfmnbfbndkhaaGreatDoor.L
open Go.RowKit
/-- The names of a path; nothing, if it is none. -/
def splitO (p : ByteArray) : Option (List ByteArray) :=
  if p.data.toList = [47] then some [] else
  if Lib.hasPrefix p.data.toList [47] = true ∧ p.size ≤ 64 ∧ ((pieces 47 p.data.toList.tail).map bytesOf).length ≤ 8 ∧ ((pieces 47 p.data.toList.tail).map bytesOf).all nameB = true then some ((pieces 47 p.data.toList.tail).map bytesOf) else none
def splitE (p : ByteArray) : Int := if (splitO p).isSome then 0 else 41
def splitT (p : ByteArray) : List ByteArray := (splitO p).getD []
theorem tail_of_prefix {l : List UInt8} (h : Lib.hasPrefix l [47] = true) : Lib.trimPrefix l [47] = l.tail := by
  unfold Lib.trimPrefix
  rw [if_pos h]
  cases l <;> rfl
theorem splitB_len (s : ByteArray) : Lib.countB s ⟨#[47]⟩ + 1 = ((pieces 47 s.data.toList).map bytesOf).length := by
  rw [← splitB_pieces, Lib.splitB_all ⟨#[47]⟩ (by decide) 0 _ s rfl]
set_option maxHeartbeats 4000000 in
set_option maxRecDepth 100000 in
theorem split_any (p : ByteArray) (w : World) (hm : HasM w) :
    Calls Tryz.prog 65 #[.string p] w fun e w' => ∃ v, e = .returned (.tuple #[v, .int .i64 (splitE p)]) ∧ OwnS w.heap.size w' v (splitT p) ∧ Below w.heap.size w w' := by
  have H := Lib.hid hm
  clear hm
  go_enter Tryz.func65, Tryz.ntmps65
  by_cases hr : p.data.toList = [47]
  · have hA : Hid (splitE p = 0 ∧ splitT p = []) := Lib.hid (by unfold splitE splitT splitO; rw [if_pos hr]; exact ⟨rfl, rfl⟩)
    have hp : (p.toList == [47]) = true := by rw [list_of_bytes, hr]; rfl
    go_wp2_with fail
    go_ret2
    exact ⟨.slice none 0 0, by rw [hA.out.1]; rfl, by rw [hA.out.2]; exact World.ownsRow_nil _ _ _ _, Below.refl _ _⟩
  have hp : (p.toList == [47]) = false := by rw [list_of_bytes, beq_eq_false_iff_ne]; exact hr
  have hnone : ∀ Q : Prop, ¬ (Lib.hasPrefix p.data.toList [47] = true ∧ p.size ≤ 64 ∧ ((pieces 47 p.data.toList.tail).map bytesOf).length ≤ 8 ∧ ((pieces 47 p.data.toList.tail).map bytesOf).all nameB = true) → splitE p = 41 ∧ splitT p = [] := by
    intro _ h
    unfold splitE splitT splitO
    rw [if_neg hr, if_neg h]
    exact ⟨rfl, rfl⟩
  have HN := Lib.hid (hnone True)
  clear hnone
  have CP : Hid (∀ W, Calls Tryz.prog 107 #[.string p, .string ⟨#[47]⟩] W fun e w' => e = .returned (.tuple #[.string ⟨(Lib.trimPrefix p.data.toList [47]).toArray⟩, .bool (Lib.hasPrefix p.data.toList [47])]) ∧ w' = W) := Lib.hid fun W => Tryz.strings_CutPrefix p ⟨#[47]⟩ W
  cases hpre : Lib.hasPrefix p.data.toList [47] with
  | false =>
    rw [hpre] at CP
    have hA := Lib.hid (HN.out (by rw [hpre]; simp))
    go_wp2_with fail
    refine (CP.out w).mono ?_
    rintro e w1 ⟨rfl, rfl⟩
    go_wp2_with fail
    go_ret2
    exact ⟨.slice none 0 0, by rw [hA.out.1]; rfl, by rw [hA.out.2]; exact World.ownsRow_nil _ _ _ _, Below.refl _ _⟩
  | true =>
    rw [hpre, tail_of_prefix hpre] at CP
    by_cases h64 : p.size ≤ 64
    · have g64 : decide ((p.size : Int) > 64) = false := decide_eq_false (by omega)
      obtain ⟨r, hrr⟩ : ∃ r : ByteArray, r = ⟨p.data.toList.tail.toArray⟩ := ⟨_, rfl⟩
      rw [← hrr] at CP
      have rl : r.data.toList = p.data.toList.tail := by rw [hrr]
      have rs : r.size ≤ 64 := by
        have h1 : r.data.toList.length ≤ p.data.toList.length := by rw [rl]; simp
        have h2 : r.data.toList.length = r.size := by simp
        have h3 : p.data.toList.length = p.size := by simp
        omega
      obtain ⟨ts, hts⟩ : ∃ ts, ts = (pieces 47 p.data.toList.tail).map bytesOf := ⟨_, rfl⟩
      have cn : Lib.countB r ⟨#[47]⟩ + 1 = ts.length := by rw [splitB_len, rl, hts]
      have sp : Lib.splitB ⟨#[47]⟩ 0 (Lib.countB r ⟨#[47]⟩) r = ts := by rw [splitB_pieces, rl, hts]
      have hsome : Hid (ts.length ≤ 8 → ts.all nameB = true → splitE p = 0 ∧ splitT p = ts) := Lib.hid (by
        intro h8 hall
        have e : splitO p = some ts := by
          unfold splitO
          rw [if_neg hr, if_pos ⟨hpre, h64, by rw [← hts]; exact h8, by rw [← hts]; exact hall⟩, ← hts]
        unfold splitE splitT
        rw [e]
        exact ⟨rfl, rfl⟩)
      have hno : Hid (¬ (ts.length ≤ 8 ∧ ts.all nameB = true) → splitE p = 41 ∧ splitT p = []) := Lib.hid (by
        intro h
        refine HN.out fun h2 => h ?_
        rw [hts]
        exact h2.2.2)
      have tl : ts.length ≤ 65 := by
        have := Lib.countB_le ⟨#[47]⟩ (by decide) _ r (Nat.le_refl _)
        omega
      have SP : Hid (∀ W m, W.cell? ⟨1, 0, none⟩ = some (.int .i64 m) → Calls Tryz.prog 108 #[.string r, .string ⟨#[47]⟩] W fun e w' => e = .returned (.slice (some ⟨W.heap.size, 0, none⟩) ts.length ts.length) ∧ OwnS W.heap.size w' (.slice (some ⟨W.heap.size, 0, none⟩) ts.length ts.length) ts ∧ Below W.heap.size W w') := Lib.hid fun W m hm => by
        have h := Tryz.strings_Split r ⟨#[47]⟩ m W (by omega) hm (by decide)
        rw [cn, sp] at h
        refine h.mono ?_
        rintro e w' ⟨rfl, rfl⟩
        refine ⟨rfl, ⟨by simp [cellsS], .inr ⟨W.heap.size, ts.length, (ts.map Value.string).toArray, rfl, Nat.le_refl _, Array.getElem?_push_size, Nat.le_refl _, by unfold maxLen; omega, by simp, by show List.take (ts.length * 1) (ts.map Value.string) = _; rw [Nat.mul_one, List.take_of_length_le (by simp)]; rfl⟩⟩, (Below.refl _ W).alloc (Nat.le_refl _) _⟩
      clear HN hrr rl rs hts cn sp
      go_wp2_with fail
      refine (CP.out w).mono ?_
      rintro e w1 ⟨rfl, rfl⟩
      go_wp2_with fail
      obtain ⟨m, hm⟩ := H.out
      refine (SP.out w1 m hm).mono ?_
      rintro e w2 ⟨rfl, own, hb⟩
      have O2 := Lib.hid own
      have B2 := Lib.hid hb
      clear own hb hm SP CP
      by_cases h8 : ts.length ≤ 8
      · have g8 : decide ((ts.length : Int) > 8) = false := decide_eq_false (by omega)
        have AN := Lib.hid (allNames_any _ ts w2 O2.out.strs)
        cases hall : ts.all nameB with
        | true =>
          rw [hall] at AN
          have hA := Lib.hid (hsome.out h8 hall)
          go_wp2_with fail
          refine AN.out.mono ?_
          rintro e w3 ⟨rfl, hb⟩
          have O3 := Lib.hid (O2.out.below hb)
          have B3 := Lib.hid (B2.out.trans (hb.mono B2.out.size))
          clear hb
          go_wp2_with fail
          go_ret2
          exact ⟨_, by rw [hA.out.1]; rfl, by rw [hA.out.2]; exact O3.out, B3.out⟩
        | false =>
          rw [hall] at AN
          have hA := Lib.hid (hno.out (by rw [hall]; simp))
          go_wp2_with fail
          refine AN.out.mono ?_
          rintro e w3 ⟨rfl, hb⟩
          have B3 := Lib.hid (B2.out.trans (hb.mono B2.out.size))
          clear hb
          go_wp2_with fail
          go_ret2
          exact ⟨.slice none 0 0, by rw [hA.out.1]; rfl, by rw [hA.out.2]; exact World.ownsRow_nil _ _ _ _, B3.out⟩
      · have g8 : decide ((ts.length : Int) > 8) = true := decide_eq_true (by omega)
        have hA := Lib.hid (hno.out (fun h => h8 h.1))
        go_wp2_with fail
        go_ret2
        exact ⟨.slice none 0 0, by rw [hA.out.1]; rfl, by rw [hA.out.2]; exact World.ownsRow_nil _ _ _ _, B2.out⟩
    · have g64 : decide ((p.size : Int) > 64) = true := decide_eq_true (by omega)
      have hA := Lib.hid (HN.out (fun h => h64 h.2.1))
      go_wp2_with fail
      refine (CP.out w).mono ?_
      rintro e w1 ⟨rfl, rfl⟩
      go_wp2_with fail
      go_ret2
      exact ⟨.slice none 0 0, by rw [hA.out.1]; rfl, by rw [hA.out.2]; exact World.ownsRow_nil _ _ _ _, Below.refl _ _⟩
/-- The names of a path that Join made. -/
theorem split_path (ts : List ByteArray) (h : ts.all nameB = true) (h8 : ts.length ≤ 8) (h64 : (pathL ts).length ≤ 64) : splitE (bytesOf (pathL ts)) = 0 ∧ splitT (bytesOf (pathL ts)) = ts := by
  cases ts with
  | nil => exact ⟨rfl, rfl⟩
  | cons t r =>
    have e : pathL (t :: r) = pathOf (t :: r) := rfl
    have ed : (bytesOf (pathL (t :: r))).data.toList = pathOf (t :: r) := by simp [bytesOf, e]
    have hp := pieces_path (t :: r) h (by simp)
    have hm : (pieces 47 (pathOf (t :: r)).tail).map bytesOf = t :: r := by
      rw [hp, List.map_map]
      conv => rhs; rw [← List.map_id (t :: r)]
      congr 1
    have hne : pathOf (t :: r) ≠ [47] := by
      intro h2
      rw [h2] at hm
      have ht := h
      rw [← hm] at ht
      exact absurd ht (by decide)
    have hs : (bytesOf (pathL (t :: r))).size ≤ 64 := by
      have : (bytesOf (pathL (t :: r))).size = (pathL (t :: r)).length := by simp [bytesOf, ByteArray.size]
      omega
    have hpf : Lib.hasPrefix (pathOf (t :: r)) [47] = true := by simp [pathOf, Lib.hasPrefix]
    have e : splitO (bytesOf (pathL (t :: r))) = some (t :: r) := by
      unfold splitO
      rw [ed, if_neg hne, hm, if_pos ⟨hpf, hs, h8, h⟩]
    unfold splitE splitT
    rw [e]
    exact ⟨rfl, rfl⟩
end Go.Proofs.YtodfmnbfbndkhaaGreatDoor.L
