/-
  Path, above, Line, Parent, Under: of every text.
-/
import Derived.Test.YtodfmnbfbndkhaaGreatDoorLPathM
namespace Go.Proofs.YtodfmnbfbndkhaaGreatDoor.L
open Go.RowKit
set_option maxHeartbeats 2000000 in
theorem path_any (p : ByteArray) (w : World) (hm : HasM w) : Calls Tryz.prog 35 #[.string p] w fun e w' => e = .returned (.int .i64 (splitE p)) ∧ Below w.heap.size w w' := by
  have H := Lib.hid hm
  clear hm
  go_enter Tryz.func35, Tryz.ntmps35
  go_wp2_with fail
  refine (split_any p w H.out).mono ?_
  rintro e w1 ⟨v, rfl, _, hb⟩
  have B1 := Lib.hid hb
  clear hb
  go_wp2_with fail
  go_ret
  exact ⟨rfl, B1.out⟩
set_option maxHeartbeats 2000000 in
theorem above_any (ts : List ByteArray) (hg : Good ts) (h : ts ≠ []) (w : World) : Calls Tryz.prog 36 #[.string (pth ts)] w fun e w' => e = .returned (.string (pth ts.dropLast)) ∧ w' = w := by
  have hl := last_slash hg.1 h
  have he := above_bytes h
  have hs := pth_size ts
  have h64 := hg.2.2
  have hle : (pathOf ts.dropLast).length ≤ (pth ts).size := by
    rw [hs, pathL_ne h]
    conv => rhs; rw [← List.dropLast_concat_getLast h]
    rw [pathOf_app, List.length_append]
    omega
  have hs1 : 1 ≤ (pth ts).size := by
    rw [hs, pathL_ne h]
    cases ts with
    | nil => exact absurd rfl h
    | cons t r => rw [pathOf_cons]; simp
  obtain ⟨q, hq⟩ : ∃ q, q = pth ts := ⟨_, rfl⟩
  obtain ⟨n, hn⟩ : ∃ n, n = (pathOf ts.dropLast).length := ⟨_, rfl⟩
  obtain ⟨r, hr⟩ : ∃ r, r = pth ts.dropLast := ⟨_, rfl⟩
  rw [← hq] at hl he hs hle hs1 ⊢
  rw [← hn] at hl he hle
  rw [← hr] at he ⊢
  have hq64 : q.size ≤ 64 := by omega
  clear hq hn hr hs h64
  have LI : Hid (∀ W, Calls Tryz.prog 66 #[.string q, .string ⟨#[47]⟩] W fun e w' => e = .returned (.int .i64 (n : Int)) ∧ w' = W) := Lib.hid fun W => by
    have := Tryz.strings_LastIndex_one q ⟨#[47]⟩ (by decide) (by omega) W
    rw [show Lib.lastIndexByte q (((⟨#[47]⟩ : ByteArray)[0]'(by decide)).toNat : Int) = n from hl] at this
    exact this
  have HE := Lib.hid he
  clear hl he
  go_enter Tryz.func36, Tryz.ntmps36
  go_wp2_with fail
  refine (LI.out w).mono ?_
  rintro e w1 ⟨rfl, rfl⟩
  go_wp2_with fail
  go_ret
  refine ⟨?_, rfl⟩
  show Ending.returned (.string (q.extract 0 (max (n : Int) 1).toNat)) = _
  rw [show (max (n : Int) 1).toNat = max n 1 by omega, HE.out]
/-- The line of a path: it, and all above it. -/
def lineTo (ts : List ByteArray) (m : Nat) : List ByteArray := (List.range m).map fun j => pth (ts.take (ts.length - j))
def lineOf (ts : List ByteArray) : List ByteArray := lineTo ts (ts.length + 1)
theorem lineTo_succ (ts : List ByteArray) (m : Nat) : lineTo ts (m + 1) = lineTo ts m ++ [pth (ts.take (ts.length - m))] := by
  unfold lineTo
  rw [List.range_succ, List.map_append]
  rfl
theorem lineTo_length (ts : List ByteArray) (m : Nat) : (lineTo ts m).length = m := by simp [lineTo]
theorem pth_root {ts : List ByteArray} (hg : Good ts) (h : ts ≠ []) : ((pth ts).toList == [47]) = false := by
  rw [list_of_bytes, pth_data, pathL_ne h, beq_eq_false_iff_ne]
  cases ts with
  | nil => exact absurd rfl h
  | cons t r =>
    intro e
    have h2 := pathOf_two (r := r) (show nameB t = true by have := hg.1; rw [List.all_cons, Bool.and_eq_true] at this; exact this.1)
    rw [e] at h2
    exact absurd h2 (by decide)
theorem dropLast_take (ts : List ByteArray) (k : Nat) (hk : k + 1 ≤ ts.length) : (ts.take (k + 1)).dropLast = ts.take k := by
  rw [List.dropLast_eq_take, List.length_take, List.take_take]
  congr 1
  omega
set_option maxHeartbeats 4000000 in
set_option maxRecDepth 100000 in
theorem line_any (ts : List ByteArray) (hg : Good ts) (w : World) (hm : HasM w) :
    Calls Tryz.prog 45 #[.string (pth ts)] w fun e w' => ∃ v, e = .returned (.tuple #[v, .int .i64 0]) ∧ OwnS w.heap.size w' v (lineOf ts) ∧ Below w.heap.size w w' := by
  have PA := Lib.hid (path_any (pth ts) w hm)
  rw [show splitE (pth ts) = 0 by unfold splitE; rw [splitO_good hg]; rfl] at PA
  have GG := Lib.hid hg
  have h8 := hg.2.1
  obtain ⟨q, hq⟩ : ∃ q, q = pth ts := ⟨_, rfl⟩
  have Q : Aside (q = pth ts) := hq
  rw [← hq] at PA ⊢
  clear hm hg hq
  go_enter Tryz.func45, Tryz.ntmps45
  go_wp2_with fail
  refine PA.out.mono ?_
  rintro e w1 ⟨rfl, hb⟩
  have B1 := Lib.hid hb
  clear hb PA
  go_wp2_with fail
  go_loopg [0, 5] ts.length (fun g sp sl wr => ∃ (k : Nat) (vl : Value), k ≤ ts.length ∧ g = k ∧ sp = .string (pth (ts.take k)) ∧ sl = vl ∧ OwnS w.heap.size wr vl (lineTo ts (ts.length - k)) ∧ Below w.heap.size w wr)
  case atStart => exact ⟨ts.length, _, Nat.le_refl _, rfl, by rw [List.take_length, Q.out], rfl, by rw [Nat.sub_self]; exact World.ownsRow_nil _ _ _ _, B1.out⟩
  case round =>
    obtain ⟨k, vl, hk, hgk, rfl, rfl, own, hb⟩ := hrel
    have O := Lib.hid own
    have B := Lib.hid hb
    have GK := Lib.hid hgk
    clear own hb hgk
    cases k with
    | zero =>
      have e0 : pth (ts.take 0) = ⟨#[47]⟩ := rfl
      rw [e0]
      have L : Hid (((lineTo ts (ts.length - 0)).length + 1) * 16 ≤ 140737488355328) := Lib.hid (by rw [lineTo_length]; omega)
      go_wp2_with (at_builtin; refine app_txt rfl _ _ rfl rfl O.out B.out.size ⟨#[47]⟩ rfl L.out ?_)
      intro v' w' h1 h2
      have B2 := Lib.hid (B.out.trans ((Below.refl _ _).grown h2 B.out.size (fun k hk => (O.out.lt k hk).1)))
      have O2 : Hid (OwnS w.heap.size w' v' (lineOf ts)) := Lib.hid (by
        unfold lineOf
        rw [lineTo_succ, Nat.sub_self]
        exact h1)
      clear h1 h2 O B L
      go_wp2_with fail
      go_ret2
      exact ⟨v', rfl, O2.out, B2.out⟩
    | succ k =>
      have hgk := GG.out.take (k + 1)
      have hne : ts.take (k + 1) ≠ [] := by
        intro e
        have := congrArg List.length e
        rw [List.length_take, List.length_nil] at this
        omega
      have hr := pth_root hgk hne
      have AB : Hid (∀ W, Calls Tryz.prog 36 #[.string (pth (ts.take (k + 1)))] W fun e w' => e = .returned (.string (pth (ts.take k))) ∧ w' = W) := Lib.hid fun W => by
        have := above_any (ts.take (k + 1)) hgk hne W
        rw [dropLast_take ts k hk] at this
        exact this
      have L : Hid (((lineTo ts (ts.length - (k + 1))).length + 1) * 16 ≤ 140737488355328) := Lib.hid (by rw [lineTo_length]; omega)
      obtain ⟨x, hx⟩ : ∃ x, x = pth (ts.take (k + 1)) := ⟨_, rfl⟩
      have X : Aside (x = pth (ts.take (k + 1))) := hx
      rw [← hx] at hr AB ⊢
      clear hx hgk hne
      go_wp2_with (at_builtin; refine app_txt rfl _ _ rfl rfl O.out B.out.size x rfl L.out ?_)
      intro v' w' h1 h2
      have B2 := Lib.hid (B.out.trans ((Below.refl _ _).grown h2 B.out.size (fun k hk => (O.out.lt k hk).1)))
      have O2 : Hid (OwnS w.heap.size w' v' (lineTo ts (ts.length - k))) := Lib.hid (by
        rw [show ts.length - k = ts.length - (k + 1) + 1 by omega, lineTo_succ, show ts.length - (ts.length - (k + 1)) = k + 1 by omega, ← X.out]
        exact h1)
      clear h1 h2 O B L
      go_wp2_with fail
      refine (AB.out w').mono ?_
      rintro e w2 ⟨rfl, rfl⟩
      go_wp2_with fail
      go_roundg k
      case measure => have := GK.out; omega
      case rel => exact ⟨k, _, by omega, rfl, rfl, rfl, O2.out, B2.out⟩
end Go.Proofs.YtodfmnbfbndkhaaGreatDoor.L
