/-
  The document s Parent, Under (as RefUnder, without the law).
-/
import Derived.Test.YthdofbjijpghfaaGreatDoorMgE
namespace Go.Proofs.YthdofbjijpghfaaGreatDoor.L
open Go.RowKit
theorem lineTo_at (ts : List ByteArray) (m j : Nat) (h : j < m) : (lineTo ts m).getD j ⟨#[]⟩ = pth (ts.take (ts.length - j)) := by
  rw [List.getD_eq_getElem?_getD]
  unfold lineTo
  rw [List.getElem?_map, List.getElem?_range h]
  rfl
/-- Is it among the first of a line? -/
def inB (ts : List ByteArray) (b : ByteArray) (k : Nat) : Bool := decide (b.data.toList ∈ (lineTo ts k).map (·.data.toList))
theorem inB_succ (ts : List ByteArray) (b : ByteArray) (k : Nat) : inB ts b (k + 1) = (inB ts b k || decide (b.data.toList = (pth (ts.take (ts.length - k))).data.toList)) := by
  unfold inB
  rw [lineTo_succ, List.map_append]
  simp
theorem inB_under {ts : List ByteArray} (hg : Good ts) (b : ByteArray) : inB ts b (ts.length + 1) = underB (pth ts) b := by
  rw [Bool.eq_iff_iff, under_line hg]
  unfold inB lineTo
  rw [decide_eq_true_eq]
  simp only [List.map_map, List.mem_map, List.mem_range, Function.comp]
  constructor
  · rintro ⟨j, hj, e⟩
    exact ⟨ts.length - j, by omega, (data_inj e).symm⟩
  · rintro ⟨k, hk, rfl⟩
    exact ⟨ts.length - k, by omega, by rw [show ts.length - (ts.length - k) = k by omega]⟩
/-- What Parent tells of a path. -/
def parentR (ts : List ByteArray) : ByteArray × Int := if ts = [] then (⟨#[]⟩, 143) else (pth ts.dropLast, 0)
set_option maxHeartbeats 2000000 in
theorem refUnder_none (p b : ByteArray) (w : World) (hs : p.size ≤ 1048576) (hn : splitO p = none) : Calls Tryz.prog 45 #[.string p, .string b] w fun e w' => e = .returned (.bool false) ∧ Below w.heap.size w w' := by
  have L := Lib.hid (refLine_none p w hs hn)
  go_enter Tryz.func45, Tryz.ntmps45
  go_wp2_with fail
  refine L.out.mono ?_
  rintro e w1 ⟨rfl, hb⟩
  have B1 := Lib.hid hb
  clear hb L
  go_wp2_with fail
  refine wp_loop_rounds 1 ?_
  rw [rounds_succ]
  go_wp2_with fail
  go_ret
  exact ⟨rfl, B1.out⟩
set_option maxHeartbeats 4000000 in
set_option maxRecDepth 100000 in
theorem refUnder_any (ts : List ByteArray) (b : ByteArray) (hg : Good ts) (w : World) : Calls Tryz.prog 45 #[.string (pth ts), .string b] w fun e w' => e = .returned (.bool (inB ts b (ts.length + 1))) ∧ Below w.heap.size w w' := by
  have L := Lib.hid (refLine_any ts hg w)
  have h8 := hg.2.1
  obtain ⟨q, hq⟩ : ∃ q, q = pth ts := ⟨_, rfl⟩
  rw [← hq] at L ⊢
  clear hg hq
  go_enter Tryz.func45, Tryz.ntmps45
  go_wp2_with fail
  refine L.out.mono ?_
  rintro e w1 ⟨v, rfl, own, hb⟩
  have B1 := Lib.hid hb
  have S1 := Lib.hid own.strs
  have hlen : (lineOf ts).length = ts.length + 1 := lineTo_length _ _
  obtain ⟨a, cap, hv, hlc, hcm⟩ := S1.out.len
  rw [hlen] at hv hlc
  subst hv
  unfold maxLen at hcm
  clear hb own L
  go_wp2_with fail
  go_loopg [7] (ts.length + 1) (fun g si wr => ∃ (k : Nat), k ≤ ts.length + 1 ∧ g = ts.length + 1 - k ∧ si = .int .i64 k ∧ inB ts b k = false ∧ wr = w1)
  case atStart => exact ⟨0, Nat.zero_le _, rfl, rfl, rfl, rfl⟩
  case round =>
    obtain ⟨k, hk, hgk, rfl, hin, rfl⟩ := hrel
    have GK := Lib.hid hgk
    have IN := Lib.hid hin
    clear hgk hin
    by_cases hlt : k < ts.length + 1
    · have hlt' : (k : Int) < (ts.length : Int) + 1 := by omega
      obtain ⟨b', off, e', ck⟩ := S1.out.at k (by rw [hlen]; omega)
      subst e'
      rw [show (lineOf ts).getD k ⟨#[]⟩ = pth (ts.take (ts.length - k)) from lineTo_at _ _ _ hlt] at ck
      have IS := Lib.hid (inB_succ ts b k)
      obtain ⟨x, hx⟩ : ∃ x, x = pth (ts.take (ts.length - k)) := ⟨_, rfl⟩
      rw [← hx] at ck IS
      clear hx
      by_cases hxb : b.data.toList = x.data.toList
      · have gx : (x.toList == b.toList) = true := by rw [list_of_bytes, list_of_bytes, beq_iff_eq]; exact hxb.symm
        have hA : Hid (inB ts b (ts.length + 1) = true) := Lib.hid (by
          have h1 : inB ts b (k + 1) = true := by rw [IS.out, decide_eq_true hxb, Bool.or_true]
          unfold inB at h1 ⊢
          rw [decide_eq_true_eq] at h1 ⊢
          have hsub : ∀ l, l ∈ (lineTo ts (k + 1)).map (·.data.toList) → l ∈ (lineTo ts (ts.length + 1)).map (·.data.toList) := by
            intro l hl
            unfold lineTo at hl ⊢
            simp only [List.map_map, List.mem_map, List.mem_range] at hl ⊢
            obtain ⟨j, hj, e⟩ := hl
            exact ⟨j, by omega, e⟩
          exact hsub _ h1)
        go_wp2_with fail
        go_ret
        exact ⟨by rw [hA.out]; rfl, B1.out⟩
      · have gx : (x.toList == b.toList) = false := by rw [list_of_bytes, list_of_bytes, beq_eq_false_iff_ne]; exact fun h => hxb h.symm
        have hN : Hid (inB ts b (k + 1) = false) := Lib.hid (by rw [IS.out, IN.out, decide_eq_false hxb]; rfl)
        go_wp2_with fail
        go_roundg (ts.length + 1 - (k + 1))
        case measure => have := GK.out; omega
        case rel => exact ⟨k + 1, by omega, rfl, by go_num, hN.out, rfl⟩
    · have ek : k = ts.length + 1 := by omega
      subst ek
      go_wp2_with fail
      go_ret
      exact ⟨by rw [IN.out]; rfl, B1.out⟩
end Go.Proofs.YthdofbjijpghfaaGreatDoor.L
