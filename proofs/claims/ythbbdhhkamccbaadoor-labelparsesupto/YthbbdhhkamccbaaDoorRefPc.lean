/-
  The documents pieces: a text cut at any byte.
-/
import Derived.Test.YthbbdhhkamccbaaDoorPieces
import Derived.Test.YthbbdhhkamccbaaDoorTrmA
namespace Go.Proofs.YthbbdhhkamccbaaDoor
open Go.RowKit
theorem ext_bytes (s : ByteArray) (f k : Nat) : s.extract f k = bytesOf ((s.data.toList.drop f).take (k - f)) := by
  apply ByteArray.ext
  apply Array.toList_inj.1
  rw [Lib.extract_data]
  show _ = ((s.data.toList.drop f).take (k - f)).toArray.toList
  rw [List.toList_toArray]
/-- Where the cutting stands. -/
def CutC (c : UInt8) (s : List UInt8) (f k : Nat) (done : List (List UInt8)) : Prop := f ≤ k ∧ done.length ≤ f ∧ pieces c s = done ++ pieces c (s.drop f) ∧ c ∉ (s.drop f).take (k - f)
theorem cutC_start (c : UInt8) (s : List UInt8) : CutC c s 0 0 [] := ⟨Nat.le_refl _, Nat.le_refl _, rfl, by simp⟩
theorem drop_splitC (s : List UInt8) {f k : Nat} (hf : f ≤ k) (hk : k < s.length) : s.drop f = (s.drop f).take (k - f) ++ s[k] :: s.drop (k + 1) := by
  have h1 : s.drop f = (s.drop f).take (k - f) ++ (s.drop f).drop (k - f) := (List.take_append_drop _ _).symm
  rw [List.drop_drop, show f + (k - f) = k by omega, List.drop_eq_getElem_cons hk] at h1
  exact h1
theorem CutC.go {c : UInt8} {s : List UInt8} {f k : Nat} {done : List (List UInt8)} (h : CutC c s f k done) (hk : k < s.length) (hc : s[k] ≠ c) : CutC c s f (k + 1) done := by
  obtain ⟨h1, h2, h3, h4⟩ := h
  refine ⟨by omega, h2, h3, ?_⟩
  rw [show k + 1 - f = (k - f) + 1 by omega, List.take_add_one, List.mem_append, not_or]
  refine ⟨h4, ?_⟩
  rw [List.getElem?_drop, show f + (k - f) = k by omega, List.getElem?_eq_getElem hk]
  simp only [Option.toList_some, List.mem_singleton]
  exact fun e => hc e.symm
theorem CutC.cut {c : UInt8} {s : List UInt8} {f k : Nat} {done : List (List UInt8)} (h : CutC c s f k done) (hk : k < s.length) (hc : s[k] = c) : CutC c s (k + 1) (k + 1) (done ++ [(s.drop f).take (k - f)]) := by
  obtain ⟨h1, h2, h3, h4⟩ := h
  refine ⟨Nat.le_refl _, by rw [List.length_append, List.length_singleton]; omega, ?_, by simp⟩
  have hd := drop_splitC s h1 hk
  rw [hc] at hd
  rw [h3, List.append_assoc]
  congr 1
  conv => lhs; rw [hd]
  rw [pieces_app _ _ _ h4]
  rfl
theorem CutC.done {c : UInt8} {s : List UInt8} {f : Nat} {done : List (List UInt8)} (h : CutC c s f s.length done) : pieces c s = done ++ [(s.drop f).take (s.length - f)] := by
  obtain ⟨h1, h2, h3, h4⟩ := h
  have e : (s.drop f).take (s.length - f) = s.drop f := List.take_of_length_le (by rw [List.length_drop]; omega)
  rw [e] at h4 ⊢
  rw [h3, pieces_free _ _ h4]
set_option maxHeartbeats 8000000 in
set_option maxRecDepth 100000 in
theorem pcs_any (c : UInt8) (n : Int) (hn : n = (c.toNat : Int)) (s : ByteArray) (w : World) (hs : s.size ≤ 1048576) :
    Calls Tryd.prog 40 #[.string s, .int .u8 n] w fun e w' => ∃ v, e = .returned v ∧ OwnS w.heap.size w' v ((pieces c s.data.toList).map bytesOf) ∧ Below w.heap.size w w' := by
  have sl : s.data.toList.length = s.size := by simp
  have HN := Lib.hid hn
  clear hn
  go_enter Tryd.func40, Tryd.ntmps40
  go_wp2_with fail
  go_loopg [5, 6, 7] (s.size + 1) (fun g so sf si wr => ∃ (k f : Nat) (vo : Value), g = s.size + 1 - k ∧ si = .int .i64 k ∧ sf = .int .i64 f ∧ so = vo ∧ f ≤ s.size + 1 ∧ Below w.heap.size w wr ∧
    ((k ≤ s.size ∧ ∃ done, CutC c s.data.toList f k done ∧ OwnS w.heap.size wr vo (done.map bytesOf)) ∨ (k = s.size + 1 ∧ OwnS w.heap.size wr vo ((pieces c s.data.toList).map bytesOf))))
  case atStart => exact ⟨0, 0, _, rfl, rfl, rfl, rfl, by omega, Below.refl _ _, Or.inl ⟨Nat.zero_le _, [], cutC_start _ _, World.ownsRow_nil _ _ _ _⟩⟩
  case round =>
    obtain ⟨k, f, vo, hg, rfl, rfl, rfl, hf, hb, hst⟩ := hrel
    have GK := Lib.hid hg
    have HB := Lib.hid hb
    have S0 := Lib.hid hb.size
    clear hg hb
    rcases hst with ⟨hk, done, hC, hO⟩ | ⟨hk, hO⟩
    · have O := Lib.hid hO
      have C := Lib.hid hC
      have hfk := hC.1
      have L : Hid (((done.map bytesOf).length + 1) * 16 ≤ 140737488355328) := Lib.hid (by rw [List.length_map]; have := hC.2.1; omega)
      clear hO hC
      have hk' : decide ((k : Int) ≤ (s.size : Int)) = true := decide_eq_true (by omega)
      have ex := Lib.hid (ext_bytes s f k)
      by_cases hlt : k < s.size
      · have ge : ((k : Int) == (s.size : Int)) = false := by rw [beq_eq_false_iff_ne]; omega
        have hlt' : (k : Int) < (s.size : Int) := by omega
        have hcs : s.data.toList[k]'(by omega) = s[k]'hlt := by simp [ByteArray.getElem_eq_getElem_data]
        by_cases hc : s[k]'hlt = c
        · have gc : (((s[k]'hlt).toNat : Int) == n) = true := by rw [hc, HN.out]; simp
          have HC := Lib.hid hc
          clear hc
          go_wp2_with (at_builtin; refine app_txt rfl _ _ rfl rfl O.out S0.out (s.extract f k) rfl L.out ?_)
          intro v' w' h1 h2
          have B2 := Lib.hid (HB.out.trans ((Below.refl _ _).grown h2 S0.out (fun k hk => (O.out.lt k hk).1)))
          have O2 : Hid (OwnS w.heap.size w' v' ((done ++ [(s.data.toList.drop f).take (k - f)]).map bytesOf)) := Lib.hid (by
            rw [List.map_append, List.map_singleton, ← ex.out]
            exact h1)
          have C2 := Lib.hid (C.out.cut (by omega) (hcs.trans HC.out))
          clear h1 h2 O C L
          go_wp2_with fail
          go_roundg (s.size + 1 - (k + 1))
          case measure => have := GK.out; omega
          case rel => exact ⟨k + 1, k + 1, _, rfl, by go_num, by go_num, rfl, by omega, B2.out, Or.inl ⟨by omega, _, C2.out, O2.out⟩⟩
        · have gc : (((s[k]'hlt).toNat : Int) == n) = false := by
            rw [beq_eq_false_iff_ne]
            intro h
            have h8 := HN.out
            have h9 : (s[k]'hlt).toNat = c.toNat := by omega
            exact hc (UInt8.toNat_inj.1 h9)
          have C2 := Lib.hid (C.out.go (by omega) (fun h => hc (hcs.symm.trans h)))
          go_wp2_with fail
          go_roundg (s.size + 1 - (k + 1))
          case measure => have := GK.out; omega
          case rel => exact ⟨k + 1, f, _, rfl, by go_num, rfl, rfl, hf, HB.out, Or.inl ⟨by omega, _, C2.out, O.out⟩⟩
      · have ge : ((k : Int) == (s.size : Int)) = true := by rw [beq_iff_eq]; omega
        have EK : Hid (k = s.size) := Lib.hid (by omega)
        go_wp2_with (at_builtin; refine app_txt rfl _ _ rfl rfl O.out S0.out (s.extract f k) rfl L.out ?_)
        intro v' w' h1 h2
        have B2 := Lib.hid (HB.out.trans ((Below.refl _ _).grown h2 S0.out (fun k hk => (O.out.lt k hk).1)))
        have O2 : Hid (OwnS w.heap.size w' v' ((pieces c s.data.toList).map bytesOf)) := Lib.hid (by
          have hd : CutC c s.data.toList f s.data.toList.length done := by rw [sl, ← EK.out]; exact C.out
          rw [hd.done, List.map_append, List.map_singleton, sl, ← EK.out, ← ex.out]
          exact h1)
        clear h1 h2 O C L
        go_wp2_with fail
        go_roundg (s.size + 1 - (k + 1))
        case measure => have := GK.out; omega
        case rel => exact ⟨k + 1, k + 1, _, rfl, by go_num, by go_num, rfl, by omega, B2.out, Or.inr ⟨by omega, O2.out⟩⟩
    · subst hk
      have hk' : decide (((s.size : Int) + 1) ≤ (s.size : Int)) = false := decide_eq_false (by omega)
      have O := Lib.hid hO
      clear hO
      go_wp2_with fail
      go_ret
      exact ⟨_, rfl, O.out, HB.out⟩
end Go.Proofs.YthbbdhhkamccbaaDoor
