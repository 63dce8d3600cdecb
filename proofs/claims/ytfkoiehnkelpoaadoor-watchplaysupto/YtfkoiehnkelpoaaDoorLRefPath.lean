/-
  The documents pieces and Split: of every text.
-/
import Derived.Test.YtfkoiehnkelpoaaDoorLUnderA
import Derived.Test.YtfkoiehnkelpoaaDoorLRefJoin
namespace Go.Proofs.YtfkoiehnkelpoaaDoor.L
open Go.RowKit
theorem Strs.tail {w : World} {g n cap : Nat} {ts : List ByteArray} (h : Strs w (.slice (some ⟨g, 0, none⟩) n cap) ts) (hn : 0 < ts.length) : Strs w (.slice (some ⟨g, 1, none⟩) (n - 1) (cap - 1)) ts.tail := by
  obtain ⟨a, c, e, h1, h2, _, h3⟩ := h
  simp only [Value.slice.injEq] at e
  obtain ⟨rfl, rfl, rfl⟩ := e
  refine ⟨_, cap - 1, by rw [List.length_tail], by rw [List.length_tail]; omega, by unfold maxLen at h2 ⊢; omega, (fun h => by cases h), fun k hk => ⟨g, 1, rfl, ?_⟩⟩
  rw [List.length_tail] at hk
  obtain ⟨b, off, e, hc⟩ := h3 (k + 1) (by omega)
  cases e
  rw [show 1 + k = 0 + (k + 1) by omega, hc]
  congr 2
  cases ts with
  | nil => simp at hn
  | cons t r => simp
theorem Strs.take {w : World} {a : Option Addr} {n cap : Nat} {ts : List ByteArray} (h : Strs w (.slice a n cap) ts) (k : Nat) (hk : k ≤ ts.length) : Strs w (.slice a k cap) (ts.take k) := by
  obtain ⟨a', c, e, h1, h2, h0, h3⟩ := h
  simp only [Value.slice.injEq] at e
  obtain ⟨rfl, rfl, rfl⟩ := e
  have hl : (ts.take k).length = k := by rw [List.length_take]; omega
  refine ⟨a, cap, by rw [hl], by rw [hl]; omega, h2, h0, fun j hj => ?_⟩
  rw [hl] at hj
  obtain ⟨b, off, e, hc⟩ := h3 j (by omega)
  refine ⟨b, off, e, ?_⟩
  rw [hc]
  congr 2
  rw [List.getD_eq_getElem?_getD, List.getD_eq_getElem?_getD, List.getElem?_take_of_lt hj]
theorem extract_bytes (s : ByteArray) (f k : Nat) : s.extract f k = bytesOf ((s.data.toList.drop f).take (k - f)) := by
  apply data_inj
  rw [Lib.extract_data]
  show _ = ((s.data.toList.drop f).take (k - f)).toArray.toList
  rw [List.toList_toArray]
/-- Where the cutting stands. -/
def Cutting (s : List UInt8) (f k : Nat) (done : List (List UInt8)) : Prop := f ≤ k ∧ done.length ≤ f ∧ pieces 47 s = done ++ pieces 47 (s.drop f) ∧ 47 ∉ (s.drop f).take (k - f)
theorem cutting_start (s : List UInt8) : Cutting s 0 0 [] := ⟨Nat.le_refl _, Nat.le_refl _, rfl, by simp⟩
theorem drop_split (s : List UInt8) {f k : Nat} (hf : f ≤ k) (hk : k < s.length) : s.drop f = (s.drop f).take (k - f) ++ s[k] :: s.drop (k + 1) := by
  have h1 : s.drop f = (s.drop f).take (k - f) ++ (s.drop f).drop (k - f) := (List.take_append_drop _ _).symm
  rw [List.drop_drop, show f + (k - f) = k by omega, List.drop_eq_getElem_cons hk] at h1
  exact h1
theorem Cutting.go {s : List UInt8} {f k : Nat} {done : List (List UInt8)} (h : Cutting s f k done) (hk : k < s.length) (hc : s[k] ≠ 47) : Cutting s f (k + 1) done := by
  obtain ⟨h1, h2, h3, h4⟩ := h
  refine ⟨by omega, h2, h3, ?_⟩
  rw [show k + 1 - f = (k - f) + 1 by omega, List.take_add_one, List.mem_append, not_or]
  refine ⟨h4, ?_⟩
  rw [List.getElem?_drop, show f + (k - f) = k by omega, List.getElem?_eq_getElem hk]
  simp only [Option.toList_some, List.mem_singleton]
  exact fun e => hc e.symm
theorem Cutting.cut {s : List UInt8} {f k : Nat} {done : List (List UInt8)} (h : Cutting s f k done) (hk : k < s.length) (hc : s[k] = 47) : Cutting s (k + 1) (k + 1) (done ++ [(s.drop f).take (k - f)]) := by
  obtain ⟨h1, h2, h3, h4⟩ := h
  refine ⟨Nat.le_refl _, by rw [List.length_append, List.length_singleton]; omega, ?_, by simp⟩
  have hd := drop_split s h1 hk
  rw [hc] at hd
  rw [h3, List.append_assoc]
  congr 1
  conv => lhs; rw [hd]
  rw [pieces_app _ _ _ h4]
  rfl
theorem Cutting.done {s : List UInt8} {f : Nat} {done : List (List UInt8)} (h : Cutting s f s.length done) : pieces 47 s = done ++ [(s.drop f).take (s.length - f)] := by
  obtain ⟨h1, h2, h3, h4⟩ := h
  have e : (s.drop f).take (s.length - f) = s.drop f := List.take_of_length_le (by rw [List.length_drop]; omega)
  rw [e] at h4 ⊢
  rw [h3, pieces_free _ _ h4]
set_option maxHeartbeats 8000000 in
set_option maxRecDepth 100000 in
theorem refPieces_any (s : ByteArray) (w : World) (hs : s.size ≤ 1048576) :
    Calls Tryd.prog 77 #[.string s, .int .u8 47] w fun e w' => ∃ v, e = .returned v ∧ OwnS w.heap.size w' v ((pieces 47 s.data.toList).map bytesOf) ∧ Below w.heap.size w w' := by
  have sl : s.data.toList.length = s.size := by simp
  go_enter Tryd.func77, Tryd.ntmps77
  go_wp2_with fail
  go_loopg [5, 6, 7] (s.size + 1) (fun g so sf si wr => ∃ (k f : Nat) (vo : Value), g = s.size + 1 - k ∧ si = .int .i64 k ∧ sf = .int .i64 f ∧ so = vo ∧ f ≤ s.size + 1 ∧ Below w.heap.size w wr ∧
    ((k ≤ s.size ∧ ∃ done, Cutting s.data.toList f k done ∧ OwnS w.heap.size wr vo (done.map bytesOf)) ∨ (k = s.size + 1 ∧ OwnS w.heap.size wr vo ((pieces 47 s.data.toList).map bytesOf))))
  case atStart => exact ⟨0, 0, _, rfl, rfl, rfl, rfl, by omega, Below.refl _ _, Or.inl ⟨Nat.zero_le _, [], cutting_start _, World.ownsRow_nil _ _ _ _⟩⟩
  case round =>
    obtain ⟨k, f, vo, hg, rfl, rfl, rfl, hf, hb, hst⟩ := hrel
    have GK := Lib.hid hg
    have HB := Lib.hid hb
    have S0 := Lib.hid hb.size
    clear hg hb
    rcases hst with ⟨hk, done, hC, hO⟩ | ⟨hk, hO⟩
    · have O := Lib.hid hO
      have C := Lib.hid hC
      have hfk := hC.1
      have L : Hid (((done.map bytesOf).length + 1) * 16 ≤ 140737488355328) := Lib.hid (by rw [List.length_map]; have := hC.2.1; omega)
      clear hO hC
      have hk' : decide ((k : Int) ≤ (s.size : Int)) = true := decide_eq_true (by omega)
      have ex := Lib.hid (extract_bytes s f k)
      by_cases hlt : k < s.size
      · have ge : ((k : Int) == (s.size : Int)) = false := by rw [beq_eq_false_iff_ne]; omega
        have hlt' : (k : Int) < (s.size : Int) := by omega
        have hcs : s.data.toList[k]'(by omega) = s[k]'hlt := by simp [ByteArray.getElem_eq_getElem_data]
        by_cases hc : s[k]'hlt = 47
        · have gc : (((s[k]'hlt).toNat : Int) == 47) = true := by rw [hc]; rfl
          go_wp2_with (at_builtin; refine app_txt rfl _ _ rfl rfl O.out S0.out (s.extract f k) rfl L.out ?_)
          intro v' w' h1 h2
          have B2 := Lib.hid (HB.out.trans ((Below.refl _ _).grown h2 S0.out (fun k hk => (O.out.lt k hk).1)))
          have O2 : Hid (OwnS w.heap.size w' v' ((done ++ [(s.data.toList.drop f).take (k - f)]).map bytesOf)) := Lib.hid (by
            rw [List.map_append, List.map_singleton, ← ex.out]
            exact h1)
          have C2 := Lib.hid (C.out.cut (by omega) (hcs.trans hc))
          clear h1 h2 O C L
          go_wp2_with fail
          go_roundg (s.size + 1 - (k + 1))
          case measure => have := GK.out; omega
          case rel => exact ⟨k + 1, k + 1, _, rfl, by go_num, by go_num, rfl, by omega, B2.out, Or.inl ⟨by omega, _, C2.out, O2.out⟩⟩
        · have gc : (((s[k]'hlt).toNat : Int) == 47) = false := by
            rw [beq_eq_false_iff_ne]
            intro h
            have h9 : (s[k]'hlt).toNat = 47 := by omega
            exact hc (UInt8.toNat_inj.1 (h9.trans rfl))
          have C2 := Lib.hid (C.out.go (by omega) (fun h => hc (hcs.symm.trans h)))
          go_wp2_with fail
          go_roundg (s.size + 1 - (k + 1))
          case measure => have := GK.out; omega
          case rel => exact ⟨k + 1, f, _, rfl, by go_num, rfl, rfl, hf, HB.out, Or.inl ⟨by omega, _, C2.out, O.out⟩⟩
      · have ge : ((k : Int) == (s.size : Int)) = true := by rw [beq_iff_eq]; omega
        have EK : Hid (k = s.size) := Lib.hid (by omega)
        go_wp2_with (at_builtin; refine app_txt rfl _ _ rfl rfl O.out S0.out (s.extract f k) rfl L.out ?_)
        intro v' w' h1 h2
        have B2 := Lib.hid (HB.out.trans ((Below.refl _ _).grown h2 S0.out (fun k hk => (O.out.lt k hk).1)))
        have O2 : Hid (OwnS w.heap.size w' v' ((pieces 47 s.data.toList).map bytesOf)) := Lib.hid (by
          have hd : Cutting s.data.toList f s.data.toList.length done := by rw [sl, ← EK.out]; exact C.out
          rw [hd.done, List.map_append, List.map_singleton, sl, ← EK.out, ← ex.out]
          exact h1)
        clear h1 h2 O C L
        go_wp2_with fail
        go_roundg (s.size + 1 - (k + 1))
        case measure => have := GK.out; omega
        case rel => exact ⟨k + 1, k + 1, _, rfl, by go_num, by go_num, rfl, by omega, B2.out, Or.inr ⟨by omega, O2.out⟩⟩
    · subst hk
      have hk' : decide (((s.size : Int) + 1) ≤ (s.size : Int)) = false := decide_eq_false (by omega)
      have O := Lib.hid hO
      clear hO
      go_wp2_with fail
      go_ret
      exact ⟨_, rfl, O.out, HB.out⟩
end Go.Proofs.YtfkoiehnkelpoaaDoor.L
