/-
  Range and begins: of every list of texts.
-/
import Derived.Test.YtofjicjoohphcaaDoorKFixed
import Derived.Test.YtofjicjoohphcaaDoorKBts
namespace Go.Proofs.YtofjicjoohphcaaDoor.K
open Go.RowKit
/-- What Range answers. -/
def rangeR (ts : List ByteArray) : ByteArray × ByteArray × Int := if (makeR ts).2 = 0 then ((makeR ts).1, txt (toL ts), 0) else (⟨#[]⟩, ⟨#[]⟩, (makeR ts).2)
theorem range_ok {ts : List ByteArray} {k : ByteArray} (h : makeR ts = (k, 0)) : rangeR ts = (k, txt (toL ts), 0) := by
  unfold rangeR
  rw [h, if_pos rfl]
theorem txt_app (l m : List UInt8) : txt l ++ txt m = txt (l ++ m) := by
  apply ByteArray.ext
  simp [txt]
set_option maxHeartbeats 4000000 in
set_option maxRecDepth 100000 in
theorem range_any (v : Value) (ts : List ByteArray) (w : World) (hm : HasM w) (hv : Strs w v ts) (hs : ∀ t ∈ ts, t.size ≤ 140737488355328) :
    Calls Tryd.prog 26 #[v] w fun e w' => e = .returned (.tuple #[.string (rangeR ts).1, .string (rangeR ts).2.1, .int .i64 (rangeR ts).2.2]) ∧ Below w.heap.size w w' := by
  have MK := Lib.hid (make_any v ts w hm hv hs)
  clear hm hv hs
  by_cases h : (makeR ts).2 = 0
  · have e1 : makeR ts = ((makeR ts).1, 0) := by rw [← h]
    have hr := range_ok e1
    obtain ⟨hne, _, h120, hk⟩ := make_ok e1
    obtain ⟨x, hx⟩ : ∃ x, x = (makeR ts).1 := ⟨_, rfl⟩
    rw [← hx] at hk hr MK
    rw [h] at MK
    have xs : x.size ≤ 120 := by rw [hk]; simpa [bytesOf, ByteArray.size] using h120
    obtain ⟨y, hy⟩ : ∃ y, y = txt (bodyL ts) := ⟨_, rfl⟩
    have TS : Hid (∀ W, Calls Tryd.prog 51 #[.string x, .string ⟨#[0, 1]⟩] W fun e w' => e = .returned (.string y) ∧ w' = W) := Lib.hid fun W => by
      have := Tryd.strings_TrimSuffix x ⟨#[0, 1]⟩ W (by omega)
      rw [show x.data.toList = bodyL ts ++ [0, 1] by rw [hk, data_bytesOf, body_key ts hne], show (⟨#[0, 1]⟩ : ByteArray).data.toList = [0, 1] from rfl, (trim_end _).2] at this
      rw [hy]
      exact this
    have yz : y.size ≤ 120 := by
      rw [hy, txt_size]
      have : (bodyL ts).length + 2 = x.size := by rw [hk]; simp [bytesOf, ByteArray.size, body_key ts hne]
      omega
    have cc : y ++ ⟨#[0, 2]⟩ = txt (toL ts) := by rw [hy, to_body ts hne]; exact txt_app _ _
    have CC := Lib.hid cc
    have RR := Lib.hid hr
    have oz : (⟨#[0, 2]⟩ : ByteArray).size = 2 := rfl
    clear hr cc hy hk hx e1 h h120 hne
    go_enter Tryd.func26, Tryd.ntmps26
    go_wp2_with fail
    refine MK.out.mono ?_
    rintro r w1 ⟨rfl, hb⟩
    have B1 := Lib.hid hb
    clear hb
    go_wp2_with fail
    refine (TS.out w1).mono ?_
    rintro r w2 ⟨rfl, rfl⟩
    go_wp2_with fail
    go_ret3
    exact ⟨by rw [RR.out, ← CC.out]; rfl, B1.out⟩
  · have hr : Hid (rangeR ts = (⟨#[]⟩, ⟨#[]⟩, (makeR ts).2)) := Lib.hid (by unfold rangeR; rw [if_neg h])
    obtain ⟨⟨x, f⟩, hx⟩ : ∃ r, r = makeR ts := ⟨_, rfl⟩
    rw [← hx] at MK hr h
    have gf : (f != 0) = true := bne_iff_ne.2 h
    clear h hx
    go_enter Tryd.func26, Tryd.ntmps26
    go_wp2_with fail
    refine MK.out.mono ?_
    rintro r w1 ⟨rfl, hb⟩
    have B1 := Lib.hid hb
    clear hb
    go_wp2_with fail
    go_ret3
    exact ⟨by rw [hr.out]; rfl, B1.out⟩
theorem Strs.take {w : World} {a : Option Addr} {n cap : Nat} {ts : List ByteArray} (H : Strs w (.slice a n cap) ts) (k : Nat) (hk : k ≤ ts.length) : Strs w (.slice a k cap) (ts.take k) := by
  obtain ⟨a', cap', e', h1, h2, h3, hc⟩ := H
  simp only [Value.slice.injEq] at e'
  obtain ⟨rfl, rfl, rfl⟩ := e'
  have hl : (ts.take k).length = k := by rw [List.length_take]; omega
  refine ⟨a, cap, by rw [hl], by omega, h2, h3, fun j hj => ?_⟩
  rw [hl] at hj
  obtain ⟨b, off, e, h⟩ := hc j (by omega)
  refine ⟨b, off, e, ?_⟩
  rw [h, List.getD_eq_getElem?_getD, List.getD_eq_getElem?_getD, List.getElem?_take_of_lt hj]
end Go.Proofs.YtofjicjoohphcaaDoor.K
