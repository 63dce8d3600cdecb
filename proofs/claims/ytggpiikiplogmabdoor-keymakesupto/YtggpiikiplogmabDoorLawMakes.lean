/-
  THE WALK of KeyMakes; the document's Range.
-/
import Derived.Test.YtggpiikiplogmabDoorRangeA
import Derived.Test.YtggpiikiplogmabDoorRefCmp
import Derived.Test.YtggpiikiplogmabDoorRefMake
namespace Go.Proofs.YtggpiikiplogmabDoor
open Go.RowKit
theorem strs_front {w : World} {a : Option Addr} {n cap : Nat} {ts ms : List ByteArray} (H : Strs w (.slice a n cap) (ts ++ ms)) : Strs w (.slice a ts.length cap) ts := by
  have := H.take ts.length (by simp)
  rw [List.take_left] at this
  exact this
set_option maxHeartbeats 4000000 in
set_option maxRecDepth 100000 in
theorem refRange_any (v : Value) (ts : List ByteArray) (w : World) (hv : Strs w v ts) (hs : ∀ t ∈ ts, t.size ≤ 1048577) :
    Calls Tryd.prog 17 #[v] w fun e w' => e = .returned (.tuple #[.string (rangeR ts).1, .string (rangeR ts).2.1, .int .i64 (rangeR ts).2.2]) ∧ Below w.heap.size w w' := by
  have MK := Lib.hid (refMake_any v ts w hv hs)
  clear hv hs
  by_cases h : (makeR ts).2 = 0
  · have e1 : makeR ts = ((makeR ts).1, 0) := by rw [← h]
    have hr := range_ok e1
    obtain ⟨hne, _, h120, hk⟩ := make_ok e1
    obtain ⟨x, hx⟩ : ∃ x, x = (makeR ts).1 := ⟨_, rfl⟩
    rw [← hx] at hk hr MK
    rw [h] at MK
    have xz : x.size = (bodyL ts).length + 2 := by rw [hk]; simp [bytesOf, ByteArray.size, body_key ts hne]
    have xs : x.size ≤ 120 := by rw [hk]; simpa [bytesOf, ByteArray.size] using h120
    have cc : x.extract 0 (x.size - 1) ++ ⟨#[2]⟩ = txt (toL ts) := by
      have e : x.extract 0 (x.size - 1) = txt (bodyL ts ++ [0]) := by
        apply ByteArray.ext
        rw [xz, hk]
        apply Array.toList_inj.1
        simp [txt, bytesOf, ByteArray.data_extract, body_key ts hne]
      rw [e, to_body ts hne]
      exact (txt_app _ _).trans (by simp)
    have zz : (x.extract 0 (x.size - 1)).size = x.size - 1 := by simp
    have CC := Lib.hid cc
    have RR := Lib.hid hr
    have oz : (⟨#[2]⟩ : ByteArray).size = 1 := rfl
    have x2 : 2 ≤ x.size := by omega
    obtain ⟨n, hn⟩ : ∃ n, x.size = n + 1 := ⟨x.size - 1, by omega⟩
    rw [hn, Nat.add_sub_cancel] at zz
    have CC : Hid (x.extract 0 n ++ ⟨#[2]⟩ = txt (toL ts)) := by have := CC; rw [hn, Nat.add_sub_cancel] at this; exact this
    have zn : (((n + 1 : Nat) : Int) - 1) = (n : Int) := by omega
    clear hr cc hk hx e1 h h120 hne xz
    go_enter Tryd.func17, Tryd.ntmps17
    go_wp2_with fail
    refine MK.out.mono ?_
    rintro r w1 ⟨rfl, hb⟩
    have B1 := Lib.hid hb
    clear hb
    go_wp2_with fail
    go_quiet (fail)
    go_wp2_with fail
    go_ret3
    refine ⟨?_, B1.out.trans ⟨rfl, rfl, rfl, Nat.le_refl _, fun _ _ => rfl⟩⟩
    rw [RR.out, ← CC.out]
    rfl
  · have hr : Hid (rangeR ts = (⟨#[]⟩, ⟨#[]⟩, (makeR ts).2)) := Lib.hid (by unfold rangeR; rw [if_neg h])
    obtain ⟨⟨x, f⟩, hx⟩ : ∃ r, r = makeR ts := ⟨_, rfl⟩
    rw [← hx] at MK hr h
    have gf : (f != 0) = true := bne_iff_ne.2 h
    clear h hx
    go_enter Tryd.func17, Tryd.ntmps17
    go_wp2_with fail
    refine MK.out.mono ?_
    rintro r w1 ⟨rfl, hb⟩
    have B1 := Lib.hid hb
    clear hb
    go_wp2_with fail
    go_ret3
    exact ⟨by rw [hr.out]; rfl, B1.out⟩
set_option maxHeartbeats 8000000 in
set_option maxRecDepth 100000 in
theorem keyMakes_walk (v : Value) (ts : List ByteArray) (w : World) (hm : HasM w) (hv : Strs w v ts) (hs : (∀ t ∈ ts, t.size ≤ 1048576) ∧ ts.length ≤ 8796093021952) :
    Calls Tryd.prog 5 #[v] w fun e w' => e = .returned (.bool true) ∧ Below w.heap.size w w' := by
  have V := Lib.hid hv
  have H := Lib.hid hm
  have FX := Lib.hid (fixed_ok w hm)
  have lt := hs.2
  have OW : Hid (∀ v W, Strs W v ts → Calls Tryd.prog 9 #[v] W fun e w' => ∃ v', e = .returned v' ∧ OwnS W.heap.size w' v' ts ∧ Below W.heap.size W w') := Lib.hid fun v W h => own_any v ts W h hs.2
  have RM : Hid (∀ v W, Strs W v ts → Calls Tryd.prog 12 #[v] W fun e w' => ∃ v', e = .returned v' ∧ OwnS W.heap.size w' v' (ts ++ [markT, markT]) ∧ Below W.heap.size W w') := Lib.hid fun v W h => roomy_any v ts W h hs.2
  have IY : Hid (∀ v v' W, Strs W v (ts ++ [markT, markT]) → Strs W v' ts → Calls Tryd.prog 15 #[v, v'] W fun e w' => e = .returned (.bool true) ∧ Below W.heap.size W w') := Lib.hid fun v v' W h h' => intact_yes v v' ts W h h' hs.2
  have M1 : Hid (∀ v W, HasM W → Strs W v ts → Calls Tryd.prog 8 #[v] W fun r w' => r = .returned (.tuple #[.string (makeR ts).1, .int .i64 (makeR ts).2]) ∧ Below W.heap.size W w') := Lib.hid fun v W h hv => make_any v ts W h hv (fun t ht => by have := hs.1 t ht; omega)
  have M2 : Hid (∀ v W, Strs W v ts → Calls Tryd.prog 16 #[v] W fun r w' => r = .returned (.tuple #[.string (makeR ts).1, .int .i64 (makeR ts).2]) ∧ Below W.heap.size W w') := Lib.hid fun v W hv => refMake_any v ts W hv (fun t ht => by have := hs.1 t ht; omega)
  have R1 : Hid (∀ v W, HasM W → Strs W v ts → Calls Tryd.prog 10 #[v] W fun r w' => r = .returned (.tuple #[.string (rangeR ts).1, .string (rangeR ts).2.1, .int .i64 (rangeR ts).2.2]) ∧ Below W.heap.size W w') := Lib.hid fun v W h hv => range_any v ts W h hv (fun t ht => by have := hs.1 t ht; omega)
  have R2 : Hid (∀ v W, Strs W v ts → Calls Tryd.prog 17 #[v] W fun r w' => r = .returned (.tuple #[.string (rangeR ts).1, .string (rangeR ts).2.1, .int .i64 (rangeR ts).2.2]) ∧ Below W.heap.size W w') := Lib.hid fun v W hv => refRange_any v ts W hv (fun t ht => by have := hs.1 t ht; omega)
  obtain ⟨⟨k, e⟩, hk⟩ : ∃ r, r = makeR ts := ⟨_, rfl⟩
  obtain ⟨⟨x, y, f⟩, hx⟩ : ∃ r, r = rangeR ts := ⟨_, rfl⟩
  rw [← hk] at M1 M2
  rw [← hx] at R1 R2
  obtain ⟨aa, ca, rfl, hca, hma⟩ := hv.len
  unfold maxLen at hma
  have kk := eqB k k rfl
  have xx := eqB x x rfl
  have yy := eqB y y rfl
  have ee : (e != e) = false := by simp
  have ff : (f == f) = true := by simp
  clear hk hx hv hm hs
  go_enter Tryd.func5, Tryd.ntmps5
  go_wp2_with fail
  refine FX.out.mono ?_
  rintro r w1 ⟨rfl, hb⟩
  have B1 := Lib.hid hb
  clear hb FX
  go_wp2_with fail
  refine (RM.out _ w1 (V.out.below B1.out)).mono ?_
  rintro r w2 ⟨vx, rfl, o2, hb⟩
  have B2 := Lib.hid (B1.out.trans (hb.mono B1.out.size))
  have X2 := Lib.hid o2.strs
  clear hb o2 B1
  obtain ⟨ax, cx, ex, hcx, hmx⟩ := X2.out.len
  subst ex
  rw [List.length_append] at hcx
  simp only [List.length_cons, List.length_nil] at hcx
  unfold maxLen at hmx
  have lx : (ts ++ [markT, markT]).length = ts.length + 2 := by simp
  have X3 : Hid (Strs w2 (.slice ax (ts.length + 2) cx) (ts ++ [markT, markT])) := by rw [← lx]; exact X2
  rw [lx]
  clear X2 lx
  go_wp2_with fail
  refine (M1.out _ w2 (H.out.below B2.out) (strs_front X3.out)).mono ?_
  rintro r w3 ⟨rfl, hb⟩
  have B3 := Lib.hid (B2.out.trans (hb.mono B2.out.size))
  have X4 := Lib.hid (X3.out.below hb)
  clear hb B2 X3
  go_wp2_with fail
  refine (OW.out _ w3 (V.out.below B3.out)).mono ?_
  rintro r w4 ⟨v4, rfl, o4, hb⟩
  have B4 := Lib.hid (B3.out.trans (hb.mono B3.out.size))
  have X5 := Lib.hid (X4.out.below hb)
  have S4 := Lib.hid o4.strs
  clear hb B3 X4 o4
  go_wp2_with fail
  refine (M2.out _ w4 S4.out).mono ?_
  rintro r w5 ⟨rfl, hb⟩
  have B5 := Lib.hid (B4.out.trans (hb.mono B4.out.size))
  have X6 := Lib.hid (X5.out.below hb)
  clear hb B4 X5 S4
  go_wp2_with fail
  refine (IY.out _ _ w5 X6.out (V.out.below B5.out)).mono ?_
  rintro r w6 ⟨rfl, hb⟩
  have B6 := Lib.hid (B5.out.trans (hb.mono B5.out.size))
  have X7 := Lib.hid (X6.out.below hb)
  clear hb B5 X6
  go_wp2_with fail
  refine (R1.out _ w6 (H.out.below B6.out) (strs_front X7.out)).mono ?_
  rintro r w7 ⟨rfl, hb⟩
  have B7 := Lib.hid (B6.out.trans (hb.mono B6.out.size))
  have X8 := Lib.hid (X7.out.below hb)
  clear hb B6 X7
  go_wp2_with fail
  refine (OW.out _ w7 (V.out.below B7.out)).mono ?_
  rintro r w8 ⟨v8, rfl, o8, hb⟩
  have B8 := Lib.hid (B7.out.trans (hb.mono B7.out.size))
  have X9 := Lib.hid (X8.out.below hb)
  have S8 := Lib.hid o8.strs
  clear hb B7 X8 o8
  go_wp2_with fail
  refine (R2.out _ w8 S8.out).mono ?_
  rintro r w9 ⟨rfl, hb⟩
  have B9 := Lib.hid (B8.out.trans (hb.mono B8.out.size))
  have X10 := Lib.hid (X9.out.below hb)
  clear hb B8 X9 S8
  go_wp2_with fail
  refine (IY.out _ _ w9 X10.out (V.out.below B9.out)).mono ?_
  rintro r w10 ⟨rfl, hb⟩
  have B10 := Lib.hid (B9.out.trans (hb.mono B9.out.size))
  clear hb B9 X10
  go_wp2_with fail
  go_ret
  exact ⟨rfl, B10.out⟩
end Go.Proofs.YtggpiikiplogmabDoor
