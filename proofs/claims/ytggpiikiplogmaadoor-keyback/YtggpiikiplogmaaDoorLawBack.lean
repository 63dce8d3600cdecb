/-
  THE WALK of KeyBack.
-/
import Derived.Test.YtggpiikiplogmaaDoorFixed
namespace Go.Proofs.YtggpiikiplogmaaDoor
open Go.RowKit
theorem split_none {k : ByteArray} (h : splitO k = none) : splitE k = 2 ∧ splitT k = [] := by
  unfold splitE splitT
  rw [h]
  exact ⟨rfl, rfl⟩
theorem split_some {k : ByteArray} {us : List ByteArray} (h : splitO k = some us) : splitE k = 0 ∧ splitT k = us := by
  unfold splitE splitT
  rw [h]
  exact ⟨rfl, rfl⟩
theorem key_part_size (ts : List ByteArray) : ∀ t ∈ ts, t.size ≤ (keyL ts).length := by
  intro t ht
  induction ts with
  | nil => simp at ht
  | cons u r ih =>
    rw [keyL, List.length_append, enc_length]
    rcases List.mem_cons.1 ht with rfl | h
    · have : t.data.toList.length = t.size := by simp
      omega
    · have := ih h
      simp only [List.length_cons]
      omega
theorem split_sizes {k : ByteArray} {us : List ByteArray} (h : splitO k = some us) : ∀ t ∈ us, t.size ≤ 120 := by
  intro t ht
  obtain ⟨_, _, h3, _⟩ := make_ok (make_split h)
  have := key_part_size us t ht
  omega
set_option maxHeartbeats 8000000 in
set_option maxRecDepth 100000 in
theorem back_count (v : Value) (ts : List ByteArray) (k : ByteArray) (w : World) (hm : HasM w) (hv : Strs w v ts) (hs : (∀ t ∈ ts, t.size ≤ 140737488355328) ∧ ts.length ≤ 8796093021952) (hk0 : k.size ≤ 140737488355328) (hc : ts.length = 0 ∨ 8 < ts.length) :
    Calls Tryd.prog 6 #[v, .string k] w fun e w' => e = .returned (.bool true) ∧ Below w.heap.size w w' := by
  have V := Lib.hid hv
  have H := Lib.hid hm
  have FX := Lib.hid (fixed_ok w hm)
  have OW : Hid (∀ W, Strs W v ts → Calls Tryd.prog 12 #[v] W fun e w' => ∃ v', e = .returned v' ∧ OwnS W.heap.size w' v' ts ∧ Below W.heap.size W w') := Lib.hid fun W h => own_any v ts W h hs.2
  have SS : Hid (∀ W, HasM W → Calls Tryd.prog 13 #[.string k] W fun e w' => ∃ v, e = .returned (.tuple #[v, .int .i64 (splitE k)]) ∧ OwnS W.heap.size w' v (splitT k) ∧ Below W.heap.size W w') := Lib.hid fun W h => split_any k W h hk0
  have MA : Hid (∀ v W, HasM W → Strs W v ts → Calls Tryd.prog 11 #[v] W fun e w' => e = .returned (.tuple #[.string ⟨#[]⟩, .int .i64 1]) ∧ Below W.heap.size W w') := Lib.hid fun v W h hv => by
    have := make_any v ts W h hv hs.1
    rw [show makeR ts = (⟨#[]⟩, 1) by unfold makeR; rw [if_pos hc]] at this
    exact this
  have LE : Hid (∀ W, Strs W v ts → Calls Tryd.prog 16 #[v] W fun e w' => (∃ n, e = .returned (.int .i64 n)) ∧ Below W.heap.size W w') := Lib.hid fun W h => length_some v ts W h hs.1
  have ee : ((⟨#[]⟩ : ByteArray).toList == (⟨#[]⟩ : ByteArray).toList) = true := eqB _ _ rfl
  obtain ⟨a, cap, rfl, hlc, hcm⟩ := hv.len
  unfold maxLen at hcm
  clear hv hm hs hk0
  go_enter Tryd.func6, Tryd.ntmps6
  go_wp2_with fail
  refine FX.out.mono ?_
  rintro r w1 ⟨rfl, hb⟩
  have B1 := Lib.hid hb
  clear hb FX
  go_wp2_with fail
  refine (OW.out w1 (V.out.below B1.out)).mono ?_
  rintro r w2 ⟨v2, rfl, o2, hb⟩
  have B2 := Lib.hid (B1.out.trans (hb.mono B1.out.size))
  have S2 := Lib.hid o2.strs
  clear hb o2 B1
  go_wp2_with fail
  refine (MA.out v2 w2 (H.out.below B2.out) S2.out).mono ?_
  rintro r w3 ⟨rfl, hb⟩
  have B3 := Lib.hid (B2.out.trans (hb.mono B2.out.size))
  clear hb B2 S2
  go_wp2_with fail
  refine (LE.out w3 (V.out.below B3.out)).mono ?_
  rintro r w4 ⟨⟨n, rfl⟩, hb⟩
  have B4 := Lib.hid (B3.out.trans (hb.mono B3.out.size))
  clear hb B3
  rcases hc with hc | hc
  · have g1 : decide ((ts.length : Int) < 1) = true := decide_eq_true (by omega)
    clear hc
    cases hk : splitO k with
    | none =>
      have SK : Hid (∀ W, HasM W → Calls Tryd.prog 13 #[.string k] W fun e w' => ∃ v, e = .returned (.tuple #[v, .int .i64 2]) ∧ OwnS W.heap.size w' v [] ∧ Below W.heap.size W w') := Lib.hid fun W h => by
        have := SS.out W h
        rw [(split_none hk).1, (split_none hk).2] at this
        exact this
      clear hk
      go_wp2_with fail
      refine (SK.out w4 (H.out.below B4.out)).mono ?_
      rintro r x1 ⟨v, rfl, own, hb⟩
      have D1 := Lib.hid (B4.out.trans (hb.mono B4.out.size))
      obtain ⟨a1, c1, e1, _, _⟩ := own.strs.len
      subst e1
      clear hb own
      go_wp2_with fail
      go_ret
      exact ⟨rfl, D1.out⟩
    | some us =>
      have SK : Hid (∀ W, HasM W → Calls Tryd.prog 13 #[.string k] W fun e w' => ∃ v, e = .returned (.tuple #[v, .int .i64 0]) ∧ OwnS W.heap.size w' v us ∧ Below W.heap.size W w') := Lib.hid fun W h => by
        have := SS.out W h
        rw [(split_some hk).1, (split_some hk).2] at this
        exact this
      have MK : Hid (∀ v W, HasM W → Strs W v us → Calls Tryd.prog 11 #[v] W fun e w' => e = .returned (.tuple #[.string k, .int .i64 0]) ∧ Below W.heap.size W w') := Lib.hid fun v W h hv => by
        have := make_any v us W h hv (fun t ht => by have := split_sizes hk t ht; omega)
        rw [make_split hk] at this
        exact this
      have kk := eqB k k rfl
      clear hk
      go_wp2_with fail
      refine (SK.out w4 (H.out.below B4.out)).mono ?_
      rintro r x1 ⟨v, rfl, own, hb⟩
      have D1 := Lib.hid (B4.out.trans (hb.mono B4.out.size))
      have S1 := Lib.hid own.strs
      clear hb own
      go_wp2_with fail
      refine (MK.out v x1 (H.out.below D1.out) S1.out).mono ?_
      rintro r x2 ⟨rfl, hb⟩
      have D2 := Lib.hid (D1.out.trans (hb.mono D1.out.size))
      clear hb
      go_wp2_with fail
      go_ret
      exact ⟨rfl, D2.out⟩
  · have g1 : decide ((ts.length : Int) < 1) = false := decide_eq_false (by omega)
    have g2 : decide ((ts.length : Int) > 8) = true := decide_eq_true (by omega)
    clear hc
    cases hk : splitO k with
    | none =>
      have SK : Hid (∀ W, HasM W → Calls Tryd.prog 13 #[.string k] W fun e w' => ∃ v, e = .returned (.tuple #[v, .int .i64 2]) ∧ OwnS W.heap.size w' v [] ∧ Below W.heap.size W w') := Lib.hid fun W h => by
        have := SS.out W h
        rw [(split_none hk).1, (split_none hk).2] at this
        exact this
      clear hk
      go_wp2_with fail
      refine (SK.out w4 (H.out.below B4.out)).mono ?_
      rintro r x1 ⟨v, rfl, own, hb⟩
      have D1 := Lib.hid (B4.out.trans (hb.mono B4.out.size))
      obtain ⟨a1, c1, e1, _, _⟩ := own.strs.len
      subst e1
      clear hb own
      go_wp2_with fail
      go_ret
      exact ⟨rfl, D1.out⟩
    | some us =>
      have SK : Hid (∀ W, HasM W → Calls Tryd.prog 13 #[.string k] W fun e w' => ∃ v, e = .returned (.tuple #[v, .int .i64 0]) ∧ OwnS W.heap.size w' v us ∧ Below W.heap.size W w') := Lib.hid fun W h => by
        have := SS.out W h
        rw [(split_some hk).1, (split_some hk).2] at this
        exact this
      have MK : Hid (∀ v W, HasM W → Strs W v us → Calls Tryd.prog 11 #[v] W fun e w' => e = .returned (.tuple #[.string k, .int .i64 0]) ∧ Below W.heap.size W w') := Lib.hid fun v W h hv => by
        have := make_any v us W h hv (fun t ht => by have := split_sizes hk t ht; omega)
        rw [make_split hk] at this
        exact this
      have kk := eqB k k rfl
      clear hk
      go_wp2_with fail
      refine (SK.out w4 (H.out.below B4.out)).mono ?_
      rintro r x1 ⟨v, rfl, own, hb⟩
      have D1 := Lib.hid (B4.out.trans (hb.mono B4.out.size))
      have S1 := Lib.hid own.strs
      clear hb own
      go_wp2_with fail
      refine (MK.out v x1 (H.out.below D1.out) S1.out).mono ?_
      rintro r x2 ⟨rfl, hb⟩
      have D2 := Lib.hid (D1.out.trans (hb.mono D1.out.size))
      clear hb
      go_wp2_with fail
      go_ret
      exact ⟨rfl, D2.out⟩
set_option maxHeartbeats 8000000 in
set_option maxRecDepth 100000 in
theorem back_long (v : Value) (ts : List ByteArray) (k : ByteArray) (w : World) (hm : HasM w) (hv : Strs w v ts) (hs : (∀ t ∈ ts, t.size ≤ 140737488355328) ∧ ts.length ≤ 8796093021952) (hk0 : k.size ≤ 140737488355328) (h1 : 1 ≤ ts.length) (h8 : ts.length ≤ 8) (hl : 120 < (keyL ts).length) :
    Calls Tryd.prog 6 #[v, .string k] w fun e w' => e = .returned (.bool true) ∧ Below w.heap.size w w' := by
  have V := Lib.hid hv
  have H := Lib.hid hm
  have FX := Lib.hid (fixed_ok w hm)
  have OW : Hid (∀ W, Strs W v ts → Calls Tryd.prog 12 #[v] W fun e w' => ∃ v', e = .returned v' ∧ OwnS W.heap.size w' v' ts ∧ Below W.heap.size W w') := Lib.hid fun W h => own_any v ts W h hs.2
  have SS : Hid (∀ W, HasM W → Calls Tryd.prog 13 #[.string k] W fun e w' => ∃ v, e = .returned (.tuple #[v, .int .i64 (splitE k)]) ∧ OwnS W.heap.size w' v (splitT k) ∧ Below W.heap.size W w') := Lib.hid fun W h => split_any k W h hk0
  have MA : Hid (∀ v W, HasM W → Strs W v ts → Calls Tryd.prog 11 #[v] W fun e w' => e = .returned (.tuple #[.string ⟨#[]⟩, .int .i64 23]) ∧ Below W.heap.size W w') := Lib.hid fun v W h hv => by
    have := make_any v ts W h hv hs.1
    rw [show makeR ts = (⟨#[]⟩, 23) by unfold makeR; rw [if_neg (by omega), if_pos hl]] at this
    exact this
  obtain ⟨n, hn⟩ : ∃ n, n = (keyL ts).length := ⟨_, rfl⟩
  have LE : Hid (∀ W, Strs W v ts → Calls Tryd.prog 16 #[v] W fun e w' => e = .returned (.int .i64 n) ∧ Below W.heap.size W w') := Lib.hid fun W h => by
    rw [hn]; exact length_few v ts W h h8 hs.1
  have ee : ((⟨#[]⟩ : ByteArray).toList == (⟨#[]⟩ : ByteArray).toList) = true := eqB _ _ rfl
  have g1 : decide ((ts.length : Int) < 1) = false := decide_eq_false (by omega)
  have g2 : decide ((ts.length : Int) > 8) = false := decide_eq_false (by omega)
  have g3 : decide ((n : Int) > 120) = true := decide_eq_true (by omega)
  clear hn hl
  obtain ⟨a, cap, rfl, hlc, hcm⟩ := hv.len
  unfold maxLen at hcm
  clear hv hm hs hk0
  go_enter Tryd.func6, Tryd.ntmps6
  go_wp2_with fail
  refine FX.out.mono ?_
  rintro r w1 ⟨rfl, hb⟩
  have B1 := Lib.hid hb
  clear hb FX
  go_wp2_with fail
  refine (OW.out w1 (V.out.below B1.out)).mono ?_
  rintro r w2 ⟨v2, rfl, o2, hb⟩
  have B2 := Lib.hid (B1.out.trans (hb.mono B1.out.size))
  have S2 := Lib.hid o2.strs
  clear hb o2 B1
  go_wp2_with fail
  refine (MA.out v2 w2 (H.out.below B2.out) S2.out).mono ?_
  rintro r w3 ⟨rfl, hb⟩
  have B3 := Lib.hid (B2.out.trans (hb.mono B2.out.size))
  clear hb B2 S2
  go_wp2_with fail
  refine (LE.out w3 (V.out.below B3.out)).mono ?_
  rintro r w4 ⟨rfl, hb⟩
  have B4 := Lib.hid (B3.out.trans (hb.mono B3.out.size))
  clear hb B3
  cases hk : splitO k with
  | none =>
    have SK : Hid (∀ W, HasM W → Calls Tryd.prog 13 #[.string k] W fun e w' => ∃ v, e = .returned (.tuple #[v, .int .i64 2]) ∧ OwnS W.heap.size w' v [] ∧ Below W.heap.size W w') := Lib.hid fun W h => by
      have := SS.out W h
      rw [(split_none hk).1, (split_none hk).2] at this
      exact this
    clear hk
    go_wp2_with fail
    refine (SK.out w4 (H.out.below B4.out)).mono ?_
    rintro r x1 ⟨v, rfl, own, hb⟩
    have D1 := Lib.hid (B4.out.trans (hb.mono B4.out.size))
    obtain ⟨a1, c1, e1, _, _⟩ := own.strs.len
    subst e1
    clear hb own
    go_wp2_with fail
    go_ret
    exact ⟨rfl, D1.out⟩
  | some us =>
    have SK : Hid (∀ W, HasM W → Calls Tryd.prog 13 #[.string k] W fun e w' => ∃ v, e = .returned (.tuple #[v, .int .i64 0]) ∧ OwnS W.heap.size w' v us ∧ Below W.heap.size W w') := Lib.hid fun W h => by
      have := SS.out W h
      rw [(split_some hk).1, (split_some hk).2] at this
      exact this
    have MK : Hid (∀ v W, HasM W → Strs W v us → Calls Tryd.prog 11 #[v] W fun e w' => e = .returned (.tuple #[.string k, .int .i64 0]) ∧ Below W.heap.size W w') := Lib.hid fun v W h hv => by
      have := make_any v us W h hv (fun t ht => by have := split_sizes hk t ht; omega)
      rw [make_split hk] at this
      exact this
    have kk := eqB k k rfl
    clear hk
    go_wp2_with fail
    refine (SK.out w4 (H.out.below B4.out)).mono ?_
    rintro r x1 ⟨v, rfl, own, hb⟩
    have D1 := Lib.hid (B4.out.trans (hb.mono B4.out.size))
    have S1 := Lib.hid own.strs
    clear hb own
    go_wp2_with fail
    refine (MK.out v x1 (H.out.below D1.out) S1.out).mono ?_
    rintro r x2 ⟨rfl, hb⟩
    have D2 := Lib.hid (D1.out.trans (hb.mono D1.out.size))
    clear hb
    go_wp2_with fail
    go_ret
    exact ⟨rfl, D2.out⟩
set_option maxHeartbeats 8000000 in
set_option maxRecDepth 100000 in
theorem back_made (v : Value) (ts : List ByteArray) (k : ByteArray) (w : World) (hm : HasM w) (hv : Strs w v ts) (hs : (∀ t ∈ ts, t.size ≤ 140737488355328) ∧ ts.length ≤ 8796093021952) (hk0 : k.size ≤ 140737488355328) (h1 : 1 ≤ ts.length) (h8 : ts.length ≤ 8) (hl : (keyL ts).length ≤ 120) :
    Calls Tryd.prog 6 #[v, .string k] w fun e w' => e = .returned (.bool true) ∧ Below w.heap.size w w' := by
  have V := Lib.hid hv
  have H := Lib.hid hm
  have FX := Lib.hid (fixed_ok w hm)
  have OW : Hid (∀ W, Strs W v ts → Calls Tryd.prog 12 #[v] W fun e w' => ∃ v', e = .returned v' ∧ OwnS W.heap.size w' v' ts ∧ Below W.heap.size W w') := Lib.hid fun W h => own_any v ts W h hs.2
  have SS : Hid (∀ W, HasM W → Calls Tryd.prog 13 #[.string k] W fun e w' => ∃ v, e = .returned (.tuple #[v, .int .i64 (splitE k)]) ∧ OwnS W.heap.size w' v (splitT k) ∧ Below W.heap.size W w') := Lib.hid fun W h => split_any k W h hk0
  have mk : makeR ts = (bytesOf (keyL ts), 0) := by unfold makeR; rw [if_neg (by omega), if_neg (by omega)]; rfl
  have sp := split_make mk
  obtain ⟨x, hx⟩ : ∃ x, x = bytesOf (keyL ts) := ⟨_, rfl⟩
  obtain ⟨n, hn⟩ : ∃ n, n = (keyL ts).length := ⟨_, rfl⟩
  have xz : x.size = n := by rw [hx, hn]; simp [bytesOf, ByteArray.size]
  rw [← hx] at mk sp
  have MA : Hid (∀ v W, HasM W → Strs W v ts → Calls Tryd.prog 11 #[v] W fun e w' => e = .returned (.tuple #[.string x, .int .i64 0]) ∧ Below W.heap.size W w') := Lib.hid fun v W h hv => by
    have := make_any v ts W h hv hs.1
    rw [mk] at this
    exact this
  have SX : Hid (∀ W, HasM W → Calls Tryd.prog 13 #[.string x] W fun e w' => ∃ v, e = .returned (.tuple #[v, .int .i64 0]) ∧ OwnS W.heap.size w' v ts ∧ Below W.heap.size W w') := Lib.hid fun W h => by
    have := split_any x W h (by omega)
    rw [(split_some sp).1, (split_some sp).2] at this
    exact this
  have SM : Hid (∀ v v' W, Strs W v ts → Strs W v' ts → Calls Tryd.prog 15 #[v, v'] W fun e w' => e = .returned (.bool true) ∧ Below W.heap.size W w') := Lib.hid fun v v' W h h' => by
    have := same_any v v' ts ts W h h'
    rw [decide_eq_true (rfl : ts = ts)] at this
    exact this
  have LE : Hid (∀ W, Strs W v ts → Calls Tryd.prog 16 #[v] W fun e w' => e = .returned (.int .i64 n) ∧ Below W.heap.size W w') := Lib.hid fun W h => by
    rw [hn]; exact length_few v ts W h h8 hs.1
  have g1 : decide ((ts.length : Int) < 1) = false := decide_eq_false (by omega)
  have g2 : decide ((ts.length : Int) > 8) = false := decide_eq_false (by omega)
  have g3 : decide ((n : Int) > 120) = false := decide_eq_false (by omega)
  clear hn hl hx mk sp
  obtain ⟨a, cap, rfl, hlc, hcm⟩ := hv.len
  unfold maxLen at hcm
  clear hv hm hs hk0
  go_enter Tryd.func6, Tryd.ntmps6
  go_wp2_with fail
  refine FX.out.mono ?_
  rintro r w1 ⟨rfl, hb⟩
  have B1 := Lib.hid hb
  clear hb FX
  go_wp2_with fail
  refine (OW.out w1 (V.out.below B1.out)).mono ?_
  rintro r w2 ⟨v2, rfl, o2, hb⟩
  have B2 := Lib.hid (B1.out.trans (hb.mono B1.out.size))
  have S2 := Lib.hid o2.strs
  clear hb o2 B1
  go_wp2_with fail
  refine (MA.out v2 w2 (H.out.below B2.out) S2.out).mono ?_
  rintro r w3 ⟨rfl, hb⟩
  have B3 := Lib.hid (B2.out.trans (hb.mono B2.out.size))
  clear hb B2 S2
  go_wp2_with fail
  refine (LE.out w3 (V.out.below B3.out)).mono ?_
  rintro r w4 ⟨rfl, hb⟩
  have B4 := Lib.hid (B3.out.trans (hb.mono B3.out.size))
  clear hb B3
  go_wp2_with fail
  refine (SX.out w4 (H.out.below B4.out)).mono ?_
  rintro r w5 ⟨v5, rfl, o5, hb⟩
  have B5 := Lib.hid (B4.out.trans (hb.mono B4.out.size))
  have S5 := Lib.hid o5.strs
  clear hb o5 B4
  go_wp2_with fail
  refine (SM.out v5 _ w5 S5.out (V.out.below B5.out)).mono ?_
  rintro r w6 ⟨rfl, hb⟩
  have B6 := Lib.hid (B5.out.trans (hb.mono B5.out.size))
  clear hb B5 S5
  cases hk : splitO k with
  | none =>
    have SK : Hid (∀ W, HasM W → Calls Tryd.prog 13 #[.string k] W fun e w' => ∃ v, e = .returned (.tuple #[v, .int .i64 2]) ∧ OwnS W.heap.size w' v [] ∧ Below W.heap.size W w') := Lib.hid fun W h => by
      have := SS.out W h
      rw [(split_none hk).1, (split_none hk).2] at this
      exact this
    clear hk
    go_wp2_with fail
    refine (SK.out w6 (H.out.below B6.out)).mono ?_
    rintro r x1 ⟨v, rfl, own, hb⟩
    have D1 := Lib.hid (B6.out.trans (hb.mono B6.out.size))
    obtain ⟨a1, c1, e1, _, _⟩ := own.strs.len
    subst e1
    clear hb own
    go_wp2_with fail
    go_ret
    exact ⟨rfl, D1.out⟩
  | some us =>
    have SK : Hid (∀ W, HasM W → Calls Tryd.prog 13 #[.string k] W fun e w' => ∃ v, e = .returned (.tuple #[v, .int .i64 0]) ∧ OwnS W.heap.size w' v us ∧ Below W.heap.size W w') := Lib.hid fun W h => by
      have := SS.out W h
      rw [(split_some hk).1, (split_some hk).2] at this
      exact this
    have MK : Hid (∀ v W, HasM W → Strs W v us → Calls Tryd.prog 11 #[v] W fun e w' => e = .returned (.tuple #[.string k, .int .i64 0]) ∧ Below W.heap.size W w') := Lib.hid fun v W h hv => by
      have := make_any v us W h hv (fun t ht => by have := split_sizes hk t ht; omega)
      rw [make_split hk] at this
      exact this
    have kk := eqB k k rfl
    clear hk
    go_wp2_with fail
    refine (SK.out w6 (H.out.below B6.out)).mono ?_
    rintro r x1 ⟨v, rfl, own, hb⟩
    have D1 := Lib.hid (B6.out.trans (hb.mono B6.out.size))
    have S1 := Lib.hid own.strs
    clear hb own
    go_wp2_with fail
    refine (MK.out v x1 (H.out.below D1.out) S1.out).mono ?_
    rintro r x2 ⟨rfl, hb⟩
    have D2 := Lib.hid (D1.out.trans (hb.mono D1.out.size))
    clear hb
    go_wp2_with fail
    go_ret
    exact ⟨rfl, D2.out⟩
theorem keyBack_walk (v : Value) (ts : List ByteArray) (k : ByteArray) (w : World) (hm : HasM w) (hv : Strs w v ts) (hs : (∀ t ∈ ts, t.size ≤ 140737488355328) ∧ ts.length ≤ 8796093021952) (hk : k.size ≤ 140737488351232) :
    Calls Tryd.prog 6 #[v, .string k] w fun e w' => e = .returned (.bool true) ∧ Below w.heap.size w w' := by
  by_cases h : ts.length = 0 ∨ 8 < ts.length
  · exact back_count v ts k w hm hv hs (by omega) h
  · by_cases hl : 120 < (keyL ts).length
    · exact back_long v ts k w hm hv hs (by omega) (by omega) (by omega) hl
    · exact back_made v ts k w hm hv hs (by omega) (by omega) (by omega) (by omega)
end Go.Proofs.YtggpiikiplogmaaDoor
