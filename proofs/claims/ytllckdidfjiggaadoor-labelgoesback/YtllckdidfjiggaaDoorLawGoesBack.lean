/-
  THE WALK of LabelGoesBack.
-/
import Derived.Test.YtllckdidfjiggaaDoorFixed
import Derived.Test.YtllckdidfjiggaaDoorUnderA
namespace Go.Proofs.YtllckdidfjiggaaDoor
open Go.RowKit
theorem joinR_good {ts : List ByteArray} (hg : Good ts) : joinR ts = (pth ts, 0) := by
  unfold joinR
  rw [hg.1, if_pos rfl, if_pos hg.2.1, if_pos hg.2.2]
  rfl
theorem lineTo_at (ts : List ByteArray) (m j : Nat) (h : j < m) : (lineTo ts m).getD j ⟨#[]⟩ = pth (ts.take (ts.length - j)) := by
  rw [List.getD_eq_getElem?_getD]
  unfold lineTo
  rw [List.getElem?_map, List.getElem?_range h]
  rfl
theorem line_tail {ts : List ByteArray} (h : ts ≠ []) : (lineOf ts).tail = lineOf ts.dropLast := by
  have hl : 0 < ts.length := List.length_pos_iff.2 h
  unfold lineOf lineTo
  rw [List.length_dropLast, show ts.length - 1 + 1 = ts.length by omega, List.range_succ_eq_map, List.map_cons, List.tail_cons, List.map_map]
  apply List.map_congr_left
  intro j hj
  rw [List.mem_range] at hj
  show pth (ts.take (ts.length - (j + 1))) = pth (ts.dropLast.take (ts.length - 1 - j))
  rw [List.dropLast_eq_take, List.take_take]
  congr 2
  omega
/-- Is it among the first of a line? -/
def inB (ts : List ByteArray) (b : ByteArray) (k : Nat) : Bool := decide (b.data.toList ∈ (lineTo ts k).map (·.data.toList))
theorem inB_succ (ts : List ByteArray) (b : ByteArray) (k : Nat) : inB ts b (k + 1) = (inB ts b k || decide (b.data.toList = (pth (ts.take (ts.length - k))).data.toList)) := by
  unfold inB
  rw [lineTo_succ, List.map_append]
  simp
theorem inB_under {ts : List ByteArray} (hg : Good ts) (b : ByteArray) : inB ts b (ts.length + 1) = underB (pth ts) b := by
  rw [Bool.eq_iff_iff, under_line hg]
  unfold inB lineTo
  rw [decide_eq_true_eq]
  simp only [List.map_map, List.mem_map, List.mem_range, Function.comp]
  constructor
  · rintro ⟨j, hj, e⟩
    exact ⟨ts.length - j, by omega, (data_inj e).symm⟩
  · rintro ⟨k, hk, rfl⟩
    exact ⟨ts.length - k, by omega, by rw [show ts.length - (ts.length - k) = k by omega]⟩
theorem Strs.tail {w : World} {g n cap : Nat} {ts : List ByteArray} (h : Strs w (.slice (some ⟨g, 0, none⟩) n cap) ts) (hn : 0 < ts.length) : Strs w (.slice (some ⟨g, 1, none⟩) (n - 1) (cap - 1)) ts.tail := by
  obtain ⟨a, c, e, h1, h2, _, h3⟩ := h
  simp only [Value.slice.injEq] at e
  obtain ⟨rfl, rfl, rfl⟩ := e
  refine ⟨_, cap - 1, by rw [List.length_tail], by rw [List.length_tail]; omega, by unfold maxLen at h2 ⊢; omega, (fun h => by cases h), fun k hk => ⟨g, 1, rfl, ?_⟩⟩
  rw [List.length_tail] at hk
  obtain ⟨b, off, e, hc⟩ := h3 (k + 1) (by omega)
  cases e
  rw [show 1 + k = 0 + (k + 1) by omega, hc]
  congr 2
  cases ts with
  | nil => simp at hn
  | cons t r => simp
set_option maxHeartbeats 8000000 in
set_option maxRecDepth 100000 in
theorem goesBack_none (a b : ByteArray) (ha : splitO a = none) (w : World) (hm : HasM w) :
    Calls Tryd.prog 6 #[.string a, .string b] w fun e w' => e = .returned (.bool true) ∧ Below w.heap.size w w' := by
  have H := Lib.hid hm
  have SA : Hid (∀ W, HasM W → Calls Tryd.prog 12 #[.string a] W fun e w' => ∃ v, e = .returned (.tuple #[v, .int .i64 41]) ∧ OwnS W.heap.size w' v [] ∧ Below W.heap.size W w') := Lib.hid fun W h => by
    have := split_any a W h
    rw [splitE_none ha, splitT_none ha] at this
    exact this
  have PA : Hid (∀ W, HasM W → Calls Tryd.prog 19 #[.string a] W fun e w' => e = .returned (.int .i64 41) ∧ Below W.heap.size W w') := Lib.hid fun W h => by
    have := path_any a W h
    rw [splitE_none ha] at this
    exact this
  have U1 : Hid (∀ W, HasM W → Calls Tryd.prog 20 #[.string a, .string b] W fun e w' => e = .returned (.bool false) ∧ Below W.heap.size W w') := Lib.hid fun W h => by
    have := under_any a b W h
    rw [(under_none ha).1] at this
    exact this
  have U2 : Hid (∀ W, HasM W → Calls Tryd.prog 20 #[.string b, .string a] W fun e w' => e = .returned (.bool false) ∧ Below W.heap.size W w') := Lib.hid fun W h => by
    have := under_any b a W h
    rw [(under_none ha).2] at this
    exact this
  clear hm ha
  go_enter Tryd.func6, Tryd.ntmps6
  go_wp2_with fail
  refine (fixed_ok w H.out).mono ?_
  rintro e w1 ⟨rfl, hb⟩
  have B1 := Lib.hid hb
  have H1 := Lib.hid (H.out.below hb)
  clear hb H
  go_wp2_with fail
  refine (SA.out w1 H1.out).mono ?_
  rintro e w2 ⟨v, rfl, own, hb⟩
  have B2 := Lib.hid (B1.out.trans (hb.mono B1.out.size))
  have H2 := Lib.hid (H1.out.below hb)
  obtain ⟨av, cap, hv, _, _⟩ := own.strs.len
  simp only [List.length_nil] at hv
  subst hv
  clear own hb B1 H1 SA
  go_wp2_with fail
  refine (PA.out w2 H2.out).mono ?_
  rintro e w3 ⟨rfl, hb⟩
  have B3 := Lib.hid (B2.out.trans (hb.mono B2.out.size))
  have H3 := Lib.hid (H2.out.below hb)
  clear hb B2 H2 PA
  go_wp2_with fail
  refine (U1.out w3 H3.out).mono ?_
  rintro e w4 ⟨rfl, hb⟩
  have B4 := Lib.hid (B3.out.trans (hb.mono B3.out.size))
  have H4 := Lib.hid (H3.out.below hb)
  clear hb B3 H3 U1
  go_wp2_with fail
  refine (U2.out w4 H4.out).mono ?_
  rintro e w5 ⟨rfl, hb⟩
  have B5 := Lib.hid (B4.out.trans (hb.mono B4.out.size))
  clear hb B4 H4 U2
  go_wp2_with fail
  go_ret
  exact ⟨rfl, B5.out⟩
set_option maxHeartbeats 16000000 in
set_option maxRecDepth 100000 in
theorem goesBack_some (ts : List ByteArray) (b : ByteArray) (hg : Good ts) (hts : ts ≠ []) (w : World) (hm : HasM w) :
    Calls Tryd.prog 6 #[.string (pth ts), .string b] w fun e w' => e = .returned (.bool true) ∧ Below w.heap.size w w' := by
  have H := Lib.hid hm
  have GG := Lib.hid hg
  have h8 := hg.2.1
  have SA : Hid (∀ W, HasM W → Calls Tryd.prog 12 #[.string (pth ts)] W fun e w' => ∃ v, e = .returned (.tuple #[v, .int .i64 0]) ∧ OwnS W.heap.size w' v ts ∧ Below W.heap.size W w') := Lib.hid fun W h => by
    have := split_any (pth ts) W h
    rw [splitE_some (splitO_good hg), splitT_some (splitO_good hg)] at this
    exact this
  have PA : Hid (∀ W, HasM W → Calls Tryd.prog 19 #[.string (pth ts)] W fun e w' => e = .returned (.int .i64 0) ∧ Below W.heap.size W w') := Lib.hid fun W h => by
    have := path_any (pth ts) W h
    rw [splitE_some (splitO_good hg)] at this
    exact this
  have JA : Hid (∀ W v, Strs W v ts → Calls Tryd.prog 11 #[v] W fun e w' => e = .returned (.tuple #[.string (pth ts), .int .i64 0]) ∧ Below W.heap.size W w') := Lib.hid fun W v h => by
    have := join_any v ts W h
    rw [joinR_good hg] at this
    exact this
  have LA : Hid (∀ W, HasM W → Calls Tryd.prog 21 #[.string (pth ts)] W fun e w' => ∃ v, e = .returned (.tuple #[v, .int .i64 0]) ∧ OwnS W.heap.size w' v (lineOf ts) ∧ Below W.heap.size W w') := Lib.hid fun W h => line_any ts hg W h
  have UD : Hid (∀ k, k ≤ ts.length → ∀ W, HasM W → Calls Tryd.prog 20 #[.string (pth ts), .string (pth (ts.take k))] W fun e w' => e = .returned (.bool true) ∧ Below W.heap.size W w') := Lib.hid fun k hk W h => by
    have := under_any (pth ts) (pth (ts.take k)) W h
    rw [(under_line hg _).2 ⟨k, hk, rfl⟩] at this
    exact this
  have UU : Hid (∀ k, k < ts.length → ∀ W, HasM W → Calls Tryd.prog 20 #[.string (pth (ts.take k)), .string (pth ts)] W fun e w' => e = .returned (.bool false) ∧ Below W.heap.size W w') := Lib.hid fun k hk W h => by
    have := under_any (pth (ts.take k)) (pth ts) W h
    rw [under_up hg hk] at this
    exact this
  have UB : Hid (∀ W, HasM W → Calls Tryd.prog 20 #[.string (pth ts), .string b] W fun e w' => e = .returned (.bool (inB ts b (ts.length + 1))) ∧ Below W.heap.size W w') := Lib.hid fun W h => by
    rw [inB_under hg]
    exact under_any (pth ts) b W h
  have PR : Hid (∀ W, HasM W → ts = [] → Calls Tryd.prog 22 #[.string (pth ts)] W fun e w' => e = .returned (.tuple #[.string ⟨#[]⟩, .int .i64 143]) ∧ Below W.heap.size W w') := Lib.hid fun W h e => by
    subst e
    exact parent_root W h
  have PP : Hid (∀ W, HasM W → ts ≠ [] → Calls Tryd.prog 22 #[.string (pth ts)] W fun e w' => e = .returned (.tuple #[.string (pth ts.dropLast), .int .i64 0]) ∧ Below W.heap.size W w') := Lib.hid fun W h e => parent_any ts hg e W h
  have LU : Hid (∀ W, HasM W → ts ≠ [] → Calls Tryd.prog 21 #[.string (pth ts.dropLast)] W fun e w' => ∃ v, e = .returned (.tuple #[v, .int .i64 0]) ∧ OwnS W.heap.size w' v (lineOf ts).tail ∧ Below W.heap.size W w') := Lib.hid fun W h e => by
    rw [line_tail e, List.dropLast_eq_take]
    exact line_any _ (hg.take _) W h
  obtain ⟨q, hq⟩ : ∃ q, q = pth ts := ⟨_, rfl⟩
  have Q : Aside (q = pth ts) := hq
  rw [← hq] at SA PA JA LA UD UU UB PR PP ⊢
  clear hm hg hq
  go_enter Tryd.func6, Tryd.ntmps6
  go_wp2_with fail
  refine (fixed_ok w H.out).mono ?_
  rintro e w1 ⟨rfl, hb⟩
  have B1 := Lib.hid hb
  have H1 := Lib.hid (H.out.below hb)
  clear hb H
  go_wp2_with fail
  refine (SA.out w1 H1.out).mono ?_
  rintro e w2 ⟨v, rfl, own, hb⟩
  have B2 := Lib.hid (B1.out.trans (hb.mono B1.out.size))
  have H2 := Lib.hid (H1.out.below hb)
  have N2 := Lib.hid own.strs
  clear own hb B1 H1 SA
  go_wp2_with fail
  refine (JA.out w2 v N2.out).mono ?_
  rintro e w3 ⟨rfl, hb⟩
  have B3 := Lib.hid (B2.out.trans (hb.mono B2.out.size))
  have H3 := Lib.hid (H2.out.below hb)
  have N3 := Lib.hid (N2.out.below hb)
  clear hb B2 H2 N2 JA
  go_wp2_with fail
  refine (LA.out w3 H3.out).mono ?_
  rintro e w4 ⟨vl, rfl, own, hb⟩
  have B4 := Lib.hid (B3.out.trans (hb.mono B3.out.size))
  have H4 := Lib.hid (H3.out.below hb)
  have N4 := Lib.hid (N3.out.below hb)
  have L4 := Lib.hid own.strs
  obtain ⟨an, capn, hvn, hn1, hn2⟩ := N4.out.len
  subst hvn
  have hlen : (lineOf ts).length = ts.length + 1 := lineTo_length _ _
  obtain ⟨gl, capl, hvl, hl1, hl2⟩ : ∃ g cap, vl = .slice (some ⟨g, 0, none⟩) (ts.length + 1) cap ∧ ts.length + 1 ≤ cap ∧ cap ≤ maxLen := by
    obtain ⟨_, ⟨_, h⟩ | ⟨g, cap, cur, hv, _, _, h1, h2, _⟩⟩ := own
    · rw [hlen] at h
      omega
    · exact ⟨g, cap, by rw [hv, hlen], by omega, h2⟩
  subst hvl
  unfold maxLen at hn2 hl2
  obtain ⟨g0, o0, eal, cl0⟩ := L4.out.at 0 (by rw [hlen]; omega)
  cases eal
  obtain ⟨g1, o1, eal', cll⟩ := L4.out.at ts.length (by rw [hlen]; omega)
  cases eal'
  rw [show (lineOf ts).getD 0 ⟨#[]⟩ = pth (ts.take (ts.length - 0)) from lineTo_at _ _ _ (by omega), Nat.sub_zero, List.take_length, ← Q.out, Nat.add_zero] at cl0
  rw [show (lineOf ts).getD ts.length ⟨#[]⟩ = pth (ts.take (ts.length - ts.length)) from lineTo_at _ _ _ (by omega), Nat.sub_self, show pth (ts.take 0) = ⟨#[47]⟩ from rfl, Nat.zero_add] at cll
  clear own hb B3 H3 N3 LA
  have hwr : wrap64 ((ts.length : Int) + 1) = (ts.length : Int) + 1 := by unfold wrap64; omega
  clear PR
  have hl0 : ((ts.length : Int) == 0) = false := by rw [beq_eq_false_iff_ne]; have := List.length_pos_iff.2 hts; omega
  have PE := Lib.hid (fun W h => PP.out W h hts)
  have LE := Lib.hid (fun W h => LU.out W h hts)
  have ST := Lib.hid (fun (W : World) (h : Strs W (.slice (some ⟨gl, 0, none⟩) (ts.length + 1) capl) (lineOf ts)) => h.tail (by rw [hlen]; omega))
  obtain ⟨u, hu⟩ : ∃ u, u = pth ts.dropLast := ⟨_, rfl⟩
  rw [← hu] at PE LE
  have hpos : 0 < ts.length := List.length_pos_iff.2 hts
  clear PP LU hu hts
  go_wp2_with fail
  refine (PE.out w4 H4.out).mono ?_
  rintro e w5 ⟨rfl, hb⟩
  have B5 := Lib.hid (B4.out.trans (hb.mono B4.out.size))
  have H5 := Lib.hid (H4.out.below hb)
  have N5 := Lib.hid (N4.out.below hb)
  have L5 := Lib.hid (L4.out.below hb)
  have c0 := (hb.cell (block_lt_of_cell cl0)).trans cl0
  have cl := (hb.cell (block_lt_of_cell cll)).trans cll
  clear hb B4 H4 N4 L4 PE cl0 cll
  go_wp2_with fail
  refine (PA.out w5 H5.out).mono ?_
  rintro e w6 ⟨rfl, hb⟩
  have B6 := Lib.hid (B5.out.trans (hb.mono B5.out.size))
  have H6 := Lib.hid (H5.out.below hb)
  have N6 := Lib.hid (N5.out.below hb)
  have L6 := Lib.hid (L5.out.below hb)
  clear hb B5 H5 N5 L5 PA c0 cl
  go_wp2_with fail
  refine (LE.out w6 H6.out).mono ?_
  rintro e w7 ⟨vm, rfl, own, hb⟩
  have BX := Lib.hid (B6.out.trans (hb.mono B6.out.size))
  have HX := Lib.hid (H6.out.below hb)
  have NX := Lib.hid (N6.out.below hb)
  have LX := Lib.hid (L6.out.below hb)
  have M7 := Lib.hid own.strs
  clear own hb B6 H6 N6 L6 LE
  go_wp2_with fail
  refine (sameTexts_yes vm _ (lineOf ts).tail w7 M7.out (by have := ST.out w7 LX.out; rw [Nat.add_sub_cancel] at this; exact this)).mono ?_
  rintro e w10 ⟨rfl, hb⟩
  have BY := Lib.hid (BX.out.trans (hb.mono BX.out.size))
  have HY := Lib.hid (HX.out.below hb)
  have NY := Lib.hid (NX.out.below hb)
  have LY := Lib.hid (LX.out.below hb)
  clear hb BX HX NX LX M7 ST
  have BX := Lib.hid BY.out
  have HX := Lib.hid HY.out
  have NX := Lib.hid NY.out
  have LX := Lib.hid LY.out
  clear BY HY NY LY
  go_wp2_with fail
  go_loopg [15, 16] (ts.length + 1) (fun g sn si wr => ∃ (k : Nat), k ≤ ts.length + 1 ∧ g = ts.length + 1 - k ∧ si = .int .i64 k ∧ sn = .bool (inB ts b k) ∧ Below w10.heap.size w10 wr)
  case atStart => exact ⟨0, Nat.zero_le _, rfl, rfl, rfl, Below.refl _ _⟩
  case round =>
    obtain ⟨k, hk, hgk, rfl, rfl, hb⟩ := hrel
    have GK := Lib.hid hgk
    have HB := Lib.hid hb
    have LW := Lib.hid (LX.out.below hb)
    have NW := Lib.hid (NX.out.below hb)
    have HW := Lib.hid (HX.out.below hb)
    clear hgk hb
    by_cases hlt : k < ts.length + 1
    · have hlt' : (k : Int) < (ts.length : Int) + 1 := by omega
      obtain ⟨g', o', e', ck⟩ := LW.out.at k (by rw [hlen]; omega)
      cases e'
      rw [show (lineOf ts).getD k ⟨#[]⟩ = pth (ts.take (ts.length - k)) from lineTo_at _ _ _ hlt, Nat.zero_add] at ck
      have UDk := Lib.hid (UD.out (ts.length - k) (by omega))
      have IS := Lib.hid (inB_succ ts b k)
      have UUk : Hid (0 < k → ∀ W, HasM W → Calls Tryd.prog 20 #[.string (pth (ts.take (ts.length - k))), .string q] W fun e w' => e = .returned (.bool false) ∧ Below W.heap.size W w') := Lib.hid fun h => UU.out (ts.length - k) (by omega)
      obtain ⟨x, hx⟩ : ∃ x, x = pth (ts.take (ts.length - k)) := ⟨_, rfl⟩
      rw [← hx] at ck UDk IS UUk
      clear hx
      have hin : ∃ y, inB ts b (k + 1) = y ∧ ((inB ts b k = true ∧ y = true) ∨ (inB ts b k = false ∧ (x.toList == b.toList) = y)) := by
        cases h0 : inB ts b k with
        | true => exact ⟨true, by rw [IS.out, h0]; rfl, Or.inl ⟨rfl, rfl⟩⟩
        | false =>
          by_cases hxb : b.data.toList = x.data.toList
          · exact ⟨true, by rw [IS.out, h0, decide_eq_true hxb]; rfl, Or.inr ⟨rfl, by rw [list_of_bytes, list_of_bytes, beq_iff_eq]; exact hxb.symm⟩⟩
          · exact ⟨false, by rw [IS.out, h0, decide_eq_false hxb]; rfl, Or.inr ⟨rfl, by rw [list_of_bytes, list_of_bytes, beq_eq_false_iff_ne]; exact fun h => hxb h.symm⟩⟩
      obtain ⟨y, hy, hcase⟩ := hin
      have Y := Lib.hid hy
      clear hy IS
      rcases hcase with ⟨h0, rfl⟩ | ⟨h0, hxb⟩
      · rw [h0]
        clear h0
        go_wp2_with fail
        refine (UDk.out _ HW.out).mono ?_
        rintro e w8 ⟨rfl, hb⟩
        have B8 := Lib.hid (HB.out.trans (hb.mono HB.out.size))
        have H8 := Lib.hid (HW.out.below hb)
        have c8 := (hb.cell (block_lt_of_cell ck)).trans ck
        clear hb ck UDk
        by_cases h0k : 0 < k
        · have g0 : decide ((k : Int) > 0) = true := decide_eq_true (by omega)
          go_wp2_with fail
          refine (UUk.out h0k _ H8.out).mono ?_
          rintro e w9 ⟨rfl, hb⟩
          have B9 := Lib.hid (B8.out.trans (hb.mono B8.out.size))
          clear hb UUk
          go_wp2_with fail
          go_roundg (ts.length + 1 - (k + 1))
          case measure => have := GK.out; omega
          case rel => exact ⟨k + 1, by omega, rfl, by go_num, by rw [Y.out], B9.out⟩
        · have g0 : decide ((k : Int) > 0) = false := decide_eq_false (by omega)
          go_wp2_with fail
          go_roundg (ts.length + 1 - (k + 1))
          case measure => have := GK.out; omega
          case rel => exact ⟨k + 1, by omega, rfl, by go_num, by rw [Y.out], B8.out⟩
      · rw [h0]
        clear h0
        go_wp2_with fail
        refine (UDk.out _ HW.out).mono ?_
        rintro e w8 ⟨rfl, hb⟩
        have B8 := Lib.hid (HB.out.trans (hb.mono HB.out.size))
        have H8 := Lib.hid (HW.out.below hb)
        have c8 := (hb.cell (block_lt_of_cell ck)).trans ck
        clear hb ck UDk
        by_cases h0k : 0 < k
        · have g0 : decide ((k : Int) > 0) = true := decide_eq_true (by omega)
          go_wp2_with fail
          refine (UUk.out h0k _ H8.out).mono ?_
          rintro e w9 ⟨rfl, hb⟩
          have B9 := Lib.hid (B8.out.trans (hb.mono B8.out.size))
          clear hb UUk
          go_wp2_with fail
          go_roundg (ts.length + 1 - (k + 1))
          case measure => have := GK.out; omega
          case rel => exact ⟨k + 1, by omega, rfl, by go_num, by rw [Y.out], B9.out⟩
        · have g0 : decide ((k : Int) > 0) = false := decide_eq_false (by omega)
          go_wp2_with fail
          go_roundg (ts.length + 1 - (k + 1))
          case measure => have := GK.out; omega
          case rel => exact ⟨k + 1, by omega, rfl, by go_num, by rw [Y.out], B8.out⟩
    · have hk' : k = ts.length + 1 := by omega
      subst hk'
      go_wp2_with fail
      obtain ⟨iv, hiv⟩ : ∃ iv, iv = inB ts b (ts.length + 1) := ⟨_, rfl⟩
      rw [← hiv] at UB ⊢
      clear hiv
      have BV := Lib.hid (BX.out.trans (HB.out.mono BX.out.size))
      obtain ⟨w0, hw0⟩ : ∃ w0, w0 = wr := ⟨_, rfl⟩
      rw [← hw0] at HB LW NW HW BV ⊢
      clear hw0 GK
      go_loopg [17] ts.length (fun g si wr => ∃ (k : Nat), k ≤ ts.length ∧ g = ts.length - k ∧ si = .int .i64 k ∧ Below w0.heap.size w0 wr)
      case atStart => exact ⟨0, Nat.zero_le _, rfl, rfl, Below.refl _ _⟩
      case round =>
        obtain ⟨k, hk, hgk, rfl, hb⟩ := hrel
        have GK := Lib.hid hgk
        have HB2 := Lib.hid hb
        have NV := Lib.hid (NW.out.below hb)
        have HV := Lib.hid (HW.out.below hb)
        clear hgk hb
        by_cases hlt : k < ts.length
        · have hlt' : (k : Int) < (ts.length : Int) := by omega
          obtain ⟨g', o', e', ck⟩ := NV.out.at k hlt
          subst e'
          obtain ⟨t, ht⟩ : ∃ t, t = ts.getD k ⟨#[]⟩ := ⟨_, rfl⟩
          rw [← ht] at ck
          have hnm : nameB t = true := by
            have := GG.out.1
            rw [List.all_eq_true] at this
            exact this t (by rw [ht, List.getD_eq_getElem?_getD, List.getElem?_eq_getElem hlt]; exact List.getElem_mem hlt)
          have NA := Lib.hid (name_any t)
          rw [hnm] at NA
          clear ht hnm
          go_wp2_with fail
          refine (NA.out _).mono ?_
          rintro e w9 ⟨rfl, hb⟩
          have B9 := Lib.hid (HB2.out.trans (hb.mono HB2.out.size))
          clear hb NA
          go_wp2_with fail
          go_roundg (ts.length - (k + 1))
          case measure => have := GK.out; omega
          case rel => exact ⟨k + 1, by omega, rfl, by go_num, B9.out⟩
        · go_wp2_with fail
          refine (UB.out _ HV.out).mono ?_
          rintro e w9 ⟨rfl, hb⟩
          have B9 := Lib.hid (BV.out.trans ((HB2.out.trans (hb.mono HB2.out.size)).mono BV.out.size))
          clear hb
          cases iv with
          | true =>
            go_wp2_with fail
            go_ret
            exact ⟨rfl, B9.out⟩
          | false =>
            go_wp2_with fail
            go_ret
            exact ⟨rfl, B9.out⟩
set_option maxHeartbeats 16000000 in
set_option maxRecDepth 100000 in
theorem goesBack_root (b : ByteArray) (w : World) (hm : HasM w) :
    Calls Tryd.prog 6 #[.string ⟨#[47]⟩, .string b] w fun e w' => e = .returned (.bool true) ∧ Below w.heap.size w w' := by
  have H := Lib.hid hm
  have SA : Hid (∀ W, HasM W → Calls Tryd.prog 12 #[.string ⟨#[47]⟩] W fun e w' => ∃ v, e = .returned (.tuple #[v, .int .i64 0]) ∧ OwnS W.heap.size w' v [] ∧ Below W.heap.size W w') := Lib.hid fun W h => split_any ⟨#[47]⟩ W h
  have PA : Hid (∀ W, HasM W → Calls Tryd.prog 19 #[.string ⟨#[47]⟩] W fun e w' => e = .returned (.int .i64 0) ∧ Below W.heap.size W w') := Lib.hid fun W h => path_any ⟨#[47]⟩ W h
  have JA : Hid (∀ W v, Strs W v [] → Calls Tryd.prog 11 #[v] W fun e w' => e = .returned (.tuple #[.string ⟨#[47]⟩, .int .i64 0]) ∧ Below W.heap.size W w') := Lib.hid fun W v h => join_any v [] W h
  have LA : Hid (∀ W, HasM W → Calls Tryd.prog 21 #[.string ⟨#[47]⟩] W fun e w' => ∃ v, e = .returned (.tuple #[v, .int .i64 0]) ∧ OwnS W.heap.size w' v [⟨#[47]⟩] ∧ Below W.heap.size W w') := Lib.hid fun W h => line_any [] good_root W h
  have UD : Hid (∀ W, HasM W → Calls Tryd.prog 20 #[.string ⟨#[47]⟩, .string ⟨#[47]⟩] W fun e w' => e = .returned (.bool true) ∧ Below W.heap.size W w') := Lib.hid fun W h => under_any ⟨#[47]⟩ ⟨#[47]⟩ W h
  have PR : Hid (∀ W, HasM W → Calls Tryd.prog 22 #[.string ⟨#[47]⟩] W fun e w' => e = .returned (.tuple #[.string ⟨#[]⟩, .int .i64 143]) ∧ Below W.heap.size W w') := Lib.hid fun W h => parent_root W h
  have UB : Hid (∀ W, HasM W → Calls Tryd.prog 20 #[.string ⟨#[47]⟩, .string b] W fun e w' => e = .returned (.bool ([47] == b.toList)) ∧ Below W.heap.size W w') := Lib.hid fun W h => by
    have := under_any ⟨#[47]⟩ b W h
    have e : underB ⟨#[47]⟩ b = ([47] == b.toList) := by
      have h2 := inB_under good_root b
      rw [show pth [] = ⟨#[47]⟩ from rfl] at h2
      rw [← h2, show ([] : List ByteArray).length + 1 = 0 + 1 from rfl, inB_succ, list_of_bytes]
      show (decide (b.data.toList ∈ []) || decide (b.data.toList = [47])) = _
      by_cases hh : b.data.toList = [47]
      · rw [decide_eq_true hh, hh]; rfl
      · rw [decide_eq_false hh, show ([47] == b.data.toList) = false by rw [beq_eq_false_iff_ne]; exact fun h => hh h.symm]; rfl
    rw [e] at this
    exact this
  clear hm
  go_enter Tryd.func6, Tryd.ntmps6
  go_wp2_with fail
  refine (fixed_ok w H.out).mono ?_
  rintro e w1 ⟨rfl, hb⟩
  have B1 := Lib.hid hb
  have H1 := Lib.hid (H.out.below hb)
  clear hb H
  go_wp2_with fail
  refine (SA.out w1 H1.out).mono ?_
  rintro e w2 ⟨v, rfl, own, hb⟩
  have B2 := Lib.hid (B1.out.trans (hb.mono B1.out.size))
  have H2 := Lib.hid (H1.out.below hb)
  have N2 := Lib.hid own.strs
  obtain ⟨an, capn, hvn, hn1, hn2⟩ := N2.out.len
  simp only [List.length_nil] at hvn
  subst hvn
  clear own hb B1 H1 SA
  go_wp2_with fail
  refine (JA.out w2 _ N2.out).mono ?_
  rintro e w3 ⟨rfl, hb⟩
  have B3 := Lib.hid (B2.out.trans (hb.mono B2.out.size))
  have H3 := Lib.hid (H2.out.below hb)
  clear hb B2 H2 N2 JA
  go_wp2_with fail
  refine (LA.out w3 H3.out).mono ?_
  rintro e w4 ⟨vl, rfl, own, hb⟩
  have B4 := Lib.hid (B3.out.trans (hb.mono B3.out.size))
  have H4 := Lib.hid (H3.out.below hb)
  have L4 := Lib.hid own.strs
  obtain ⟨al, capl, hvl, hl1, hl2⟩ := L4.out.len
  simp only [List.length_cons, List.length_nil, Nat.zero_add] at hvl hl1
  subst hvl
  unfold maxLen at hl2
  obtain ⟨gl, ol, eal, cl0⟩ := L4.out.at 0 (by simp)
  subst eal
  rw [Nat.add_zero, show ([⟨#[47]⟩] : List ByteArray).getD 0 ⟨#[]⟩ = ⟨#[47]⟩ from rfl] at cl0
  clear own hb B3 H3 LA L4
  go_wp2_with fail
  refine (PR.out w4 H4.out).mono ?_
  rintro e w5 ⟨rfl, hb⟩
  have B5 := Lib.hid (B4.out.trans (hb.mono B4.out.size))
  have H5 := Lib.hid (H4.out.below hb)
  have c5 := (hb.cell (block_lt_of_cell cl0)).trans cl0
  clear hb B4 H4 PR cl0
  go_wp2_with fail
  refine (PA.out w5 H5.out).mono ?_
  rintro e w6 ⟨rfl, hb⟩
  have B6 := Lib.hid (B5.out.trans (hb.mono B5.out.size))
  have H6 := Lib.hid (H5.out.below hb)
  have c6 := (hb.cell (block_lt_of_cell c5)).trans c5
  clear hb B5 H5 PA c5
  go_wp2_with fail
  refine wp_loop_rounds 2 ?_
  rw [rounds_succ]
  go_wp2_with fail
  refine (UD.out w6 H6.out).mono ?_
  rintro e w7 ⟨rfl, hb⟩
  have B7 := Lib.hid (B6.out.trans (hb.mono B6.out.size))
  have H7 := Lib.hid (H6.out.below hb)
  clear hb B6 H6 UD c6
  go_wp2_with fail
  rw [rounds_succ]
  go_wp2_with fail
  refine wp_loop_rounds 1 ?_
  rw [rounds_succ]
  go_wp2_with fail
  refine (UB.out w7 H7.out).mono ?_
  rintro e w8 ⟨rfl, hb⟩
  have B8 := Lib.hid (B7.out.trans (hb.mono B7.out.size))
  clear hb UB
  cases hx : ([47] == b.toList) with
  | true =>
    go_wp2_with fail
    go_ret
    exact ⟨by rfl, B8.out⟩
  | false =>
    go_wp2_with fail
    go_ret
    exact ⟨by rfl, B8.out⟩
theorem labelGoesBack_walk (a b : ByteArray) (w : World) (hm : HasM w) (_ : a.size ≤ 140737488351232) (_ : b.size ≤ 140737488351232) :
    Calls Tryd.prog 6 #[.string a, .string b] w fun e w' => e = .returned (.bool true) ∧ Below w.heap.size w w' := by
  cases ha : splitO a with
  | none => exact goesBack_none a b ha w hm
  | some ts =>
    obtain ⟨rfl, hg⟩ := splitO_some ha
    by_cases h : ts = []
    · subst h
      exact goesBack_root b w hm
    · exact goesBack_some ts b hg h w hm
end Go.Proofs.YtllckdidfjiggaaDoor
