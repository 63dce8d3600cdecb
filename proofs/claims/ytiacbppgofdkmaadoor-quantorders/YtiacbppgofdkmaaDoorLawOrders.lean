/-
  The law QuantOrders.
-/
import Derived.Test.YtiacbppgofdkmaaDoorNrT
import Derived.Test.YtiacbppgofdkmaaDoorKnownK
namespace Go.Proofs.YtiacbppgofdkmaaDoor
open Go.RowKit Go.Lib
theorem own_pl {B : Nat} {w : World} {v : Value} {l : List Am} (H : OwnR kAm B w v l) : ∀ ad n c, v = .slice (some ad) n c → ∃ b off, ad = ⟨b, off, none⟩ := by
  obtain ⟨_, ⟨hv, hn⟩ | ⟨g, cap, cur, hv, _⟩⟩ := H
  · intro ad n c e; rw [hv] at e; injection e with e; cases e
  · intro ad n c e; rw [hv] at e; injection e with e; injection e with e; exact ⟨g, 0, e.symm⟩
theorem nr_perm {l t : List Am} (h : t.Perm l) : nrE t = nrE l ∧ nrL t = nrL l := by
  have h1 : t.all amB = l.all amB := h.all_eq
  have h2 : Ov (ent t) ↔ Ov (ent l) := Ov_perm (ent_perm h)
  have h3 : outL (ent t) = outL (ent l) := outL_perm (ent_perm h)
  have h4 : (nmsOf (ent t)).length = (nmsOf (ent l)).length := by rw [← out_len, h3, out_len]
  unfold nrE nrL
  rw [h1, h3, h4]
  by_cases q : Ov (ent l)
  · have q2 := h2.2 q
    simp only [q, q2]; exact ⟨trivial, trivial⟩
  · have q2 : ¬ Ov (ent t) := fun c => q (h2.1 c)
    simp only [q, q2]; exact ⟨trivial, trivial⟩
theorem behind_n (v : Value) (l : List Am) (m : Amt) (w : World) (n : Nat) (hn : n = l.length) (hv : Row kAm w v l) (hm : Mark w m) (hl : (n + 1) * 24 ≤ 140737488355328) :
    Calls Tryd.prog 16 #[v] w fun e w' => ∃ g cap, e = .returned (.slice (some ⟨g, 0, none⟩) (n + 1) cap) ∧ n + 1 ≤ cap ∧ cap ≤ 9223372036854775807 ∧ Row kAm w' (.slice (some ⟨g, 0, none⟩) n cap) l ∧ Below w.heap.size w w' := by
  subst hn; exact behind_row v l m w hv hm hl
theorem normal_n (v : Value) (l L : List Am) (E : Int) (k : Nat) (w : World) (hv : Row kAm w v l) (hpl : ∀ ad n c, v = .slice (some ad) n c → ∃ b off, ad = ⟨b, off, none⟩) (hz : l.length * 24 ≤ 140737488355328) (hf : ∀ x ∈ l, x.v ≤ 9223372036854775807)
    (hE : nrE l = E) (hL : nrL l = L) (hk : k = L.length) :
    Calls Tryd.prog 17 #[v] w fun e w' => ∃ a c, e = .returned (.tuple #[.slice a k c, .int .i64 E]) ∧ k ≤ c ∧ c ≤ 9223372036854775807 ∧ Row kAm w' (.slice a k c) L ∧ Below w.heap.size w w' := by
  subst hE hL hk
  refine (normal_any v l w hv hpl hz hf).mono ?_
  rintro e w' ⟨a, n, c, rfl, ho, hb⟩
  obtain ⟨a', c', e', h1, h2⟩ := (ho.row okAm).len
  simp only [Value.slice.injEq] at e'
  obtain ⟨rfl, rfl, rfl⟩ := e'
  unfold maxLen at h2
  exact ⟨a, c, rfl, h1, h2, ho.row okAm, hb⟩
theorem row_sum {l : List Am} (h : nrE l = 0) {i : Nat} (hi : i < (nrL l).length) {y : Am} (hy : y = (nrL l).getD i kAm.z) : Tot (ent l) y.n.data.toList = y.v ∧ y.v ≤ 9223372036854775807 ∧ ∃ x ∈ l, x.n.data.toList = y.n.data.toList := by
  have hq := (nr_told h).2 y (by rw [hy]; exact getD_in hi)
  obtain ⟨h1, h2, h3, h4⟩ := nr_zero h
  rw [h4] at hy hi
  have hi' : i < (nmsOf (ent l)).length := by rw [← out_len]; exact hi
  rw [out_at _ _ hi'] at hy
  subst hy
  refine ⟨rfl, hq, ?_⟩
  have hm : (nmsOf (ent l)).getD i [] ∈ nmsOf (ent l) := getD_in hi'
  rw [mem_nms] at hm
  unfold ent at hm
  rw [List.map_map] at hm
  obtain ⟨x, hx, e⟩ := List.mem_map.1 hm
  exact ⟨x, hx, e⟩
theorem row_names {l : List Am} (h : nrE l = 0) {x : Am} (hx : x ∈ l) : ∃ y ∈ nrL l, y.n.data.toList = x.n.data.toList := by
  obtain ⟨h1, h2, h3, h4⟩ := nr_zero h
  have hm : x.n.data.toList ∈ nmsOf (ent l) := by
    rw [mem_nms]; unfold ent; rw [List.map_map]
    exact List.mem_map.2 ⟨x, hx, rfl⟩
  refine ⟨⟨⟨x.n.data.toList.toArray⟩, Tot (ent l) x.n.data.toList⟩, ?_, rfl⟩
  rw [h4]; unfold outL
  exact List.mem_map.2 ⟨_, hm, rfl⟩
def parS (l : List Am) (n : List UInt8) (j : Nat) : Int := Tot (ent (l.take j)) n
def parT (l : List Am) (n : List UInt8) (j : Nat) : Bool := (l.take j).any fun x => decide (x.n.data.toList = n)
theorem par_yes {l : List Am} {n : List UInt8} {j : Nat} (hj : j < l.length) (h : (l.getD j kAm.z).n.data.toList = n) : parS l n (j + 1) = parS l n j + (l.getD j kAm.z).v ∧ parT l n (j + 1) = true := by
  unfold parS parT
  rw [take_onez l j kAm.z hj, ent_app, Tot_app, List.any_append]
  refine ⟨?_, ?_⟩
  · congr 1
    show Tot [((l.getD j kAm.z).n.data.toList, (l.getD j kAm.z).v)] n = _
    rw [Tot_one, if_pos h]
  · rw [List.any_cons, List.any_nil, decide_eq_true h]; simp
theorem par_no {l : List Am} {n : List UInt8} {j : Nat} (hj : j < l.length) (h : ¬ (l.getD j kAm.z).n.data.toList = n) : parS l n (j + 1) = parS l n j ∧ parT l n (j + 1) = parT l n j := by
  unfold parS parT
  rw [take_onez l j kAm.z hj, ent_app, Tot_app, List.any_append]
  refine ⟨?_, ?_⟩
  · have : Tot [((l.getD j kAm.z).n.data.toList, (l.getD j kAm.z).v)] n = 0 := by rw [Tot_one, if_neg h]
    show _ + Tot [((l.getD j kAm.z).n.data.toList, (l.getD j kAm.z).v)] n = _
    rw [this]; omega
  · rw [List.any_cons, List.any_nil, decide_eq_false h]; simp
theorem par_le {l : List Am} (h : nrE l = 0) (n : List UInt8) (j : Nat) : 0 ≤ parS l n j ∧ parS l n j ≤ 9223372036854775807 := by
  obtain ⟨h1, h2, h3, h4⟩ := nr_zero h
  have hp := ent_pos (am_pos h1)
  have hs : ∀ m, (∀ x ∈ m, x ∈ l) → 0 ≤ Tot (ent m) n := fun m hm => Tot_pos (fun e he => by
    unfold ent at he
    obtain ⟨x, hx, rfl⟩ := List.mem_map.1 he
    exact hp _ (List.mem_map.2 ⟨x, hm x hx, rfl⟩)) n
  have e : Tot (ent l) n = Tot (ent (l.take j)) n + Tot (ent (l.drop j)) n := by rw [← Tot_app, ← ent_app, List.take_append_drop]
  have q1 := hs (l.take j) (fun x hx => List.mem_of_mem_take hx)
  have q2 := hs (l.drop j) (fun x hx => List.mem_of_mem_drop hx)
  have q3 : ¬ 9223372036854775807 < Tot (ent l) n := fun c => h2 ⟨n, c⟩
  unfold parS
  omega
theorem wrap_sum {x : Int} (h : 0 ≤ x ∧ x ≤ 9223372036854775807) : wrap64 x = x := by unfold wrap64; omega

set_option maxHeartbeats 8000000 in
set_option maxRecDepth 100000 in
theorem orders_31 (v : Value) (l R : List Am) (x : Int) (m : Amt) (n k : Nat) (C : Int) (w : World) (G : Glob w) (hm : Mark w m) (hv : Row kAm w v l) (hz : (n + 1) * 24 ≤ 140737488355328) (hf : ∀ x ∈ l, x.v ≤ 9223372036854775807) (hn : n = l.length) (hk : k = R.length) (hC : amsC l = C) (hC0 : C ≠ 0) (hR : R = []) (hE : nrE l = 31) (hL : nrL l = R) :
    Calls Tryd.prog 6 #[v, .int .i64 x] w fun e w' => e = .returned (.bool true) ∧ Below w.heap.size w w' := by
  have c0 : (C == 0) = false := by rw [beq_eq_false_iff_ne]; exact hC0
  obtain rfl : k = 0 := by rw [hk, hR]; rfl
  clear hC0 hR
  have K := Lib.hid (known_ok w G)
  have V0 := Lib.hid hv
  have M0 := Lib.hid hm
  have HZ := Lib.hid hz
  have HF := Lib.hid hf
  have HE := Lib.hid hE
  have HL := Lib.hid hL
  have HK := Lib.hid hk
  have HN := Lib.hid hn
  obtain ⟨va, vc, rfl, hlc, hcm⟩ := hv.len
  unfold maxLen at hcm
  rw [← hn] at hlc V0 ⊢
  have n1 : (n : Int) ≤ 5864062014806 := by omega
  clear G hv hm hz hf hE hL hk hn
  go_enter Tryd.func6, Tryd.ntmps6
  go_wp2_with fail
  refine K.out.mono ?_
  rintro e w1 ⟨rfl, hb⟩
  have B1 : Hid (Below w.heap.size w w1) := Lib.hid hb
  have M1 := Lib.hid (M0.out.below hb)
  have V1 := Lib.hid (V0.out.below hb)
  clear hb M0 V0
  clear K
  go_wp2_with fail
  refine (behind_n _ l m w1 n HN.out V1.out M1.out HZ.out).mono ?_
  rintro e w2 ⟨g2, cap2, rfl, hc2, hd2, hr, hb⟩
  have Z2 := Lib.hid hr
  clear hr
  have B2 : Hid (Below w.heap.size w w2) := Lib.hid (B1.out.trans (hb.mono B1.out.size))
  have M2 := Lib.hid (M1.out.below hb)
  have V2 := Lib.hid (V1.out.below hb)
  clear hb B1 M1 V1
  go_wp2_with fail
  refine (normal_n _ l R 31 _ w2 Z2.out (fun ad n c e => by injection e with e; injection e with e; exact ⟨_, _, e.symm⟩) (by have := HZ.out; rw [← HN.out]; omega) HF.out HE.out HL.out HK.out).mono ?_
  rintro e w3 ⟨aA, cA, rfl, hcA, hdA, hr, hb⟩
  have A3 := Lib.hid hr
  clear hr
  have B3 : Hid (Below w.heap.size w w3) := Lib.hid (B2.out.trans (hb.mono B2.out.size))
  have M3 := Lib.hid (M2.out.below hb)
  have V3 := Lib.hid (V2.out.below hb)
  clear hb B2 M2 V2
  clear Z2
  go_wp2_with fail
  refine (turned_any _ l x w3 V3.out (by rw [← HN.out]; exact HZ.out)).mono ?_
  rintro e w4 ⟨t, ta, tn, tc, rfl, ht, hr, hb⟩
  have TP := Lib.hid ht
  have T4 := Lib.hid hr
  clear hr ht
  have B4 : Hid (Below w.heap.size w w4) := Lib.hid (B3.out.trans (hb.mono B3.out.size))
  have M4 := Lib.hid (M3.out.below hb)
  have V4 := Lib.hid (V3.out.below hb)
  have A4 := Lib.hid (A3.out.below hb)
  clear hb B3 M3 V3 A3
  go_wp2_with fail
  refine (normal_n _ t R 31 _ w4 (T4.out.row okAm) (own_pl T4.out) (by rw [TP.out.length_eq, ← HN.out]; have := HZ.out; omega) (fun y hy => HF.out y (TP.out.mem_iff.1 hy)) ((nr_perm TP.out).1.trans HE.out) ((nr_perm TP.out).2.trans HL.out) HK.out).mono ?_
  rintro e w5 ⟨aB, cB, rfl, hcB, hdB, hr, hb⟩
  have Y5 := Lib.hid hr
  clear hr
  have B5 : Hid (Below w.heap.size w w5) := Lib.hid (B4.out.trans (hb.mono B4.out.size))
  have M5 := Lib.hid (M4.out.below hb)
  have V5 := Lib.hid (V4.out.below hb)
  have A5 := Lib.hid (A4.out.below hb)
  clear hb B4 M4 V4 A4
  clear T4 TP
  go_wp2_with fail
  refine (back_any _ l w5 V5.out (by rw [← HN.out]; have := HZ.out; omega)).mono ?_
  rintro e w6 ⟨ba, bn, bc, rfl, hr, hb⟩
  have T6 := Lib.hid hr
  clear hr
  have B6 : Hid (Below w.heap.size w w6) := Lib.hid (B5.out.trans (hb.mono B5.out.size))
  have M6 := Lib.hid (M5.out.below hb)
  have V6 := Lib.hid (V5.out.below hb)
  have A6 := Lib.hid (A5.out.below hb)
  have Y6 := Lib.hid (Y5.out.below hb)
  clear hb B5 M5 V5 A5 Y5
  go_wp2_with fail
  refine (normal_n _ l.reverse R 31 _ w6 (T6.out.row okAm) (own_pl T6.out) (by rw [List.length_reverse, ← HN.out]; have := HZ.out; omega) (fun y hy => HF.out y (List.mem_reverse.1 hy)) ((nr_perm (List.reverse_perm l)).1.trans HE.out) ((nr_perm (List.reverse_perm l)).2.trans HL.out) HK.out).mono ?_
  rintro e w7 ⟨aC, cC, rfl, hcC, hdC, hr, hb⟩
  have X7 := Lib.hid hr
  clear hr
  have B7 : Hid (Below w.heap.size w w7) := Lib.hid (B6.out.trans (hb.mono B6.out.size))
  have M7 := Lib.hid (M6.out.below hb)
  have V7 := Lib.hid (V6.out.below hb)
  have A7 := Lib.hid (A6.out.below hb)
  have Y7 := Lib.hid (Y6.out.below hb)
  clear hb B6 M6 V6 A6 Y6
  clear T6
  go_wp2_with fail
  refine (same_row _ _ R w7 A7.out Y7.out).mono ?_
  rintro e w8 ⟨rfl, hb⟩
  have B8 : Hid (Below w.heap.size w w8) := Lib.hid (B7.out.trans (hb.mono B7.out.size))
  have M8 := Lib.hid (M7.out.below hb)
  have V8 := Lib.hid (V7.out.below hb)
  have A8 := Lib.hid (A7.out.below hb)
  have Y8 := Lib.hid (Y7.out.below hb)
  have X8 := Lib.hid (X7.out.below hb)
  clear hb B7 M7 V7 A7 Y7 X7
  go_wp2_with fail
  refine (same_row _ _ R w8 A8.out X8.out).mono ?_
  rintro e w9 ⟨rfl, hb⟩
  have B9 : Hid (Below w.heap.size w w9) := Lib.hid (B8.out.trans (hb.mono B8.out.size))
  have M9 := Lib.hid (M8.out.below hb)
  have V9 := Lib.hid (V8.out.below hb)
  have A9 := Lib.hid (A8.out.below hb)
  have Y9 := Lib.hid (Y8.out.below hb)
  have X9 := Lib.hid (X8.out.below hb)
  clear hb B8 M8 V8 A8 Y8 X8
  clear Y9 X9
  go_wp2_with fail
  refine (behind_n _ l m w9 n HN.out V9.out M9.out HZ.out).mono ?_
  rintro e w10 ⟨g10, cap10, rfl, hc10, hd10, hr, hb⟩
  have Z10 := Lib.hid hr
  clear hr
  have B10 : Hid (Below w.heap.size w w10) := Lib.hid (B9.out.trans (hb.mono B9.out.size))
  have M10 := Lib.hid (M9.out.below hb)
  have V10 := Lib.hid (V9.out.below hb)
  have A10 := Lib.hid (A9.out.below hb)
  clear hb B9 M9 V9 A9
  have VA : Hid (∀ W, Row kAm W (.slice (some ⟨g10, 0, none⟩) n cap10) l → Calls Tryd.prog 24 #[.slice (some ⟨g10, 0, none⟩) n cap10] W fun e w' => e = .returned (.int .i64 C) ∧ Below W.heap.size W w') := Lib.hid fun W h => by rw [← hC]; exact valid_any _ l W h
  clear hC
  go_wp2_with fail
  refine (VA.out w10 Z10.out).mono ?_
  rintro e w11 ⟨rfl, hb⟩
  have B11 : Hid (Below w.heap.size w w11) := Lib.hid (B10.out.trans (hb.mono B10.out.size))
  have M11 := Lib.hid (M10.out.below hb)
  have V11 := Lib.hid (V10.out.below hb)
  have A11 := Lib.hid (A10.out.below hb)
  clear hb B10 M10 V10 A10
  clear Z10 VA
  go_wp2_with fail
  go_ret
  exact ⟨rfl, B11.out⟩
set_option maxHeartbeats 8000000 in
set_option maxRecDepth 100000 in
theorem orders_7 (v : Value) (l R : List Am) (x : Int) (m : Amt) (n k : Nat) (C : Int) (w : World) (G : Glob w) (hm : Mark w m) (hv : Row kAm w v l) (hz : (n + 1) * 24 ≤ 140737488355328) (hf : ∀ x ∈ l, x.v ≤ 9223372036854775807) (hn : n = l.length) (hk : k = R.length) (hC : amsC l = C) (hC0 : C ≠ 0) (hR : R = []) (hE : nrE l = 7) (hL : nrL l = R) :
    Calls Tryd.prog 6 #[v, .int .i64 x] w fun e w' => e = .returned (.bool true) ∧ Below w.heap.size w w' := by
  have c0 : (C == 0) = false := by rw [beq_eq_false_iff_ne]; exact hC0
  obtain rfl : k = 0 := by rw [hk, hR]; rfl
  clear hC0 hR
  have K := Lib.hid (known_ok w G)
  have V0 := Lib.hid hv
  have M0 := Lib.hid hm
  have HZ := Lib.hid hz
  have HF := Lib.hid hf
  have HE := Lib.hid hE
  have HL := Lib.hid hL
  have HK := Lib.hid hk
  have HN := Lib.hid hn
  obtain ⟨va, vc, rfl, hlc, hcm⟩ := hv.len
  unfold maxLen at hcm
  rw [← hn] at hlc V0 ⊢
  have n1 : (n : Int) ≤ 5864062014806 := by omega
  clear G hv hm hz hf hE hL hk hn
  go_enter Tryd.func6, Tryd.ntmps6
  go_wp2_with fail
  refine K.out.mono ?_
  rintro e w1 ⟨rfl, hb⟩
  have B1 : Hid (Below w.heap.size w w1) := Lib.hid hb
  have M1 := Lib.hid (M0.out.below hb)
  have V1 := Lib.hid (V0.out.below hb)
  clear hb M0 V0
  clear K
  go_wp2_with fail
  refine (behind_n _ l m w1 n HN.out V1.out M1.out HZ.out).mono ?_
  rintro e w2 ⟨g2, cap2, rfl, hc2, hd2, hr, hb⟩
  have Z2 := Lib.hid hr
  clear hr
  have B2 : Hid (Below w.heap.size w w2) := Lib.hid (B1.out.trans (hb.mono B1.out.size))
  have M2 := Lib.hid (M1.out.below hb)
  have V2 := Lib.hid (V1.out.below hb)
  clear hb B1 M1 V1
  go_wp2_with fail
  refine (normal_n _ l R 7 _ w2 Z2.out (fun ad n c e => by injection e with e; injection e with e; exact ⟨_, _, e.symm⟩) (by have := HZ.out; rw [← HN.out]; omega) HF.out HE.out HL.out HK.out).mono ?_
  rintro e w3 ⟨aA, cA, rfl, hcA, hdA, hr, hb⟩
  have A3 := Lib.hid hr
  clear hr
  have B3 : Hid (Below w.heap.size w w3) := Lib.hid (B2.out.trans (hb.mono B2.out.size))
  have M3 := Lib.hid (M2.out.below hb)
  have V3 := Lib.hid (V2.out.below hb)
  clear hb B2 M2 V2
  clear Z2
  go_wp2_with fail
  refine (turned_any _ l x w3 V3.out (by rw [← HN.out]; exact HZ.out)).mono ?_
  rintro e w4 ⟨t, ta, tn, tc, rfl, ht, hr, hb⟩
  have TP := Lib.hid ht
  have T4 := Lib.hid hr
  clear hr ht
  have B4 : Hid (Below w.heap.size w w4) := Lib.hid (B3.out.trans (hb.mono B3.out.size))
  have M4 := Lib.hid (M3.out.below hb)
  have V4 := Lib.hid (V3.out.below hb)
  have A4 := Lib.hid (A3.out.below hb)
  clear hb B3 M3 V3 A3
  go_wp2_with fail
  refine (normal_n _ t R 7 _ w4 (T4.out.row okAm) (own_pl T4.out) (by rw [TP.out.length_eq, ← HN.out]; have := HZ.out; omega) (fun y hy => HF.out y (TP.out.mem_iff.1 hy)) ((nr_perm TP.out).1.trans HE.out) ((nr_perm TP.out).2.trans HL.out) HK.out).mono ?_
  rintro e w5 ⟨aB, cB, rfl, hcB, hdB, hr, hb⟩
  have Y5 := Lib.hid hr
  clear hr
  have B5 : Hid (Below w.heap.size w w5) := Lib.hid (B4.out.trans (hb.mono B4.out.size))
  have M5 := Lib.hid (M4.out.below hb)
  have V5 := Lib.hid (V4.out.below hb)
  have A5 := Lib.hid (A4.out.below hb)
  clear hb B4 M4 V4 A4
  clear T4 TP
  go_wp2_with fail
  refine (back_any _ l w5 V5.out (by rw [← HN.out]; have := HZ.out; omega)).mono ?_
  rintro e w6 ⟨ba, bn, bc, rfl, hr, hb⟩
  have T6 := Lib.hid hr
  clear hr
  have B6 : Hid (Below w.heap.size w w6) := Lib.hid (B5.out.trans (hb.mono B5.out.size))
  have M6 := Lib.hid (M5.out.below hb)
  have V6 := Lib.hid (V5.out.below hb)
  have A6 := Lib.hid (A5.out.below hb)
  have Y6 := Lib.hid (Y5.out.below hb)
  clear hb B5 M5 V5 A5 Y5
  go_wp2_with fail
  refine (normal_n _ l.reverse R 7 _ w6 (T6.out.row okAm) (own_pl T6.out) (by rw [List.length_reverse, ← HN.out]; have := HZ.out; omega) (fun y hy => HF.out y (List.mem_reverse.1 hy)) ((nr_perm (List.reverse_perm l)).1.trans HE.out) ((nr_perm (List.reverse_perm l)).2.trans HL.out) HK.out).mono ?_
  rintro e w7 ⟨aC, cC, rfl, hcC, hdC, hr, hb⟩
  have X7 := Lib.hid hr
  clear hr
  have B7 : Hid (Below w.heap.size w w7) := Lib.hid (B6.out.trans (hb.mono B6.out.size))
  have M7 := Lib.hid (M6.out.below hb)
  have V7 := Lib.hid (V6.out.below hb)
  have A7 := Lib.hid (A6.out.below hb)
  have Y7 := Lib.hid (Y6.out.below hb)
  clear hb B6 M6 V6 A6 Y6
  clear T6
  go_wp2_with fail
  refine (same_row _ _ R w7 A7.out Y7.out).mono ?_
  rintro e w8 ⟨rfl, hb⟩
  have B8 : Hid (Below w.heap.size w w8) := Lib.hid (B7.out.trans (hb.mono B7.out.size))
  have M8 := Lib.hid (M7.out.below hb)
  have V8 := Lib.hid (V7.out.below hb)
  have A8 := Lib.hid (A7.out.below hb)
  have Y8 := Lib.hid (Y7.out.below hb)
  have X8 := Lib.hid (X7.out.below hb)
  clear hb B7 M7 V7 A7 Y7 X7
  go_wp2_with fail
  refine (same_row _ _ R w8 A8.out X8.out).mono ?_
  rintro e w9 ⟨rfl, hb⟩
  have B9 : Hid (Below w.heap.size w w9) := Lib.hid (B8.out.trans (hb.mono B8.out.size))
  have M9 := Lib.hid (M8.out.below hb)
  have V9 := Lib.hid (V8.out.below hb)
  have A9 := Lib.hid (A8.out.below hb)
  have Y9 := Lib.hid (Y8.out.below hb)
  have X9 := Lib.hid (X8.out.below hb)
  clear hb B8 M8 V8 A8 Y8 X8
  clear Y9 X9
  go_wp2_with fail
  refine (behind_n _ l m w9 n HN.out V9.out M9.out HZ.out).mono ?_
  rintro e w10 ⟨g10, cap10, rfl, hc10, hd10, hr, hb⟩
  have Z10 := Lib.hid hr
  clear hr
  have B10 : Hid (Below w.heap.size w w10) := Lib.hid (B9.out.trans (hb.mono B9.out.size))
  have M10 := Lib.hid (M9.out.below hb)
  have V10 := Lib.hid (V9.out.below hb)
  have A10 := Lib.hid (A9.out.below hb)
  clear hb B9 M9 V9 A9
  have VA : Hid (∀ W, Row kAm W (.slice (some ⟨g10, 0, none⟩) n cap10) l → Calls Tryd.prog 24 #[.slice (some ⟨g10, 0, none⟩) n cap10] W fun e w' => e = .returned (.int .i64 C) ∧ Below W.heap.size W w') := Lib.hid fun W h => by rw [← hC]; exact valid_any _ l W h
  clear hC
  go_wp2_with fail
  refine (VA.out w10 Z10.out).mono ?_
  rintro e w11 ⟨rfl, hb⟩
  have B11 : Hid (Below w.heap.size w w11) := Lib.hid (B10.out.trans (hb.mono B10.out.size))
  have M11 := Lib.hid (M10.out.below hb)
  have V11 := Lib.hid (V10.out.below hb)
  have A11 := Lib.hid (A10.out.below hb)
  clear hb B10 M10 V10 A10
  clear Z10 VA
  go_wp2_with fail
  go_ret
  exact ⟨rfl, B11.out⟩
set_option maxHeartbeats 8000000 in
set_option maxRecDepth 100000 in
theorem orders_23 (v : Value) (l R : List Am) (x : Int) (m : Amt) (n k : Nat) (C : Int) (w : World) (G : Glob w) (hm : Mark w m) (hv : Row kAm w v l) (hz : (n + 1) * 24 ≤ 140737488355328) (hf : ∀ x ∈ l, x.v ≤ 9223372036854775807) (hn : n = l.length) (hk : k = R.length) (hC : amsC l = C) (hC0 : C ≠ 0) (hR : R = []) (hE : nrE l = 23) (hL : nrL l = R) :
    Calls Tryd.prog 6 #[v, .int .i64 x] w fun e w' => e = .returned (.bool true) ∧ Below w.heap.size w w' := by
  have c0 : (C == 0) = false := by rw [beq_eq_false_iff_ne]; exact hC0
  obtain rfl : k = 0 := by rw [hk, hR]; rfl
  clear hC0 hR
  have K := Lib.hid (known_ok w G)
  have V0 := Lib.hid hv
  have M0 := Lib.hid hm
  have HZ := Lib.hid hz
  have HF := Lib.hid hf
  have HE := Lib.hid hE
  have HL := Lib.hid hL
  have HK := Lib.hid hk
  have HN := Lib.hid hn
  obtain ⟨va, vc, rfl, hlc, hcm⟩ := hv.len
  unfold maxLen at hcm
  rw [← hn] at hlc V0 ⊢
  have n1 : (n : Int) ≤ 5864062014806 := by omega
  clear G hv hm hz hf hE hL hk hn
  go_enter Tryd.func6, Tryd.ntmps6
  go_wp2_with fail
  refine K.out.mono ?_
  rintro e w1 ⟨rfl, hb⟩
  have B1 : Hid (Below w.heap.size w w1) := Lib.hid hb
  have M1 := Lib.hid (M0.out.below hb)
  have V1 := Lib.hid (V0.out.below hb)
  clear hb M0 V0
  clear K
  go_wp2_with fail
  refine (behind_n _ l m w1 n HN.out V1.out M1.out HZ.out).mono ?_
  rintro e w2 ⟨g2, cap2, rfl, hc2, hd2, hr, hb⟩
  have Z2 := Lib.hid hr
  clear hr
  have B2 : Hid (Below w.heap.size w w2) := Lib.hid (B1.out.trans (hb.mono B1.out.size))
  have M2 := Lib.hid (M1.out.below hb)
  have V2 := Lib.hid (V1.out.below hb)
  clear hb B1 M1 V1
  go_wp2_with fail
  refine (normal_n _ l R 23 _ w2 Z2.out (fun ad n c e => by injection e with e; injection e with e; exact ⟨_, _, e.symm⟩) (by have := HZ.out; rw [← HN.out]; omega) HF.out HE.out HL.out HK.out).mono ?_
  rintro e w3 ⟨aA, cA, rfl, hcA, hdA, hr, hb⟩
  have A3 := Lib.hid hr
  clear hr
  have B3 : Hid (Below w.heap.size w w3) := Lib.hid (B2.out.trans (hb.mono B2.out.size))
  have M3 := Lib.hid (M2.out.below hb)
  have V3 := Lib.hid (V2.out.below hb)
  clear hb B2 M2 V2
  clear Z2
  go_wp2_with fail
  refine (turned_any _ l x w3 V3.out (by rw [← HN.out]; exact HZ.out)).mono ?_
  rintro e w4 ⟨t, ta, tn, tc, rfl, ht, hr, hb⟩
  have TP := Lib.hid ht
  have T4 := Lib.hid hr
  clear hr ht
  have B4 : Hid (Below w.heap.size w w4) := Lib.hid (B3.out.trans (hb.mono B3.out.size))
  have M4 := Lib.hid (M3.out.below hb)
  have V4 := Lib.hid (V3.out.below hb)
  have A4 := Lib.hid (A3.out.below hb)
  clear hb B3 M3 V3 A3
  go_wp2_with fail
  refine (normal_n _ t R 23 _ w4 (T4.out.row okAm) (own_pl T4.out) (by rw [TP.out.length_eq, ← HN.out]; have := HZ.out; omega) (fun y hy => HF.out y (TP.out.mem_iff.1 hy)) ((nr_perm TP.out).1.trans HE.out) ((nr_perm TP.out).2.trans HL.out) HK.out).mono ?_
  rintro e w5 ⟨aB, cB, rfl, hcB, hdB, hr, hb⟩
  have Y5 := Lib.hid hr
  clear hr
  have B5 : Hid (Below w.heap.size w w5) := Lib.hid (B4.out.trans (hb.mono B4.out.size))
  have M5 := Lib.hid (M4.out.below hb)
  have V5 := Lib.hid (V4.out.below hb)
  have A5 := Lib.hid (A4.out.below hb)
  clear hb B4 M4 V4 A4
  clear T4 TP
  go_wp2_with fail
  refine (back_any _ l w5 V5.out (by rw [← HN.out]; have := HZ.out; omega)).mono ?_
  rintro e w6 ⟨ba, bn, bc, rfl, hr, hb⟩
  have T6 := Lib.hid hr
  clear hr
  have B6 : Hid (Below w.heap.size w w6) := Lib.hid (B5.out.trans (hb.mono B5.out.size))
  have M6 := Lib.hid (M5.out.below hb)
  have V6 := Lib.hid (V5.out.below hb)
  have A6 := Lib.hid (A5.out.below hb)
  have Y6 := Lib.hid (Y5.out.below hb)
  clear hb B5 M5 V5 A5 Y5
  go_wp2_with fail
  refine (normal_n _ l.reverse R 23 _ w6 (T6.out.row okAm) (own_pl T6.out) (by rw [List.length_reverse, ← HN.out]; have := HZ.out; omega) (fun y hy => HF.out y (List.mem_reverse.1 hy)) ((nr_perm (List.reverse_perm l)).1.trans HE.out) ((nr_perm (List.reverse_perm l)).2.trans HL.out) HK.out).mono ?_
  rintro e w7 ⟨aC, cC, rfl, hcC, hdC, hr, hb⟩
  have X7 := Lib.hid hr
  clear hr
  have B7 : Hid (Below w.heap.size w w7) := Lib.hid (B6.out.trans (hb.mono B6.out.size))
  have M7 := Lib.hid (M6.out.below hb)
  have V7 := Lib.hid (V6.out.below hb)
  have A7 := Lib.hid (A6.out.below hb)
  have Y7 := Lib.hid (Y6.out.below hb)
  clear hb B6 M6 V6 A6 Y6
  clear T6
  go_wp2_with fail
  refine (same_row _ _ R w7 A7.out Y7.out).mono ?_
  rintro e w8 ⟨rfl, hb⟩
  have B8 : Hid (Below w.heap.size w w8) := Lib.hid (B7.out.trans (hb.mono B7.out.size))
  have M8 := Lib.hid (M7.out.below hb)
  have V8 := Lib.hid (V7.out.below hb)
  have A8 := Lib.hid (A7.out.below hb)
  have Y8 := Lib.hid (Y7.out.below hb)
  have X8 := Lib.hid (X7.out.below hb)
  clear hb B7 M7 V7 A7 Y7 X7
  go_wp2_with fail
  refine (same_row _ _ R w8 A8.out X8.out).mono ?_
  rintro e w9 ⟨rfl, hb⟩
  have B9 : Hid (Below w.heap.size w w9) := Lib.hid (B8.out.trans (hb.mono B8.out.size))
  have M9 := Lib.hid (M8.out.below hb)
  have V9 := Lib.hid (V8.out.below hb)
  have A9 := Lib.hid (A8.out.below hb)
  have Y9 := Lib.hid (Y8.out.below hb)
  have X9 := Lib.hid (X8.out.below hb)
  clear hb B8 M8 V8 A8 Y8 X8
  clear Y9 X9
  go_wp2_with fail
  refine (behind_n _ l m w9 n HN.out V9.out M9.out HZ.out).mono ?_
  rintro e w10 ⟨g10, cap10, rfl, hc10, hd10, hr, hb⟩
  have Z10 := Lib.hid hr
  clear hr
  have B10 : Hid (Below w.heap.size w w10) := Lib.hid (B9.out.trans (hb.mono B9.out.size))
  have M10 := Lib.hid (M9.out.below hb)
  have V10 := Lib.hid (V9.out.below hb)
  have A10 := Lib.hid (A9.out.below hb)
  clear hb B9 M9 V9 A9
  have VA : Hid (∀ W, Row kAm W (.slice (some ⟨g10, 0, none⟩) n cap10) l → Calls Tryd.prog 24 #[.slice (some ⟨g10, 0, none⟩) n cap10] W fun e w' => e = .returned (.int .i64 C) ∧ Below W.heap.size W w') := Lib.hid fun W h => by rw [← hC]; exact valid_any _ l W h
  clear hC
  go_wp2_with fail
  refine (VA.out w10 Z10.out).mono ?_
  rintro e w11 ⟨rfl, hb⟩
  have B11 : Hid (Below w.heap.size w w11) := Lib.hid (B10.out.trans (hb.mono B10.out.size))
  have M11 := Lib.hid (M10.out.below hb)
  have V11 := Lib.hid (V10.out.below hb)
  have A11 := Lib.hid (A10.out.below hb)
  clear hb B10 M10 V10 A10
  clear Z10 VA
  go_wp2_with fail
  go_ret
  exact ⟨rfl, B11.out⟩
set_option maxHeartbeats 8000000 in
set_option maxRecDepth 100000 in
theorem orders_A (v : Value) (l R : List Am) (x : Int) (m : Amt) (n k : Nat) (C : Int) (w : World) (G : Glob w) (hm : Mark w m) (hv : Row kAm w v l) (hz : (n + 1) * 24 ≤ 140737488355328) (hf : ∀ x ∈ l, x.v ≤ 9223372036854775807) (hn : n = l.length) (hk : k = R.length) (hC : amsC l = C) (hC0 : C = 0) (hR : R = l) (hE : nrE l = 0) (hL : nrL l = R) :
    Calls Tryd.prog 6 #[v, .int .i64 x] w fun e w' => e = .returned (.bool true) ∧ Below w.heap.size w w' := by
  have HZK : Hid ((k + 1) * 24 ≤ 140737488355328) := Lib.hid (by have q := (ams_parts (nr_told hE).1).1; rw [hL, ← hk] at q; omega)
  have HFR : Hid (∀ x ∈ R, x.v ≤ 9223372036854775807) := Lib.hid (by rw [← hL]; exact (nr_told hE).2)
  have NE : Hid (nrE R = 0) := Lib.hid (by rw [← hL]; exact (nr_valid (nr_told hE).1 (nr_told hE).2).1)
  have NL : Hid (nrL R = R) := Lib.hid (by rw [← hL]; exact (nr_valid (nr_told hE).1 (nr_told hE).2).2)
  have VR : Hid (∀ v W, Row kAm W v R → Calls Tryd.prog 24 #[v] W fun e w' => e = .returned (.int .i64 0) ∧ Below W.heap.size W w') := Lib.hid fun v W h => by have q := valid_any v R W h; rw [(amsC_zero R).2 (by rw [← hL]; exact (nr_told hE).1)] at q; exact q
  have k1 : (k : Int) ≤ 16 := by have q := (ams_parts (nr_told hE).1).1; rw [hL, ← hk] at q; omega
  subst hC0
  have HRL := Lib.hid hR
  clear hR
  have K := Lib.hid (known_ok w G)
  have V0 := Lib.hid hv
  have M0 := Lib.hid hm
  have HZ := Lib.hid hz
  have HF := Lib.hid hf
  have HE := Lib.hid hE
  have HL := Lib.hid hL
  have HK := Lib.hid hk
  have HN := Lib.hid hn
  obtain ⟨va, vc, rfl, hlc, hcm⟩ := hv.len
  unfold maxLen at hcm
  rw [← hn] at hlc V0 ⊢
  have n1 : (n : Int) ≤ 5864062014806 := by omega
  clear G hv hm hz hf hE hL hk hn
  go_enter Tryd.func6, Tryd.ntmps6
  go_wp2_with fail
  refine K.out.mono ?_
  rintro e w1 ⟨rfl, hb⟩
  have B1 : Hid (Below w.heap.size w w1) := Lib.hid hb
  have M1 := Lib.hid (M0.out.below hb)
  have V1 := Lib.hid (V0.out.below hb)
  clear hb M0 V0
  clear K
  go_wp2_with fail
  refine (behind_n _ l m w1 n HN.out V1.out M1.out HZ.out).mono ?_
  rintro e w2 ⟨g2, cap2, rfl, hc2, hd2, hr, hb⟩
  have Z2 := Lib.hid hr
  clear hr
  have B2 : Hid (Below w.heap.size w w2) := Lib.hid (B1.out.trans (hb.mono B1.out.size))
  have M2 := Lib.hid (M1.out.below hb)
  have V2 := Lib.hid (V1.out.below hb)
  clear hb B1 M1 V1
  go_wp2_with fail
  refine (normal_n _ l R 0 _ w2 Z2.out (fun ad n c e => by injection e with e; injection e with e; exact ⟨_, _, e.symm⟩) (by have := HZ.out; rw [← HN.out]; omega) HF.out HE.out HL.out HK.out).mono ?_
  rintro e w3 ⟨aA, cA, rfl, hcA, hdA, hr, hb⟩
  have A3 := Lib.hid hr
  clear hr
  have B3 : Hid (Below w.heap.size w w3) := Lib.hid (B2.out.trans (hb.mono B2.out.size))
  have M3 := Lib.hid (M2.out.below hb)
  have V3 := Lib.hid (V2.out.below hb)
  clear hb B2 M2 V2
  clear Z2
  go_wp2_with fail
  refine (turned_any _ l x w3 V3.out (by rw [← HN.out]; exact HZ.out)).mono ?_
  rintro e w4 ⟨t, ta, tn, tc, rfl, ht, hr, hb⟩
  have TP := Lib.hid ht
  have T4 := Lib.hid hr
  clear hr ht
  have B4 : Hid (Below w.heap.size w w4) := Lib.hid (B3.out.trans (hb.mono B3.out.size))
  have M4 := Lib.hid (M3.out.below hb)
  have V4 := Lib.hid (V3.out.below hb)
  have A4 := Lib.hid (A3.out.below hb)
  clear hb B3 M3 V3 A3
  go_wp2_with fail
  refine (normal_n _ t R 0 _ w4 (T4.out.row okAm) (own_pl T4.out) (by rw [TP.out.length_eq, ← HN.out]; have := HZ.out; omega) (fun y hy => HF.out y (TP.out.mem_iff.1 hy)) ((nr_perm TP.out).1.trans HE.out) ((nr_perm TP.out).2.trans HL.out) HK.out).mono ?_
  rintro e w5 ⟨aB, cB, rfl, hcB, hdB, hr, hb⟩
  have Y5 := Lib.hid hr
  clear hr
  have B5 : Hid (Below w.heap.size w w5) := Lib.hid (B4.out.trans (hb.mono B4.out.size))
  have M5 := Lib.hid (M4.out.below hb)
  have V5 := Lib.hid (V4.out.below hb)
  have A5 := Lib.hid (A4.out.below hb)
  clear hb B4 M4 V4 A4
  clear T4 TP
  go_wp2_with fail
  refine (back_any _ l w5 V5.out (by rw [← HN.out]; have := HZ.out; omega)).mono ?_
  rintro e w6 ⟨ba, bn, bc, rfl, hr, hb⟩
  have T6 := Lib.hid hr
  clear hr
  have B6 : Hid (Below w.heap.size w w6) := Lib.hid (B5.out.trans (hb.mono B5.out.size))
  have M6 := Lib.hid (M5.out.below hb)
  have V6 := Lib.hid (V5.out.below hb)
  have A6 := Lib.hid (A5.out.below hb)
  have Y6 := Lib.hid (Y5.out.below hb)
  clear hb B5 M5 V5 A5 Y5
  go_wp2_with fail
  refine (normal_n _ l.reverse R 0 _ w6 (T6.out.row okAm) (own_pl T6.out) (by rw [List.length_reverse, ← HN.out]; have := HZ.out; omega) (fun y hy => HF.out y (List.mem_reverse.1 hy)) ((nr_perm (List.reverse_perm l)).1.trans HE.out) ((nr_perm (List.reverse_perm l)).2.trans HL.out) HK.out).mono ?_
  rintro e w7 ⟨aC, cC, rfl, hcC, hdC, hr, hb⟩
  have X7 := Lib.hid hr
  clear hr
  have B7 : Hid (Below w.heap.size w w7) := Lib.hid (B6.out.trans (hb.mono B6.out.size))
  have M7 := Lib.hid (M6.out.below hb)
  have V7 := Lib.hid (V6.out.below hb)
  have A7 := Lib.hid (A6.out.below hb)
  have Y7 := Lib.hid (Y6.out.below hb)
  clear hb B6 M6 V6 A6 Y6
  clear T6
  go_wp2_with fail
  refine (same_row _ _ R w7 A7.out Y7.out).mono ?_
  rintro e w8 ⟨rfl, hb⟩
  have B8 : Hid (Below w.heap.size w w8) := Lib.hid (B7.out.trans (hb.mono B7.out.size))
  have M8 := Lib.hid (M7.out.below hb)
  have V8 := Lib.hid (V7.out.below hb)
  have A8 := Lib.hid (A7.out.below hb)
  have Y8 := Lib.hid (Y7.out.below hb)
  have X8 := Lib.hid (X7.out.below hb)
  clear hb B7 M7 V7 A7 Y7 X7
  go_wp2_with fail
  refine (same_row _ _ R w8 A8.out X8.out).mono ?_
  rintro e w9 ⟨rfl, hb⟩
  have B9 : Hid (Below w.heap.size w w9) := Lib.hid (B8.out.trans (hb.mono B8.out.size))
  have M9 := Lib.hid (M8.out.below hb)
  have V9 := Lib.hid (V8.out.below hb)
  have A9 := Lib.hid (A8.out.below hb)
  have Y9 := Lib.hid (Y8.out.below hb)
  have X9 := Lib.hid (X8.out.below hb)
  clear hb B8 M8 V8 A8 Y8 X8
  clear Y9 X9
  go_wp2_with fail
  refine (behind_n _ l m w9 n HN.out V9.out M9.out HZ.out).mono ?_
  rintro e w10 ⟨g10, cap10, rfl, hc10, hd10, hr, hb⟩
  have Z10 := Lib.hid hr
  clear hr
  have B10 : Hid (Below w.heap.size w w10) := Lib.hid (B9.out.trans (hb.mono B9.out.size))
  have M10 := Lib.hid (M9.out.below hb)
  have V10 := Lib.hid (V9.out.below hb)
  have A10 := Lib.hid (A9.out.below hb)
  clear hb B9 M9 V9 A9
  have VA : Hid (∀ W, Row kAm W (.slice (some ⟨g10, 0, none⟩) n cap10) l → Calls Tryd.prog 24 #[.slice (some ⟨g10, 0, none⟩) n cap10] W fun e w' => e = .returned (.int .i64 0) ∧ Below W.heap.size W w') := Lib.hid fun W h => by rw [← hC]; exact valid_any _ l W h
  clear hC
  go_wp2_with fail
  refine (VA.out w10 Z10.out).mono ?_
  rintro e w11 ⟨rfl, hb⟩
  have B11 : Hid (Below w.heap.size w w11) := Lib.hid (B10.out.trans (hb.mono B10.out.size))
  have M11 := Lib.hid (M10.out.below hb)
  have V11 := Lib.hid (V10.out.below hb)
  have A11 := Lib.hid (A10.out.below hb)
  clear hb B10 M10 V10 A10
  clear Z10 VA
  go_wp2_with fail
  refine (same_row _ _ l w11 (by have q := A11.out; rw [HRL.out] at q; exact q) V11.out).mono ?_
  rintro e w12 ⟨rfl, hb⟩
  have B12 : Hid (Below w.heap.size w w12) := Lib.hid (B11.out.trans (hb.mono B11.out.size))
  have M12 := Lib.hid (M11.out.below hb)
  have V12 := Lib.hid (V11.out.below hb)
  have A12 := Lib.hid (A11.out.below hb)
  clear hb B11 M11 V11 A11
  go_wp2_with fail
  refine (behind_n _ R m w12 k HK.out A12.out M12.out HZK.out).mono ?_
  rintro e w13 ⟨g13, cap13, rfl, hc13, hd13, hr, hb⟩
  have Z13 := Lib.hid hr
  clear hr
  have B13 : Hid (Below w.heap.size w w13) := Lib.hid (B12.out.trans (hb.mono B12.out.size))
  have M13 := Lib.hid (M12.out.below hb)
  have V13 := Lib.hid (V12.out.below hb)
  have A13 := Lib.hid (A12.out.below hb)
  clear hb B12 M12 V12 A12
  go_wp2_with fail
  refine (normal_n _ R R 0 _ w13 Z13.out (fun ad n c e => by injection e with e; injection e with e; exact ⟨_, _, e.symm⟩) (by have := HZK.out; rw [← HK.out]; omega) HFR.out NE.out NL.out HK.out).mono ?_
  rintro e w14 ⟨aD, cD, rfl, hcD, hdD, hr, hb⟩
  have D14 := Lib.hid hr
  clear hr
  have B14 : Hid (Below w.heap.size w w14) := Lib.hid (B13.out.trans (hb.mono B13.out.size))
  have M14 := Lib.hid (M13.out.below hb)
  have V14 := Lib.hid (V13.out.below hb)
  have A14 := Lib.hid (A13.out.below hb)
  clear hb B13 M13 V13 A13
  go_wp2_with fail
  refine (behind_n _ R m w14 k HK.out A14.out M14.out HZK.out).mono ?_
  rintro e w15 ⟨g15, cap15, rfl, hc15, hd15, hr, hb⟩
  have Z15 := Lib.hid hr
  clear hr
  have B15 : Hid (Below w.heap.size w w15) := Lib.hid (B14.out.trans (hb.mono B14.out.size))
  have M15 := Lib.hid (M14.out.below hb)
  have V15 := Lib.hid (V14.out.below hb)
  have A15 := Lib.hid (A14.out.below hb)
  have D15 := Lib.hid (D14.out.below hb)
  clear hb B14 M14 V14 A14 D14
  go_wp2_with fail
  refine (VR.out _ w15 Z15.out).mono ?_
  rintro e w16 ⟨rfl, hb⟩
  have B16 : Hid (Below w.heap.size w w16) := Lib.hid (B15.out.trans (hb.mono B15.out.size))
  have M16 := Lib.hid (M15.out.below hb)
  have V16 := Lib.hid (V15.out.below hb)
  have A16 := Lib.hid (A15.out.below hb)
  have D16 := Lib.hid (D15.out.below hb)
  clear hb B15 M15 V15 A15 D15
  go_wp2_with fail
  refine (same_row _ _ R w16 A16.out D16.out).mono ?_
  rintro e w17 ⟨rfl, hb⟩
  have B17 : Hid (Below w.heap.size w w17) := Lib.hid (B16.out.trans (hb.mono B16.out.size))
  have M17 := Lib.hid (M16.out.below hb)
  have V17 := Lib.hid (V16.out.below hb)
  have A17 := Lib.hid (A16.out.below hb)
  have D17 := Lib.hid (D16.out.below hb)
  clear hb B16 M16 V16 A16 D16
  clear D17 M17
  go_wp2_with fail
  go_loopg [13] k (fun g si wr => ∃ (i : Nat), i ≤ k ∧ g = k - i ∧ si = .int .i64 i ∧ Below w17.heap.size w17 wr)
  case atStart => exact ⟨0, Nat.zero_le _, rfl, rfl, Below.refl _ _⟩
  case round =>
    obtain ⟨i, hi, hg, rfl, hb⟩ := hrel
    have Q : Hid (gk = k - i ∧ Below w17.heap.size w17 wr) := Lib.hid ⟨hg, hb⟩
    clear hg hb
    by_cases hlt : i < k
    · obtain ⟨b, off, rfl, pc⟩ := (A17.out.below Q.out.2).at i (by rw [← HK.out]; exact hlt)
      obtain ⟨⟨yn, yv⟩, hy⟩ : ∃ y, y = R.getD i kAm.z := ⟨_, rfl⟩
      rw [← hy] at pc
      have p0 : wr.cell? ⟨b, off + i * 2, none⟩ = some (.string yn) := pc 0 _ rfl
      have p1 : wr.cell? ⟨b, off + i * 2 + 1, none⟩ = some (.int .i64 yv) := pc 1 _ rfl
      have RS : Hid (parS l yn.data.toList n = yv ∧ parT l yn.data.toList n = true) := Lib.hid (by
        have q := row_sum HE.out (i := i) (by rw [HL.out, ← HK.out]; exact hlt) (y := ⟨yn, yv⟩) (by rw [HL.out]; exact hy)
        unfold parS parT
        rw [HN.out, List.take_length]
        refine ⟨q.1, ?_⟩
        rw [List.any_eq_true]
        obtain ⟨z, hz, e⟩ := q.2.2
        exact ⟨z, hz, decide_eq_true e⟩)
      clear hy pc
      have hlt' : (i : Int) < (k : Int) := by omega
      go_wp2_with fail
      go_loopg [14, 15, 16] n (fun g ss st sj wq => ∃ (j : Nat) (s : Int) (t : Bool), j ≤ n ∧ g = n - j ∧ sj = .int .i64 j ∧ ss = .int .i64 s ∧ st = .bool t ∧ s = parS l yn.data.toList j ∧ t = parT l yn.data.toList j ∧ ∃ q, wq = wr.drewN q)
      case atStart => exact ⟨0, 0, false, Nat.zero_le _, rfl, rfl, rfl, rfl, rfl, rfl, 0, rfl⟩
      case round =>
        obtain ⟨j, s, t, hj, hg, rfl, rfl, rfl, hs, ht, q, rfl⟩ := hrel
        have P : Hid (gk = n - j ∧ s = parS l yn.data.toList j ∧ t = parT l yn.data.toList j) := Lib.hid ⟨hg, hs, ht⟩
        clear hg hs ht
        by_cases hjl : j < n
        · obtain ⟨b', off', rfl, pd⟩ := (V17.out.below Q.out.2).at j (by rw [← HN.out]; exact hjl)
          obtain ⟨⟨xn, xv⟩, hx⟩ : ∃ x, x = l.getD j kAm.z := ⟨_, rfl⟩
          rw [← hx] at pd
          have q0 : wr.cell? ⟨b', off' + j * 2, none⟩ = some (.string xn) := pd 0 _ rfl
          have q1 : wr.cell? ⟨b', off' + j * 2 + 1, none⟩ = some (.int .i64 xv) := pd 1 _ rfl
          have X := Lib.hid hx
          have hjl' : (j : Int) < (n : Int) := by omega
          clear hx pd
          by_cases hxy : xn.data.toList = yn.data.toList
          · have ge : (xn.toList == yn.toList) = true := by rw [ByteArray.toList_eq, ByteArray.toList_eq, hxy]; exact beq_self_eq_true _
            have PY : Hid (parS l yn.data.toList (j + 1) = s + xv ∧ parT l yn.data.toList (j + 1) = true) := Lib.hid (by
              have q := par_yes (l := l) (n := yn.data.toList) (j := j) (by rw [← HN.out]; exact hjl) (by rw [← X.out]; exact hxy)
              rw [← X.out, ← P.out.2.1] at q
              exact q)
            have SW : Hid (wrap64 (s + xv) = s + xv) := Lib.hid (by rw [← PY.out.1]; exact wrap_sum (par_le HE.out _ _))
            clear hxy
            go_wp2_with fail
            go_quiet (fail)
            go_wp2_with fail
            go_roundg (n - (j + 1))
            case measure => have := P.out.1; omega
            case rel => exact ⟨j + 1, s + xv, true, by omega, rfl, by go_num, by rw [SW.out], rfl, PY.out.1.symm, PY.out.2.symm, _, rfl⟩
          · have ge : (xn.toList == yn.toList) = false := by rw [ByteArray.toList_eq, ByteArray.toList_eq]; exact beq_eq_false_iff_ne.2 hxy
            have PN : Hid (parS l yn.data.toList (j + 1) = s ∧ parT l yn.data.toList (j + 1) = t) := Lib.hid (by
              have q := par_no (l := l) (n := yn.data.toList) (j := j) (by rw [← HN.out]; exact hjl) (by rw [← X.out]; exact hxy)
              rw [← P.out.2.1, ← P.out.2.2] at q
              exact q)
            clear hxy
            go_wp2_with fail
            go_quiet (fail)
            go_wp2_with fail
            go_roundg (n - (j + 1))
            case measure => have := P.out.1; omega
            case rel => exact ⟨j + 1, s, t, by omega, rfl, by go_num, rfl, rfl, PN.out.1.symm, PN.out.2.symm, _, rfl⟩
        · obtain rfl : j = n := by omega
          obtain ⟨rfl, rfl⟩ : s = yv ∧ t = true := ⟨P.out.2.1.trans RS.out.1, P.out.2.2.trans RS.out.2⟩
          go_wp2_with fail
          go_roundg (k - (i + 1))
          case measure => have := Q.out.1; omega
          case rel => exact ⟨i + 1, by omega, rfl, by go_num, Q.out.2.trans ⟨rfl, rfl, rfl, Nat.le_refl _, fun _ _ => rfl⟩⟩
    · have OF : Hid (∀ W xn, (∃ y ∈ l, y.n = xn) → Row kAm W (.slice aA k cA) R → Calls Tryd.prog 25 #[.slice aA k cA, .string xn] W fun e w' => ∃ z : Int, e = .returned (.tuple #[.int .i64 z, .bool true]) ∧ Below W.heap.size W w') := Lib.hid fun W xn hx hr => by
        refine (of_any _ (toA R) xn W (amts_row hr)).mono ?_
        rintro e w' ⟨rfl, hb⟩
        refine ⟨(findA xn (toA R)).1, ?_, hb⟩
        obtain ⟨y, hy, rfl⟩ := hx
        rw [find_there y.n R (by rw [← HL.out]; exact row_names HE.out hy)]
      go_wp2_with fail
      go_loopg [17] n (fun g sj wq => ∃ (j : Nat), j ≤ n ∧ g = n - j ∧ sj = .int .i64 j ∧ Below w17.heap.size w17 wq)
      case atStart => exact ⟨0, Nat.zero_le _, rfl, rfl, Q.out.2⟩
      case round =>
        obtain ⟨j, hj, hg, rfl, hb⟩ := hrel
        have P : Hid (gk = n - j ∧ Below w17.heap.size w17 wr) := Lib.hid ⟨hg, hb⟩
        clear hg hb
        by_cases hjl : j < n
        · obtain ⟨b', off', rfl, pd⟩ := (V17.out.below P.out.2).at j (by rw [← HN.out]; exact hjl)
          obtain ⟨⟨xn, xv⟩, hx⟩ : ∃ x, x = l.getD j kAm.z := ⟨_, rfl⟩
          rw [← hx] at pd
          have q0 : wr.cell? ⟨b', off' + j * 2, none⟩ = some (.string xn) := pd 0 _ rfl
          have IN : Hid (∃ y ∈ l, y.n = xn) := Lib.hid ⟨⟨xn, xv⟩, by rw [hx]; exact getD_in (by rw [← HN.out]; exact hjl), rfl⟩
          have hjl' : (j : Int) < (n : Int) := by omega
          clear hx pd
          go_wp2_with fail
          refine (OF.out wr xn IN.out (A17.out.below P.out.2)).mono ?_
          rintro e wz ⟨z, rfl, hb⟩
          have PZ : Hid (Below w17.heap.size w17 wz) := Lib.hid (P.out.2.trans (hb.mono P.out.2.size))
          clear hb
          go_wp2_with fail
          go_roundg (n - (j + 1))
          case measure => have := P.out.1; omega
          case rel => exact ⟨j + 1, by omega, rfl, by go_num, PZ.out⟩
        · go_wp2_with fail
          go_ret
          exact ⟨rfl, B17.out.trans (P.out.2.mono B17.out.size)⟩
set_option maxHeartbeats 8000000 in
set_option maxRecDepth 100000 in
theorem orders_B (v : Value) (l R : List Am) (x : Int) (m : Amt) (n k : Nat) (C : Int) (w : World) (G : Glob w) (hm : Mark w m) (hv : Row kAm w v l) (hz : (n + 1) * 24 ≤ 140737488355328) (hf : ∀ x ∈ l, x.v ≤ 9223372036854775807) (hn : n = l.length) (hk : k = R.length) (hC : amsC l = C) (hC0 : C ≠ 0) (hE : nrE l = 0) (hL : nrL l = R) :
    Calls Tryd.prog 6 #[v, .int .i64 x] w fun e w' => e = .returned (.bool true) ∧ Below w.heap.size w w' := by
  have HZK : Hid ((k + 1) * 24 ≤ 140737488355328) := Lib.hid (by have q := (ams_parts (nr_told hE).1).1; rw [hL, ← hk] at q; omega)
  have HFR : Hid (∀ x ∈ R, x.v ≤ 9223372036854775807) := Lib.hid (by rw [← hL]; exact (nr_told hE).2)
  have NE : Hid (nrE R = 0) := Lib.hid (by rw [← hL]; exact (nr_valid (nr_told hE).1 (nr_told hE).2).1)
  have NL : Hid (nrL R = R) := Lib.hid (by rw [← hL]; exact (nr_valid (nr_told hE).1 (nr_told hE).2).2)
  have VR : Hid (∀ v W, Row kAm W v R → Calls Tryd.prog 24 #[v] W fun e w' => e = .returned (.int .i64 0) ∧ Below W.heap.size W w') := Lib.hid fun v W h => by have q := valid_any v R W h; rw [(amsC_zero R).2 (by rw [← hL]; exact (nr_told hE).1)] at q; exact q
  have k1 : (k : Int) ≤ 16 := by have q := (ams_parts (nr_told hE).1).1; rw [hL, ← hk] at q; omega
  have c0 : (C == 0) = false := by rw [beq_eq_false_iff_ne]; exact hC0
  clear hC0
  have K := Lib.hid (known_ok w G)
  have V0 := Lib.hid hv
  have M0 := Lib.hid hm
  have HZ := Lib.hid hz
  have HF := Lib.hid hf
  have HE := Lib.hid hE
  have HL := Lib.hid hL
  have HK := Lib.hid hk
  have HN := Lib.hid hn
  obtain ⟨va, vc, rfl, hlc, hcm⟩ := hv.len
  unfold maxLen at hcm
  rw [← hn] at hlc V0 ⊢
  have n1 : (n : Int) ≤ 5864062014806 := by omega
  clear G hv hm hz hf hE hL hk hn
  go_enter Tryd.func6, Tryd.ntmps6
  go_wp2_with fail
  refine K.out.mono ?_
  rintro e w1 ⟨rfl, hb⟩
  have B1 : Hid (Below w.heap.size w w1) := Lib.hid hb
  have M1 := Lib.hid (M0.out.below hb)
  have V1 := Lib.hid (V0.out.below hb)
  clear hb M0 V0
  clear K
  go_wp2_with fail
  refine (behind_n _ l m w1 n HN.out V1.out M1.out HZ.out).mono ?_
  rintro e w2 ⟨g2, cap2, rfl, hc2, hd2, hr, hb⟩
  have Z2 := Lib.hid hr
  clear hr
  have B2 : Hid (Below w.heap.size w w2) := Lib.hid (B1.out.trans (hb.mono B1.out.size))
  have M2 := Lib.hid (M1.out.below hb)
  have V2 := Lib.hid (V1.out.below hb)
  clear hb B1 M1 V1
  go_wp2_with fail
  refine (normal_n _ l R 0 _ w2 Z2.out (fun ad n c e => by injection e with e; injection e with e; exact ⟨_, _, e.symm⟩) (by have := HZ.out; rw [← HN.out]; omega) HF.out HE.out HL.out HK.out).mono ?_
  rintro e w3 ⟨aA, cA, rfl, hcA, hdA, hr, hb⟩
  have A3 := Lib.hid hr
  clear hr
  have B3 : Hid (Below w.heap.size w w3) := Lib.hid (B2.out.trans (hb.mono B2.out.size))
  have M3 := Lib.hid (M2.out.below hb)
  have V3 := Lib.hid (V2.out.below hb)
  clear hb B2 M2 V2
  clear Z2
  go_wp2_with fail
  refine (turned_any _ l x w3 V3.out (by rw [← HN.out]; exact HZ.out)).mono ?_
  rintro e w4 ⟨t, ta, tn, tc, rfl, ht, hr, hb⟩
  have TP := Lib.hid ht
  have T4 := Lib.hid hr
  clear hr ht
  have B4 : Hid (Below w.heap.size w w4) := Lib.hid (B3.out.trans (hb.mono B3.out.size))
  have M4 := Lib.hid (M3.out.below hb)
  have V4 := Lib.hid (V3.out.below hb)
  have A4 := Lib.hid (A3.out.below hb)
  clear hb B3 M3 V3 A3
  go_wp2_with fail
  refine (normal_n _ t R 0 _ w4 (T4.out.row okAm) (own_pl T4.out) (by rw [TP.out.length_eq, ← HN.out]; have := HZ.out; omega) (fun y hy => HF.out y (TP.out.mem_iff.1 hy)) ((nr_perm TP.out).1.trans HE.out) ((nr_perm TP.out).2.trans HL.out) HK.out).mono ?_
  rintro e w5 ⟨aB, cB, rfl, hcB, hdB, hr, hb⟩
  have Y5 := Lib.hid hr
  clear hr
  have B5 : Hid (Below w.heap.size w w5) := Lib.hid (B4.out.trans (hb.mono B4.out.size))
  have M5 := Lib.hid (M4.out.below hb)
  have V5 := Lib.hid (V4.out.below hb)
  have A5 := Lib.hid (A4.out.below hb)
  clear hb B4 M4 V4 A4
  clear T4 TP
  go_wp2_with fail
  refine (back_any _ l w5 V5.out (by rw [← HN.out]; have := HZ.out; omega)).mono ?_
  rintro e w6 ⟨ba, bn, bc, rfl, hr, hb⟩
  have T6 := Lib.hid hr
  clear hr
  have B6 : Hid (Below w.heap.size w w6) := Lib.hid (B5.out.trans (hb.mono B5.out.size))
  have M6 := Lib.hid (M5.out.below hb)
  have V6 := Lib.hid (V5.out.below hb)
  have A6 := Lib.hid (A5.out.below hb)
  have Y6 := Lib.hid (Y5.out.below hb)
  clear hb B5 M5 V5 A5 Y5
  go_wp2_with fail
  refine (normal_n _ l.reverse R 0 _ w6 (T6.out.row okAm) (own_pl T6.out) (by rw [List.length_reverse, ← HN.out]; have := HZ.out; omega) (fun y hy => HF.out y (List.mem_reverse.1 hy)) ((nr_perm (List.reverse_perm l)).1.trans HE.out) ((nr_perm (List.reverse_perm l)).2.trans HL.out) HK.out).mono ?_
  rintro e w7 ⟨aC, cC, rfl, hcC, hdC, hr, hb⟩
  have X7 := Lib.hid hr
  clear hr
  have B7 : Hid (Below w.heap.size w w7) := Lib.hid (B6.out.trans (hb.mono B6.out.size))
  have M7 := Lib.hid (M6.out.below hb)
  have V7 := Lib.hid (V6.out.below hb)
  have A7 := Lib.hid (A6.out.below hb)
  have Y7 := Lib.hid (Y6.out.below hb)
  clear hb B6 M6 V6 A6 Y6
  clear T6
  go_wp2_with fail
  refine (same_row _ _ R w7 A7.out Y7.out).mono ?_
  rintro e w8 ⟨rfl, hb⟩
  have B8 : Hid (Below w.heap.size w w8) := Lib.hid (B7.out.trans (hb.mono B7.out.size))
  have M8 := Lib.hid (M7.out.below hb)
  have V8 := Lib.hid (V7.out.below hb)
  have A8 := Lib.hid (A7.out.below hb)
  have Y8 := Lib.hid (Y7.out.below hb)
  have X8 := Lib.hid (X7.out.below hb)
  clear hb B7 M7 V7 A7 Y7 X7
  go_wp2_with fail
  refine (same_row _ _ R w8 A8.out X8.out).mono ?_
  rintro e w9 ⟨rfl, hb⟩
  have B9 : Hid (Below w.heap.size w w9) := Lib.hid (B8.out.trans (hb.mono B8.out.size))
  have M9 := Lib.hid (M8.out.below hb)
  have V9 := Lib.hid (V8.out.below hb)
  have A9 := Lib.hid (A8.out.below hb)
  have Y9 := Lib.hid (Y8.out.below hb)
  have X9 := Lib.hid (X8.out.below hb)
  clear hb B8 M8 V8 A8 Y8 X8
  clear Y9 X9
  go_wp2_with fail
  refine (behind_n _ l m w9 n HN.out V9.out M9.out HZ.out).mono ?_
  rintro e w10 ⟨g10, cap10, rfl, hc10, hd10, hr, hb⟩
  have Z10 := Lib.hid hr
  clear hr
  have B10 : Hid (Below w.heap.size w w10) := Lib.hid (B9.out.trans (hb.mono B9.out.size))
  have M10 := Lib.hid (M9.out.below hb)
  have V10 := Lib.hid (V9.out.below hb)
  have A10 := Lib.hid (A9.out.below hb)
  clear hb B9 M9 V9 A9
  have VA : Hid (∀ W, Row kAm W (.slice (some ⟨g10, 0, none⟩) n cap10) l → Calls Tryd.prog 24 #[.slice (some ⟨g10, 0, none⟩) n cap10] W fun e w' => e = .returned (.int .i64 C) ∧ Below W.heap.size W w') := Lib.hid fun W h => by rw [← hC]; exact valid_any _ l W h
  clear hC
  go_wp2_with fail
  refine (VA.out w10 Z10.out).mono ?_
  rintro e w11 ⟨rfl, hb⟩
  have B11 : Hid (Below w.heap.size w w11) := Lib.hid (B10.out.trans (hb.mono B10.out.size))
  have M11 := Lib.hid (M10.out.below hb)
  have V11 := Lib.hid (V10.out.below hb)
  have A11 := Lib.hid (A10.out.below hb)
  clear hb B10 M10 V10 A10
  clear Z10 VA
  go_wp2_with fail
  refine (behind_n _ R m w11 k HK.out A11.out M11.out HZK.out).mono ?_
  rintro e w12 ⟨g12, cap12, rfl, hc12, hd12, hr, hb⟩
  have Z12 := Lib.hid hr
  clear hr
  have B12 : Hid (Below w.heap.size w w12) := Lib.hid (B11.out.trans (hb.mono B11.out.size))
  have M12 := Lib.hid (M11.out.below hb)
  have V12 := Lib.hid (V11.out.below hb)
  have A12 := Lib.hid (A11.out.below hb)
  clear hb B11 M11 V11 A11
  go_wp2_with fail
  refine (normal_n _ R R 0 _ w12 Z12.out (fun ad n c e => by injection e with e; injection e with e; exact ⟨_, _, e.symm⟩) (by have := HZK.out; rw [← HK.out]; omega) HFR.out NE.out NL.out HK.out).mono ?_
  rintro e w13 ⟨aD, cD, rfl, hcD, hdD, hr, hb⟩
  have D13 := Lib.hid hr
  clear hr
  have B13 : Hid (Below w.heap.size w w13) := Lib.hid (B12.out.trans (hb.mono B12.out.size))
  have M13 := Lib.hid (M12.out.below hb)
  have V13 := Lib.hid (V12.out.below hb)
  have A13 := Lib.hid (A12.out.below hb)
  clear hb B12 M12 V12 A12
  go_wp2_with fail
  refine (behind_n _ R m w13 k HK.out A13.out M13.out HZK.out).mono ?_
  rintro e w14 ⟨g14, cap14, rfl, hc14, hd14, hr, hb⟩
  have Z14 := Lib.hid hr
  clear hr
  have B14 : Hid (Below w.heap.size w w14) := Lib.hid (B13.out.trans (hb.mono B13.out.size))
  have M14 := Lib.hid (M13.out.below hb)
  have V14 := Lib.hid (V13.out.below hb)
  have A14 := Lib.hid (A13.out.below hb)
  have D14 := Lib.hid (D13.out.below hb)
  clear hb B13 M13 V13 A13 D13
  go_wp2_with fail
  refine (VR.out _ w14 Z14.out).mono ?_
  rintro e w15 ⟨rfl, hb⟩
  have B15 : Hid (Below w.heap.size w w15) := Lib.hid (B14.out.trans (hb.mono B14.out.size))
  have M15 := Lib.hid (M14.out.below hb)
  have V15 := Lib.hid (V14.out.below hb)
  have A15 := Lib.hid (A14.out.below hb)
  have D15 := Lib.hid (D14.out.below hb)
  clear hb B14 M14 V14 A14 D14
  go_wp2_with fail
  refine (same_row _ _ R w15 A15.out D15.out).mono ?_
  rintro e w16 ⟨rfl, hb⟩
  have B16 : Hid (Below w.heap.size w w16) := Lib.hid (B15.out.trans (hb.mono B15.out.size))
  have M16 := Lib.hid (M15.out.below hb)
  have V16 := Lib.hid (V15.out.below hb)
  have A16 := Lib.hid (A15.out.below hb)
  have D16 := Lib.hid (D15.out.below hb)
  clear hb B15 M15 V15 A15 D15
  clear D16 M16
  go_wp2_with fail
  go_loopg [13] k (fun g si wr => ∃ (i : Nat), i ≤ k ∧ g = k - i ∧ si = .int .i64 i ∧ Below w16.heap.size w16 wr)
  case atStart => exact ⟨0, Nat.zero_le _, rfl, rfl, Below.refl _ _⟩
  case round =>
    obtain ⟨i, hi, hg, rfl, hb⟩ := hrel
    have Q : Hid (gk = k - i ∧ Below w16.heap.size w16 wr) := Lib.hid ⟨hg, hb⟩
    clear hg hb
    by_cases hlt : i < k
    · obtain ⟨b, off, rfl, pc⟩ := (A16.out.below Q.out.2).at i (by rw [← HK.out]; exact hlt)
      obtain ⟨⟨yn, yv⟩, hy⟩ : ∃ y, y = R.getD i kAm.z := ⟨_, rfl⟩
      rw [← hy] at pc
      have p0 : wr.cell? ⟨b, off + i * 2, none⟩ = some (.string yn) := pc 0 _ rfl
      have p1 : wr.cell? ⟨b, off + i * 2 + 1, none⟩ = some (.int .i64 yv) := pc 1 _ rfl
      have RS : Hid (parS l yn.data.toList n = yv ∧ parT l yn.data.toList n = true) := Lib.hid (by
        have q := row_sum HE.out (i := i) (by rw [HL.out, ← HK.out]; exact hlt) (y := ⟨yn, yv⟩) (by rw [HL.out]; exact hy)
        unfold parS parT
        rw [HN.out, List.take_length]
        refine ⟨q.1, ?_⟩
        rw [List.any_eq_true]
        obtain ⟨z, hz, e⟩ := q.2.2
        exact ⟨z, hz, decide_eq_true e⟩)
      clear hy pc
      have hlt' : (i : Int) < (k : Int) := by omega
      go_wp2_with fail
      go_loopg [14, 15, 16] n (fun g ss st sj wq => ∃ (j : Nat) (s : Int) (t : Bool), j ≤ n ∧ g = n - j ∧ sj = .int .i64 j ∧ ss = .int .i64 s ∧ st = .bool t ∧ s = parS l yn.data.toList j ∧ t = parT l yn.data.toList j ∧ ∃ q, wq = wr.drewN q)
      case atStart => exact ⟨0, 0, false, Nat.zero_le _, rfl, rfl, rfl, rfl, rfl, rfl, 0, rfl⟩
      case round =>
        obtain ⟨j, s, t, hj, hg, rfl, rfl, rfl, hs, ht, q, rfl⟩ := hrel
        have P : Hid (gk = n - j ∧ s = parS l yn.data.toList j ∧ t = parT l yn.data.toList j) := Lib.hid ⟨hg, hs, ht⟩
        clear hg hs ht
        by_cases hjl : j < n
        · obtain ⟨b', off', rfl, pd⟩ := (V16.out.below Q.out.2).at j (by rw [← HN.out]; exact hjl)
          obtain ⟨⟨xn, xv⟩, hx⟩ : ∃ x, x = l.getD j kAm.z := ⟨_, rfl⟩
          rw [← hx] at pd
          have q0 : wr.cell? ⟨b', off' + j * 2, none⟩ = some (.string xn) := pd 0 _ rfl
          have q1 : wr.cell? ⟨b', off' + j * 2 + 1, none⟩ = some (.int .i64 xv) := pd 1 _ rfl
          have X := Lib.hid hx
          have hjl' : (j : Int) < (n : Int) := by omega
          clear hx pd
          by_cases hxy : xn.data.toList = yn.data.toList
          · have ge : (xn.toList == yn.toList) = true := by rw [ByteArray.toList_eq, ByteArray.toList_eq, hxy]; exact beq_self_eq_true _
            have PY : Hid (parS l yn.data.toList (j + 1) = s + xv ∧ parT l yn.data.toList (j + 1) = true) := Lib.hid (by
              have q := par_yes (l := l) (n := yn.data.toList) (j := j) (by rw [← HN.out]; exact hjl) (by rw [← X.out]; exact hxy)
              rw [← X.out, ← P.out.2.1] at q
              exact q)
            have SW : Hid (wrap64 (s + xv) = s + xv) := Lib.hid (by rw [← PY.out.1]; exact wrap_sum (par_le HE.out _ _))
            clear hxy
            go_wp2_with fail
            go_quiet (fail)
            go_wp2_with fail
            go_roundg (n - (j + 1))
            case measure => have := P.out.1; omega
            case rel => exact ⟨j + 1, s + xv, true, by omega, rfl, by go_num, by rw [SW.out], rfl, PY.out.1.symm, PY.out.2.symm, _, rfl⟩
          · have ge : (xn.toList == yn.toList) = false := by rw [ByteArray.toList_eq, ByteArray.toList_eq]; exact beq_eq_false_iff_ne.2 hxy
            have PN : Hid (parS l yn.data.toList (j + 1) = s ∧ parT l yn.data.toList (j + 1) = t) := Lib.hid (by
              have q := par_no (l := l) (n := yn.data.toList) (j := j) (by rw [← HN.out]; exact hjl) (by rw [← X.out]; exact hxy)
              rw [← P.out.2.1, ← P.out.2.2] at q
              exact q)
            clear hxy
            go_wp2_with fail
            go_quiet (fail)
            go_wp2_with fail
            go_roundg (n - (j + 1))
            case measure => have := P.out.1; omega
            case rel => exact ⟨j + 1, s, t, by omega, rfl, by go_num, rfl, rfl, PN.out.1.symm, PN.out.2.symm, _, rfl⟩
        · obtain rfl : j = n := by omega
          obtain ⟨rfl, rfl⟩ : s = yv ∧ t = true := ⟨P.out.2.1.trans RS.out.1, P.out.2.2.trans RS.out.2⟩
          go_wp2_with fail
          go_roundg (k - (i + 1))
          case measure => have := Q.out.1; omega
          case rel => exact ⟨i + 1, by omega, rfl, by go_num, Q.out.2.trans ⟨rfl, rfl, rfl, Nat.le_refl _, fun _ _ => rfl⟩⟩
    · have OF : Hid (∀ W xn, (∃ y ∈ l, y.n = xn) → Row kAm W (.slice aA k cA) R → Calls Tryd.prog 25 #[.slice aA k cA, .string xn] W fun e w' => ∃ z : Int, e = .returned (.tuple #[.int .i64 z, .bool true]) ∧ Below W.heap.size W w') := Lib.hid fun W xn hx hr => by
        refine (of_any _ (toA R) xn W (amts_row hr)).mono ?_
        rintro e w' ⟨rfl, hb⟩
        refine ⟨(findA xn (toA R)).1, ?_, hb⟩
        obtain ⟨y, hy, rfl⟩ := hx
        rw [find_there y.n R (by rw [← HL.out]; exact row_names HE.out hy)]
      go_wp2_with fail
      go_loopg [17] n (fun g sj wq => ∃ (j : Nat), j ≤ n ∧ g = n - j ∧ sj = .int .i64 j ∧ Below w16.heap.size w16 wq)
      case atStart => exact ⟨0, Nat.zero_le _, rfl, rfl, Q.out.2⟩
      case round =>
        obtain ⟨j, hj, hg, rfl, hb⟩ := hrel
        have P : Hid (gk = n - j ∧ Below w16.heap.size w16 wr) := Lib.hid ⟨hg, hb⟩
        clear hg hb
        by_cases hjl : j < n
        · obtain ⟨b', off', rfl, pd⟩ := (V16.out.below P.out.2).at j (by rw [← HN.out]; exact hjl)
          obtain ⟨⟨xn, xv⟩, hx⟩ : ∃ x, x = l.getD j kAm.z := ⟨_, rfl⟩
          rw [← hx] at pd
          have q0 : wr.cell? ⟨b', off' + j * 2, none⟩ = some (.string xn) := pd 0 _ rfl
          have IN : Hid (∃ y ∈ l, y.n = xn) := Lib.hid ⟨⟨xn, xv⟩, by rw [hx]; exact getD_in (by rw [← HN.out]; exact hjl), rfl⟩
          have hjl' : (j : Int) < (n : Int) := by omega
          clear hx pd
          go_wp2_with fail
          refine (OF.out wr xn IN.out (A16.out.below P.out.2)).mono ?_
          rintro e wz ⟨z, rfl, hb⟩
          have PZ : Hid (Below w16.heap.size w16 wz) := Lib.hid (P.out.2.trans (hb.mono P.out.2.size))
          clear hb
          go_wp2_with fail
          go_roundg (n - (j + 1))
          case measure => have := P.out.1; omega
          case rel => exact ⟨j + 1, by omega, rfl, by go_num, PZ.out⟩
        · go_wp2_with fail
          go_ret
          exact ⟨rfl, B16.out.trans (P.out.2.mono B16.out.size)⟩
theorem quantOrders_core (v : Value) (l : List Am) (x : Int) (m : Amt) (w : World) (G : Glob w) (hm : Mark w m) (hv : Row kAm w v l) (hz : (l.length + 1) * 24 ≤ 140737488355328) (hf : ∀ x ∈ l, x.v ≤ 9223372036854775807) :
    Calls Tryd.prog 6 #[v, .int .i64 x] w fun e w' => e = .returned (.bool true) ∧ Below w.heap.size w w' := by
  by_cases hC : amsC l = 0
  · obtain ⟨h1, h2⟩ := nr_valid ((amsC_zero l).1 hC) hf
    exact orders_A v l l x m _ _ 0 w G hm hv hz hf rfl rfl hC rfl rfl h1 h2
  · by_cases h0 : nrE l = 0
    · exact orders_B v l (nrL l) x m _ _ _ w G hm hv hz hf rfl rfl rfl hC h0 rfl
    · have q : (nrE l = 31 ∨ nrE l = 7 ∨ nrE l = 23) ∧ nrL l = [] := by
        unfold nrE at h0
        unfold nrE nrL
        split
        · exact ⟨Or.inl rfl, rfl⟩
        · split
          · exact ⟨Or.inr (Or.inl rfl), rfl⟩
          · split
            · exact ⟨Or.inr (Or.inr rfl), rfl⟩
            · simp_all
      obtain ⟨q | q | q, e⟩ := q
      · exact orders_31 v l [] x m _ _ _ w G hm hv hz hf rfl rfl rfl hC rfl q e
      · exact orders_7 v l [] x m _ _ _ w G hm hv hz hf rfl rfl rfl hC rfl q e
      · exact orders_23 v l [] x m _ _ _ w G hm hv hz hf rfl rfl rfl hC rfl q e
theorem quantOrders_walk (v : Value) (l : List Am) (x : Int) (w : World) (hN : Glob w ∧ ∃ m, Mark w m) (hv : Row kAm w v l) (hs : (l.length + 1) * 24 ≤ 140737488355328 ∧ ∀ x ∈ l, x.v ≤ 9223372036854775807) (_ : -9223372036854775808 ≤ x ∧ x ≤ 9223372036854775807) :
    Calls Tryd.prog 6 #[v, .int .i64 x] w fun e w' => e = .returned (.bool true) ∧ Below w.heap.size w w' := by
  obtain ⟨G, m, hm⟩ := hN
  exact quantOrders_core v l x m w G hm hv hs.1 hs.2
end Go.Proofs.YtiacbppgofdkmaaDoor
