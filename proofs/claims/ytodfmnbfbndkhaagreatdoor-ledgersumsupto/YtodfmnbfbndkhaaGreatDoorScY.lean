/-
  Uses of every object: the walk.
-/
import Derived.Test.YtodfmnbfbndkhaaGreatDoorScX
namespace Go.Proofs.YtodfmnbfbndkhaaGreatDoor
open Go.RowKit Go.Maps
theorem owns_map_ne {α : Type} {K : Kd α} {B : Nat} {w : World} {v : Value} {l : List α} {b n : Nat} {es : List En} (H : OwnR K B w v l) (hm : MapAt w b n es) : some b ≠ v.ownBlock := by
  intro e
  obtain ⟨cs, m, h⟩ := H.ty b e.symm
  obtain ⟨D, ⟨es', clock, hb, _⟩, _⟩ := hm
  rw [hb] at h
  simp at h
theorem MapAt.grown' {w w' : World} {b n : Nat} {es : List En} {r : Option Nat} (h : MapAt w b n es) (hg : w.grownBy w' r) (hne : some b ≠ r) : MapAt w' b n es := by
  obtain ⟨D, h1, h2⟩ := h
  exact ⟨D, h1.kept hg hne, h2⟩
theorem MapAt.mono {w : World} {b n n' : Nat} {es : List En} (h : MapAt w b n es) (hn : n ≤ n') : MapAt w b n' es := by
  obtain ⟨D, h1, h2⟩ := h
  exact ⟨D, h1.mono hn, h2⟩
theorem OwnR.grown {α : Type} {K : Kd α} {B : Nat} {w w' : World} {v : Value} {l : List α} {r : Option Nat} (H : OwnR K B w v l) (hg : w.grownBy w' r) (hne : ∀ k, v.ownBlock = some k → some k ≠ r) : OwnR K B w' v l := by
  obtain ⟨h1, h | ⟨g, cap, cur, hv, hB, hg', hr⟩⟩ := H
  · exact ⟨h1, .inl h⟩
  · have hlt : g < w.heap.size := by
      rcases Nat.lt_or_ge g w.heap.size with q | q
      · exact q
      · rw [Array.getElem?_eq_none q] at hg'; simp at hg'
    subst hv
    exact ⟨h1, .inr ⟨g, cap, cur, rfl, hB, by rw [hg.block g hlt (hne g rfl)]; exact hg', hr⟩⟩
set_option maxHeartbeats 4000000 in
set_option maxRecDepth 100000 in
theorem uses_core (op on : ByteArray) (opr odl over : Int) (la : Option Addr) (ln lc : Nat) (pa : Option Addr) (pc : Nat) (ops : List Pt) (w : World) (hp : Pts w (.slice pa ops.length pc) ops) (hz : PSz ops) :
    Calls Tryz.prog 21 #[.agg #[.string op, .string on, .slice la ln lc, .int .i64 opr, .int .i64 odl, .slice pa ops.length pc, .int .i64 over]] w fun e w' => ∃ a n c, e = .returned (.tuple #[.slice a n c, .int .i64 (usesE ops)]) ∧ OwnR kAm w.heap.size w' (.slice a n c) (usesL ops) ∧ Below w.heap.size w w' := by
  have HP : Hid (Pts w (.slice pa ops.length pc) ops) := Lib.hid hp
  have HZ : Hid (PSz ops) := Lib.hid hz
  obtain ⟨_, _, e1, hlc, hcm⟩ := hp.len
  simp only [Value.slice.injEq] at e1
  rw [← e1.2.2] at hlc hcm
  unfold maxLen at hcm
  clear hp hz e1
  have B0 : Hid (∀ o, Below w.heap.size w (w.alloc o)) := Lib.hid fun o => (Below.refl _ w).alloc (Nat.le_refl _) _
  have CN : Hid (∀ W, Below w.heap.size w W → Calls Tryz.prog 39 #[.slice pa ops.length pc, .func (.func 40) #[] #[]] W fun e w' => e = .returned (.bool (onegB ops)) ∧ Below W.heap.size W w') := Lib.hid fun W hb => contains_neg _ ops W (HP.out.below hb)
  obtain ⟨n, hn⟩ : ∃ n, n = ops.length := ⟨_, rfl⟩
  rw [← hn] at hlc CN ⊢
  have HN := Lib.hid hn
  clear hn
  go_enter Tryz.func21, Tryz.ntmps21
  go_wp2_with fail
  refine (CN.out _ (B0.out _)).mono ?_
  rintro e w1 ⟨rfl, hb⟩
  have e5 : w1.cell? ⟨w.heap.size, 5, none⟩ = some (.slice pa n pc) := (hb.cell (p := ⟨w.heap.size, 5, none⟩) (by simp)).trans (by rw [World.cell?_alloc_new]; rfl)
  have B1 := Lib.hid ((B0.out _).trans (hb.mono (B0.out _).size))
  clear hb CN B0
  cases hneg : onegB ops with
  | true =>
    have E : Hid (usesE ops = 1 ∧ usesL ops = []) := Lib.hid (by unfold usesE usesL; rw [if_pos hneg, if_pos hneg]; exact ⟨rfl, rfl⟩)
    clear hneg
    go_wp2_with fail
    go_ret2
    refine ⟨none, 0, 0, by rw [E.out.1]; rfl, ?_, B1.out⟩
    rw [E.out.2]; exact OwnR.nil _ _ _
  | false =>
    have NP : Hid (∀ p ∈ ops, (∀ x ∈ p.r, 0 ≤ x.v) ∧ (∀ x ∈ p.l, 0 ≤ x.v)) := Lib.hid (neg_pos hneg)
    have HG := Lib.hid hneg
    clear hneg
    have hmm := make_map
    have C2 : Hid (∀ w2, (w1.alloc (.map #[] 0)).grownBy w2 (some w1.heap.size) → w2.cell? ⟨w.heap.size, 5, none⟩ = some (.slice pa n pc) ∧ Below w.heap.size w w2) := Lib.hid fun w2 hg => by
      have hlt := block_lt_of_cell e5
      simp only at hlt
      have q : (w1.alloc (.map #[] 0)).cell? ⟨w.heap.size, 5, none⟩ = some (.slice pa n pc) := (((Below.refl _ w1).alloc (Nat.le_refl _) (.map #[] 0)).cell (p := ⟨w.heap.size, 5, none⟩) hlt).trans e5
      refine ⟨hg.cell q (by intro e; injection e with e; simp only at e; omega), ?_⟩
      have B2 : Below w.heap.size w (w1.alloc (.map #[] 0)) := B1.out.alloc B1.out.size _
      exact B2.grown hg B2.size (fun j hj => by cases hj; exact B1.out.size)
    have BS := Lib.hid B1.out.size
    clear e5
    go_wp2_with (refine wpList_insert_own _ rfl _ _ _ 93 rfl 9 2 law Tryz.underlying93 (plainElem (H := Unit) Tryz.prog 2) w1.heap.size 0 (.map []) rfl (World.ownsMap_made _ _ _ _) (by decide) _ _ (.string tCount.data.toList) rfl rfl (WideMaps.keyOf_string_mk (P := Tryz.prog) Tryz.underlying9 (by decide)) (.lit (.int .i64 1000)) [] (plainElem_int Tryz.underlying2 (by decide)) ?_; intro w2 hown2 hgrow2; have e6 := (C2.out _ hgrow2).1)
    have I0 : Hid (MapAt w2 w1.heap.size 1 (tkEs ops 0) ∧ Below w.heap.size w w2) := Lib.hid ⟨⟨_, hown2, Sm.none.put tCount.data.toList 1000⟩, (C2.out _ hgrow2).2⟩
    clear hown2 hgrow2 e6 C2 hmm B1
    obtain ⟨b, hb⟩ : ∃ b, b = w1.heap.size := ⟨_, rfl⟩
    rw [← hb] at I0 BS ⊢
    clear hb
    go_loopg [20] n (fun g si wr => ∃ (k : Nat), k ≤ n ∧ g = n - k ∧ si = .int .i64 k ∧ MapAt wr b (tkEs ops k).length (tkEs ops k) ∧ ¬ Ov (tkEs ops k) ∧ Below w.heap.size w wr)
    case atStart => exact ⟨0, Nat.zero_le _, rfl, rfl, I0.out.1, (by
        rintro ⟨y, hy⟩
        simp only [tkEs, obEs, List.take_zero, List.flatMap_nil, Tot, maxA] at hy
        split at hy <;> omega), I0.out.2⟩
    case round =>
      obtain ⟨k, hk, hg, rfl, hM, hO, hb⟩ := hrel
      have R : Hid (gk = n - k ∧ MapAt wr b (tkEs ops k).length (tkEs ops k) ∧ ¬ Ov (tkEs ops k) ∧ Below w.heap.size w wr) := Lib.hid ⟨hg, hM, hO, hb⟩
      clear hg hM hO hb
      by_cases hlt : k < n
      · have hlt' : (k : Int) < (n : Int) := by omega
        have hkl : k < ops.length := by rw [← HN.out]; exact hlt
        obtain ⟨pb, off, ⟨ra, rn, rc⟩, ⟨sa, sn, sc⟩, rfl, c0, c1, c2, rr, rs⟩ := (HP.out.below R.out.2.2.2).at k hkl
        have RR := Lib.hid rr
        have RS := Lib.hid rs
        simp only [Sl.v] at c1 c2
        have ST := Lib.hid (tk_step ops k hkl)
        have TR := Lib.hid (tk_rest ops (k + 1))
        have TL := Lib.hid (tk_len ops (k + 1))
        have PO := Lib.hid (NP.out _ (getD_in (d := ⟨⟨#[]⟩, [], []⟩) hkl))
        have PF := Lib.hid (HZ.out.s _ (getD_in (d := ⟨⟨#[]⟩, [], []⟩) hkl))
        have EP : Hid (∀ e ∈ tkEs ops k, 0 ≤ e.2) := Lib.hid (ob_pos fun p hp => NP.out p (List.mem_of_mem_take hp))
        have DP : Hid (∀ e ∈ (ops.drop (k + 1)).flatMap ptEs, 0 ≤ e.2) := Lib.hid (flat_pos fun p hp => NP.out p (List.mem_of_mem_drop hp))
        obtain ⟨⟨xn, xr, xl⟩, hx⟩ : ∃ x, x = ops.getD k ⟨⟨#[]⟩, [], []⟩ := ⟨_, rfl⟩
        rw [← hx] at c0 RR RS ST PO PF
        simp only at c0 RR RS ST PO PF
        clear hx rr rs hkl
        have L1 : Hid ((tkEs ops (k + 1)).length ≤ 4000000 ∧ (tkEs ops (k + 1)).length = (tkEs ops k).length + xr.length + xl.length) := Lib.hid ⟨Nat.le_trans TL.out HZ.out.n, by rw [ST.out]; simp [pre]; omega⟩
        have X0 : Hid (∀ o, MapAt (wr.alloc o) b (tkEs ops k).length (tkEs ops k) ∧ Row kAm (wr.alloc o) (.slice ra rn rc) xr ∧ Row kAm (wr.alloc o) (.slice sa sn sc) xl ∧ Below w.heap.size w (wr.alloc o)) := Lib.hid fun o => ⟨R.out.2.1.grown (World.grownBy_alloc _ _ _), RR.out.below ((Below.refl _ wr).alloc (Nat.le_refl _) _), RS.out.below ((Below.refl _ wr).alloc (Nat.le_refl _) _), R.out.2.2.2.alloc R.out.2.2.2.size _⟩
        have A1 : Hid (∀ o, Calls Tryz.prog 41 #[.map (some b), .string ⟨#[114, 101, 113, 117, 101, 115, 116, 115, 46]⟩, .slice ra rn rc] (wr.alloc o) fun e w' => (wr.alloc o).grownBy w' (some b) ∧ ((¬ Ov (tkEs ops k ++ pre tReq xr) ∧ e = .returned (.int .i64 0) ∧ MapAt w' b ((tkEs ops k).length + xr.length) (tkEs ops k ++ pre tReq xr)) ∨ (Ov (tkEs ops k ++ pre tReq xr) ∧ e = .returned (.int .i64 7)))) := Lib.hid fun o =>
          addAll_any b _ tReq _ xr (tkEs ops k) _ (X0.out o).1 (X0.out o).2.1 (fun x hx => ⟨PO.out.1 x hx, (PF.out.1 x hx).2.2⟩) EP.out R.out.2.2.1 (fun x hx => by have := (PF.out.1 x hx).1; have e : tReq.size = 9 := rfl; omega) (by have := L1.out; omega)
        have BN : Hid (b < wr.heap.size) := Lib.hid (by obtain ⟨D, h1, _⟩ := R.out.2.1; exact h1.lt)
        go_wp2_with fail
        refine (A1.out _).mono ?_
        rintro e w3 ⟨hg3, h3⟩
        have f2 : w3.cell? ⟨wr.heap.size, 2, none⟩ = some (.slice sa sn sc) := hg3.cell (by rw [World.cell?_alloc_new]; rfl) (by have := BN.out; intro e; injection e with e; simp only at e; omega)
        have B3 : Hid (Below w.heap.size w w3) := Lib.hid ((X0.out _).2.2.2.grown hg3 (X0.out _).2.2.2.size (fun j hj => by cases hj; exact BS.out))
        have R3 : Hid (Row kAm w3 (.slice sa sn sc) xl) := Lib.hid ((X0.out _).2.2.1.grownMap (X0.out _).1 hg3)
        clear hg3
        rcases h3 with ⟨hno, rfl, hm3⟩ | ⟨hov, rfl⟩
        · have M3 := Lib.hid hm3
          have N3 := Lib.hid hno
          clear hno hm3
          have A2 : Hid (Calls Tryz.prog 41 #[.map (some b), .string ⟨#[108, 105, 109, 105, 116, 115, 46]⟩, .slice sa sn sc] w3 fun e w' => w3.grownBy w' (some b) ∧ ((¬ Ov (tkEs ops (k + 1)) ∧ e = .returned (.int .i64 0) ∧ MapAt w' b (tkEs ops (k + 1)).length (tkEs ops (k + 1))) ∨ (Ov (tkEs ops (k + 1)) ∧ e = .returned (.int .i64 7)))) := Lib.hid (by
            rw [L1.out.2, ST.out]
            exact addAll_any b _ tLim _ xl (tkEs ops k ++ pre tReq xr) _ M3.out R3.out (fun x hx => ⟨PO.out.2 x hx, (PF.out.2 x hx).2.2⟩) (fun e he => (List.mem_append.1 he).elim (EP.out e) (pre_pos PO.out.1 e)) N3.out (fun x hx => by have := (PF.out.2 x hx).1; have e : tLim.size = 7 := rfl; omega) (by have := L1.out; omega))
          go_wp2_with fail
          refine A2.out.mono ?_
          rintro e w4 ⟨hg4, h4⟩
          have B4 : Hid (Below w.heap.size w w4) := Lib.hid (B3.out.grown hg4 B3.out.size (fun j hj => by cases hj; exact BS.out))
          clear hg4
          rcases h4 with ⟨hno, rfl, hm4⟩ | ⟨hov, rfl⟩
          · have M4 := Lib.hid hm4
            have N4 := Lib.hid hno
            clear hno hm4
            go_wp2_with fail
            go_roundg (n - (k + 1))
            case measure => have := R.out.1; omega
            case rel => exact ⟨k + 1, by omega, rfl, by go_num, M4.out, N4.out, B4.out⟩
          · have E : Hid (usesE ops = 7 ∧ usesL ops = []) := Lib.hid (by
              have q : Ov (obEs ops) := by rw [TR.out]; exact Ov_app hov DP.out
              unfold usesE usesL; rw [HG.out, if_neg (by decide), if_pos q, if_neg (by decide), if_pos q]; exact ⟨rfl, rfl⟩)
            clear hov
            go_wp2_with fail
            go_ret2
            refine ⟨none, 0, 0, by rw [E.out.1]; rfl, ?_, B4.out⟩
            rw [E.out.2]; exact OwnR.nil _ _ _
        · have E : Hid (usesE ops = 7 ∧ usesL ops = []) := Lib.hid (by
            have q : Ov (obEs ops) := by rw [TR.out]; refine Ov_app ?_ DP.out; rw [ST.out]; exact Ov_app hov (pre_pos PO.out.2)
            unfold usesE usesL; rw [HG.out, if_neg (by decide), if_pos q, if_neg (by decide), if_pos q]; exact ⟨rfl, rfl⟩)
          clear hov
          go_wp2_with fail
          go_ret2
          refine ⟨none, 0, 0, by rw [E.out.1]; rfl, ?_, B3.out⟩
          rw [E.out.2]; exact OwnR.nil _ _ _
      · have EK : Hid (tkEs ops k = obEs ops) := Lib.hid (by unfold tkEs; rw [List.take_of_length_le (by rw [← HN.out]; omega)])
        have Z : Hid (MapAt wr b (obEs ops).length (obEs ops) ∧ usesE ops = 0 ∧ usesL ops = outL (obEs ops)) := Lib.hid (by
          have q := R.out.2.2.1
          have m := R.out.2.1
          rw [EK.out] at q m
          refine ⟨m, ?_⟩
          unfold usesE usesL; rw [HG.out, if_neg (by decide), if_neg q, if_neg (by decide), if_neg q]; exact ⟨rfl, rfl⟩)
        have RB := Lib.hid R.out.2.2.2
        have LE : Hid ((obEs ops).length * 16 ≤ 140737488355328) := Lib.hid (by have := HZ.out.n; omega)
        have KA := Lib.hid (keys_any (some b) wr)
        have SA := Lib.hid (sorted_any b _ (obEs ops) wr Z.out.1 LE.out)
        go_wp2_with fail
        refine KA.out.mono ?_
        rintro e w5 ⟨rfl, rfl⟩
        go_wp2_with fail
        refine SA.out.mono ?_
        rintro e w6 ⟨vk, rfl, hks, hb6⟩
        obtain ⟨ka, kc, rfl⟩ := hks.slice
        have B6 : Hid (Below w.heap.size w w6) := Lib.hid (by
          have q : Below w.heap.size w (wr.alloc (.cells #[.map (some b)] 93)) := RB.out.alloc RB.out.size _
          exact q.trans (hb6.mono (by have := RB.out.size; omega)))
        have M6 : Hid (MapAt w6 b (obEs ops).length (obEs ops)) := Lib.hid (by
          refine (Z.out.1.grown (World.grownBy_alloc _ _ _)).grown (w := wr.alloc (.cells #[.map (some b)] 93)) ?_
          exact ⟨hb6.os, hb6.tape, hb6.output, hb6.size, fun j hj _ => hb6.block j (by simpa using hj)⟩)
        have K6 : Hid (OwnR kSt w.heap.size w6 (.slice ka (nmsOf (obEs ops)).length kc) (nmsOf (obEs ops))) := Lib.hid (hks.mono (by have := RB.out.size; omega))
        have KN : Hid (∀ m, m ∈ nmsOf (obEs ops) → m.length ≤ 281474976710656) := Lib.hid fun m hm => by
          rw [mem_nms] at hm
          obtain ⟨e, he, rfl⟩ := List.mem_map.1 hm
          exact name_len HZ.out e he
        have KL : Hid ((nmsOf (obEs ops)).length ≤ 4000000 ∧ (outL (obEs ops)).length = (nmsOf (obEs ops)).length) := Lib.hid ⟨Nat.le_trans (nms_len _) HZ.out.n, out_len _⟩
        have OA := Lib.hid (out_at (obEs ops))
        clear hks hb6 KA SA RB
        obtain ⟨ns, hns⟩ : ∃ ns, ns = nmsOf (obEs ops) := ⟨_, rfl⟩
        obtain ⟨q, hq⟩ : ∃ q, q = ns.length := ⟨_, rfl⟩
        rw [← hns] at K6 KN KL OA ⊢
        rw [← hq] at K6 KL OA ⊢
        have HQ := Lib.hid hq
        clear hns hq
        have hq4 : q ≤ 4000000 := KL.out.1
        go_wp2_with fail
        go_loopg [9, 43] q (fun g so si wr => ∃ (k : Nat) (a' : Option Addr) (m c : Nat), k ≤ q ∧ g = q - k ∧ si = .int .i64 k ∧ so = .slice a' m c ∧ OwnR kAm w.heap.size wr (.slice a' m c) ((outL (obEs ops)).take k) ∧ Below w.heap.size w wr ∧ MapAt wr b (obEs ops).length (obEs ops) ∧ OwnR kSt w.heap.size wr (.slice ka q kc) ns)
        case atStart => exact ⟨0, none, 0, 0, Nat.zero_le _, rfl, rfl, rfl, OwnR.nil _ _ _, B6.out, M6.out, K6.out⟩
        case round =>
          obtain ⟨k, a', m, c, hk, hg, rfl, rfl, ho, hb, hM, hK⟩ := hrel
          have R2 : Hid (gk = q - k ∧ OwnR kAm w.heap.size wr (.slice a' m c) ((outL (obEs ops)).take k) ∧ Below w.heap.size w wr ∧ MapAt wr b (obEs ops).length (obEs ops) ∧ OwnR kSt w.heap.size wr (.slice ka q kc) ns) := Lib.hid ⟨hg, ho, hb, hM, hK⟩
          clear hg ho hb hM hK
          by_cases hlt : k < q
          · have hlt' : (k : Int) < (q : Int) := by omega
            have hkl : k < ns.length := by rw [← HQ.out]; exact hlt
            obtain ⟨kb, off, rfl, pc⟩ := (R2.out.2.2.2.2.row okSt).at k hkl
            obtain ⟨D, hD, hS⟩ := R2.out.2.2.2.1
            have MD := Lib.hid hD
            have ST : Hid ((outL (obEs ops)).take (k + 1) = (outL (obEs ops)).take k ++ [⟨⟨(ns.getD k []).toArray⟩, Tot (obEs ops) (ns.getD k [])⟩]) := Lib.hid (by
              rw [take_onez _ k kAm.z (by rw [KL.out.2]; exact hlt), OA.out k hlt])
            have XL := Lib.hid (KN.out _ (getD_in (d := []) hkl))
            obtain ⟨x, hx⟩ : ∃ x, x = ns.getD k [] := ⟨_, rfl⟩
            have c0 : wr.cell? ⟨kb, off + k, none⟩ = some (.string ⟨(ns.getD k []).toArray⟩) := by
              have := pc 0 _ rfl
              rw [show kSt.k = 1 from rfl, Nat.mul_one, Nat.add_zero] at this
              exact this
            rw [← hx] at c0 ST XL
            have KY : Hid (keyOf Tryz.prog 9 (.string ⟨x.toArray⟩) = some (.string x)) := Lib.hid (by
              have := WideMaps.keyOf_string_mk (P := Tryz.prog) Tryz.underlying9 (s := ⟨x.toArray⟩) (by show x.toArray.size ≤ maxLen; rw [List.size_toArray]; have := XL.out; unfold maxLen; omega)
              simpa using this)
            obtain ⟨tk, htk⟩ : ∃ t, t = Tot (obEs ops) x := ⟨_, rfl⟩
            have AT : Hid (∀ c : Int, D.atKey (.string x) (.lit (.int .i64 0)) = .lit (.int .i64 c) → c = tk) := Lib.hid fun c hc => by
              rw [hS.2.2] at hc
              simp only [DataW.lit.injEq, Lit.int.injEq, true_and] at hc
              rw [htk]; exact hc.symm
            rw [← htk] at ST
            obtain ⟨xb, hxb⟩ : ∃ xb : ByteArray, xb = ⟨x.toArray⟩ := ⟨_, rfl⟩
            rw [← hxb] at c0 KY ST
            obtain ⟨acc, hacc⟩ : ∃ acc, acc = (outL (obEs ops)).take k := ⟨_, rfl⟩
            have LN : Hid ((acc.length + 1) * kAm.b ≤ 140737488355328) := Lib.hid (by rw [hacc, List.length_take]; show (min k _ + 1) * 24 ≤ 140737488355328; omega)
            have OW : Hid (OwnR kAm w.heap.size wr (.slice a' m c) acc ∧ w.heap.size ≤ wr.heap.size) := Lib.hid ⟨by rw [hacc]; exact R2.out.2.1, R2.out.2.2.1.size⟩
            rw [← hacc] at ST
            clear hacc hxb htk hx pc hkl hD hS
            go_wp2_with (first
              | (at_lookup; refine wpList_lookup_own_int _ rfl _ _ 93 rfl 9 2 .i64 law Tryz.underlying93 Tryz.underlying2 (zeroE _) b (obEs ops).length D rfl MD.out _ _ rfl KY.out ?_; intro c hat hwc; obtain rfl := AT.out c hat; clear hat hwc)
              | (at_builtin; refine app_rowB okAm (gg := wr.heap.size) rfl _ _ rfl rfl OW.out.1 OW.out.2 ⟨xb, _⟩ (by simp) rfl rfl LN.out ?_; intro v' w' h1 h2))
            obtain ⟨a2, c2, rfl⟩ := h1.slice
            have A : Hid (OwnR kAm w.heap.size w' (.slice a2 (acc ++ [_]).length c2) ((outL (obEs ops)).take (k + 1)) ∧ Below w.heap.size w w' ∧ MapAt w' b (obEs ops).length (obEs ops) ∧ OwnR kSt w.heap.size w' (.slice (some ⟨kb, off, none⟩) q kc) ns) := Lib.hid (by
              refine ⟨?_, R2.out.2.2.1.trans (grown_belowR h2 R2.out.2.1 OW.out.2), R2.out.2.2.2.1.grown' h2 (owns_map_ne R2.out.2.1 R2.out.2.2.2.1), R2.out.2.2.2.2.grown h2 (R2.out.2.2.2.2.apart R2.out.2.1 (by decide))⟩
              rw [ST.out]; exact h1)
            clear h1 h2
            go_wp2_with fail
            go_roundg (q - (k + 1))
            case measure => have := R2.out.1; omega
            case rel => exact ⟨k + 1, a2, _, c2, by omega, rfl, by go_num, rfl, A.out.1, A.out.2.1, A.out.2.2.1, A.out.2.2.2⟩
          · have E : Hid ((outL (obEs ops)).take k = outL (obEs ops)) := Lib.hid (List.take_of_length_le (by rw [KL.out.2]; omega))
            go_wp2_with fail
            go_ret2
            refine ⟨a', m, c, by rw [Z.out.2.1]; rfl, ?_, R2.out.2.2.1⟩
            have := R2.out.2.1
            rw [E.out] at this
            rw [Z.out.2.2]; exact this
theorem uses_any (o : Ob) (ls ps : Value) (w : World) (hv : ObV w ls ps o) (hz : PSz o.ps) :
    Calls Tryz.prog 21 #[o.val ls ps] w fun e w' => ∃ a n c, e = .returned (.tuple #[.slice a n c, .int .i64 (usesE o.ps)]) ∧ OwnR kAm w.heap.size w' (.slice a n c) (usesL o.ps) ∧ Below w.heap.size w w' := by
  obtain ⟨la, lc, rfl, _, _⟩ := hv.l.len
  obtain ⟨pa, pc, rfl, _, _⟩ := hv.p.len
  exact uses_core o.p o.n o.pr o.dl o.ver la _ lc pa pc o.ps w hv.p hz
end Go.Proofs.YtodfmnbfbndkhaaGreatDoor
