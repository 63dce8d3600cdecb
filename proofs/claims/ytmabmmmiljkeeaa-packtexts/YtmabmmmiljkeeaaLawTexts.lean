/-
  THE WALK of PackTexts.
-/
import Derived.Test.YtmabmmmiljkeeaaFix
import Derived.Test.YtmabmmmiljkeeaaRefT
import Derived.Test.YtmabmmmiljkeeaaRoomy
namespace Go.Proofs.Ytmabmmmiljkeeaa
open Go.RowKit

def mk4 : ByteArray := ⟨#[109, 97, 114, 107]⟩
theorem app_two {ops : Array Oper} {rest : List Oper} {o : Oper} {a : Act} {Q : Exit → Act → World → Prop} (hgd : o.guard = none) (s y : Operand)
    (ho : o.op = .call { callee := .builtin .append, args := #[s, y], argTypes := #[22, 22] })
    {B : Nat} {w0 : World} {v : Value} {ts : List ByteArray} (hs : a.eval s = v) (hown : OwnS B w0 v ts) (hB : B ≤ w0.heap.size) (t t' : ByteArray)
    (hy : a.eval y = .slice (some ⟨w0.heap.size, 0, none⟩) 2 2) (hl : (ts.length + 2) * 16 ≤ 140737488355328)
    (h : ∀ v' w', OwnS B w' v' (ts ++ [t, t']) → w0.grownBy w' v.ownBlock → wpList Try.prog ops Q rest (a.put o.dst v') w') :
    wpList Try.prog ops Q (o :: rest) a (w0.alloc (.cells #[.string t, .string t'] 9)) := by
  obtain ⟨i0, hi, hz0, hz1, hz2⟩ := info_parts info_str
  refine wpList_append_own_at _ hgd s y 22 ho B 9 i0 _ 1 16 Try.underlying22 hi hz0 hz1 hz2 rfl (by decide) v ts.length (cellsS ts) hs (World.ownsRow.alloc hown _) ⟨w0.heap.size, 0, none⟩ 2 2 [.string t, .string t'] hy rfl ?_ ?_ (by unfold maxLen; omega) (by omega) (by simp; omega) ?_
  · intro j u hj
    rw [add_plain, Nat.zero_add, World.cell?_alloc_new, ← Array.getElem?_toList]; exact hj
  · intro v hv; simp only [List.mem_cons, List.not_mem_nil, or_false] at hv; rcases hv with rfl | rfl <;> rfl
  · intro v' w' h1 h2 _ _
    refine h v' w' ?_ (grown_alloc h2)
    show w'.ownsRow _ _ _ _ _ _
    have e : cellsS (ts ++ [t, t']) = cellsS ts ++ [.string t, .string t'] := by simp [cellsS]
    rw [e, List.length_append]; exact h1
theorem Strs.take {w : World} {a : Option Addr} {n cap : Nat} {ts us : List ByteArray} (H : Strs w (.slice a n cap) (ts ++ us)) : Strs w (.slice a ts.length cap) ts := by
  obtain ⟨a', cap', e', h1, h2, hc⟩ := H
  simp only [Value.slice.injEq] at e'
  obtain ⟨rfl, rfl, rfl⟩ := e'
  rw [List.length_append] at h1
  refine ⟨_, _, rfl, by omega, h2, fun k hk => ?_⟩
  obtain ⟨b, off, ea, h⟩ := hc k (by rw [List.length_append]; omega)
  refine ⟨b, off, ea, ?_⟩
  rw [h]
  simp only [List.getD, List.getElem?_append_left hk]

set_option maxHeartbeats 8000000 in
set_option maxRecDepth 100000 in
theorem packTexts_walk (v : Value) (ts : List ByteArray) (vb : Value) (d : List UInt8) (w : World) (hv : Strs w v ts) (hts : (∀ t ∈ ts, t.size ≤ 140737488351232) ∧ ts.length ≤ 8796093021952) (hd : Bytes w vb d) (hdl : d.length ≤ 140737488351232) :
    Calls Try.prog 8 #[v, vb] w fun e w' => e = .returned (.bool true) ∧ Below w.heap.size w w' := by
  obtain ⟨a, cap, rfl, hlc, hcm⟩ := hv.len
  obtain ⟨ad, capd, rfl, hdc, hdm⟩ := hd.len
  unfold maxLen at hcm hdm
  have V : Aside (Strs w (.slice a ts.length cap) ts ∧ (∀ t ∈ ts, t.size ≤ 140737488351232) ∧ Bytes w (.slice ad d.length capd) d) := ⟨hv, hts.1, hd⟩
  have hn := hts.2
  clear hv hts hd
  go_enter Try.func8, Try.ntmps8
  go_wp2_with fail
  refine (fixed_any w).mono ?_
  rintro e w1 ⟨rfl, hb⟩
  have B1 : Aside (Below w.heap.size w w1) := hb
  clear hb
  go_wp2_with fail
  refine (ownTexts_any _ ts w1 (V.out.1.below B1.out) hn).mono ?_
  rintro e w2 ⟨v2, rfl, ho, hb⟩
  have B2 : Aside (Below w.heap.size w w2) := B1.out.trans (hb.mono B1.out.size)
  have O : Hid (OwnS w1.heap.size w2 v2 ts) := ho
  have S : Hid (w1.heap.size ≤ w2.heap.size) := hb.size
  have L : Hid ((ts.length + 2) * 16 ≤ 140737488355328) := by show _ ≤ _; omega
  clear ho hb
  go_wp2_with (at_builtin; refine app_two rfl _ _ rfl rfl O.out S.out mk4 mk4 rfl L.out ?_)
  intro v3 w3 h1 h2
  have b3 : Below w1.heap.size w2 w3 := (Below.refl _ _).grown h2 S.out (fun k hk => (O.out.lt k hk).1)
  have B3 : Aside (OwnS w1.heap.size w3 v3 (ts ++ [mk4, mk4]) ∧ Below w.heap.size w w3) := ⟨h1, B2.out.trans (b3.mono B1.out.size)⟩
  clear h1 h2 O S L b3
  obtain ⟨a3, cap3, rfl, hc3, hm3⟩ := B3.out.1.strs.len
  obtain ⟨N, hN⟩ : ∃ N, N = (ts ++ [mk4, mk4]).length := ⟨_, rfl⟩
  have hN' : N = ts.length + 2 := by rw [hN, List.length_append]; rfl
  rw [← hN] at B3 hc3 ⊢
  have hN1 : ts.length + 2 ≤ N := by omega
  have hN2 : N < 140737488355328 := by omega
  unfold maxLen at hm3
  have NE : Aside (N = ts.length + 2) := hN'
  clear hN hN'
  have T3 : Aside (Strs w3 (.slice a3 ts.length cap3) ts) := B3.out.1.strs.take
  go_wp2_with fail
  refine (texts_any _ ts w3 T3.out (fun t ht => by have := V.out.2.1 t ht; omega)).mono ?_
  rintro e w4 ⟨v4, rfl, ho, hb⟩
  have B4 : Aside (Own w3.heap.size w4 v4 (txs ts).out ∧ Below w3.heap.size w3 w4 ∧ Below w.heap.size w w4) := ⟨ho, hb, B3.out.2.trans (hb.mono B3.out.2.size)⟩
  clear ho hb
  go_wp2_with fail
  refine (ownTexts_any _ ts w4 (V.out.1.below B4.out.2.2) hn).mono ?_
  rintro e w5 ⟨v5, rfl, ho, hb⟩
  have B5 : Aside (Strs w5 v5 ts ∧ Below w4.heap.size w4 w5 ∧ Below w.heap.size w w5) := ⟨ho.strs, hb, B4.out.2.2.trans (hb.mono B4.out.2.2.size)⟩
  clear ho hb
  go_wp2_with fail
  refine (xtexts_any _ ts w5 B5.out.1 (fun t ht => by have := V.out.2.1 t ht; omega)).mono ?_
  rintro e w6 ⟨v6, rfl, ho, hb⟩
  have B6 : Aside (Own w5.heap.size w6 v6 (txs ts).out ∧ Own w3.heap.size w6 v4 (txs ts).out ∧ OwnS w1.heap.size w6 (.slice a3 N cap3) (ts ++ [mk4, mk4]) ∧ Below w.heap.size w w6) :=
    ⟨ho, (B4.out.1.below B5.out.2.1).below hb, ((B3.out.1.below B4.out.2.1).below B5.out.2.1).below hb, B5.out.2.2.trans (hb.mono B5.out.2.2.size)⟩
  clear ho hb
  go_wp2_with fail
  refine (same_any _ _ _ _ w6 B6.out.2.1.bytes B6.out.1.bytes).mono ?_
  rintro e w6 ⟨rfl, rfl⟩
  rw [decide_eq_true rfl]
  go_wp2_with fail
  refine (sameTexts_yes _ _ ts w6 B6.out.2.2.1.strs.take (V.out.1.below B6.out.2.2.2)).mono ?_
  rintro e w7 ⟨rfl, hb⟩
  have B7 : Aside (OwnS w1.heap.size w7 (.slice a3 N cap3) (ts ++ [mk4, mk4]) ∧ Below w.heap.size w w7) := ⟨B6.out.2.2.1.below hb, B6.out.2.2.2.trans (hb.mono B6.out.2.2.2.size)⟩
  clear hb
  obtain ⟨b1, off1, rfl, m1⟩ := B7.out.1.strs.at ts.length (by simp)
  obtain ⟨b2, off2, e2, m2⟩ := B7.out.1.strs.at (ts.length + 1) (by simp)
  simp only [Option.some.injEq, Addr.mk.injEq, and_true] at e2
  obtain ⟨rfl, rfl⟩ := e2
  have g1 : (ts ++ [mk4, mk4]).getD ts.length ⟨#[]⟩ = ⟨#[109, 97, 114, 107]⟩ := by simp [List.getD, mk4]
  have g2 : (ts ++ [mk4, mk4]).getD (ts.length + 1) ⟨#[]⟩ = ⟨#[109, 97, 114, 107]⟩ := by simp [List.getD, mk4]
  rw [g1] at m1
  rw [g2] at m2
  clear g1 g2
  go_wp2_with fail
  clear m1 m2
  refine (roomy_any _ d w7 (V.out.2.2.below B7.out.2) hdl).mono ?_
  rintro e w8 ⟨v8, rfl, ho, hb⟩
  obtain ⟨M, hM⟩ : ∃ M, M = (d ++ marks).length := ⟨_, rfl⟩
  have hM' : M = d.length + 64 := by rw [hM, List.length_append]; unfold marks; rw [List.length_replicate]
  obtain ⟨a8, cap8, rfl, hc8, hm8⟩ := ho.bytes.len
  rw [← hM] at ho hc8 ⊢
  have hM1 : d.length ≤ M := by omega
  have hM2 : M < 140737488355328 := by omega
  unfold maxLen at hm8
  have B8 : Aside (Own w7.heap.size w8 (.slice a8 M cap8) (d ++ marks) ∧ Below w.heap.size w w8) := ⟨ho, B7.out.2.trans (hb.mono B7.out.2.size)⟩
  have T8 : Aside (Bytes w8 (.slice a8 d.length cap8) d) := by
    have h := B8.out.1.bytes.take' d.length hM1
    rw [List.take_append_of_le_length (Nat.le_refl _), List.take_of_length_le (Nat.le_refl _)] at h
    exact h
  clear ho hb hM hM'
  go_wp2_with fail
  refine (untexts_any _ d w8 T8.out).mono ?_
  rintro e w9 ⟨v9, rfl, ho, hb⟩
  have B9 : Aside (OwnS w8.heap.size w9 v9 (untT d) ∧ Own w7.heap.size w9 (.slice a8 M cap8) (d ++ marks) ∧ Below w.heap.size w w9) := ⟨ho, B8.out.1.below hb, B8.out.2.trans (hb.mono B8.out.2.size)⟩
  clear ho hb
  go_wp2_with fail
  refine (own_any _ d w9 (V.out.2.2.below B9.out.2.2) (by omega)).mono ?_
  rintro e w10 ⟨v10, rfl, ho, hb⟩
  have B10 : Aside (Bytes w10 v10 d ∧ OwnS w8.heap.size w10 v9 (untT d) ∧ Own w7.heap.size w10 (.slice a8 M cap8) (d ++ marks) ∧ Below w.heap.size w w10) := ⟨ho.bytes, B9.out.1.below hb, B9.out.2.1.below hb, B9.out.2.2.trans (hb.mono B9.out.2.2.size)⟩
  clear ho hb
  go_wp2_with fail
  refine (yuntexts_any _ d w10 B10.out.1).mono ?_
  rintro e w11 ⟨v11, rfl, ho, hb⟩
  have B11 : Aside (OwnS w10.heap.size w11 v11 (untT d) ∧ OwnS w8.heap.size w11 v9 (untT d) ∧ Own w7.heap.size w11 (.slice a8 M cap8) (d ++ marks) ∧ Below w.heap.size w w11) := ⟨ho, B10.out.2.1.below hb, B10.out.2.2.1.below hb, B10.out.2.2.2.trans (hb.mono B10.out.2.2.2.size)⟩
  clear ho hb
  go_wp2_with fail
  refine (sameTexts_yes _ _ (untT d) w11 B11.out.2.1.strs B11.out.1.strs).mono ?_
  rintro e w12 ⟨rfl, hb⟩
  have B12 : Aside (Own w7.heap.size w12 (.slice a8 M cap8) (d ++ marks) ∧ Below w.heap.size w w12) := ⟨B11.out.2.2.1.below hb, B11.out.2.2.2.trans (hb.mono B11.out.2.2.2.size)⟩
  clear hb
  go_wp2_with fail
  refine (roomy_any _ d w12 (V.out.2.2.below B12.out.2) hdl).mono ?_
  rintro e w13 ⟨v13, rfl, ho, hb⟩
  have B13 : Aside (Own w12.heap.size w13 v13 (d ++ marks) ∧ Own w7.heap.size w13 (.slice a8 M cap8) (d ++ marks) ∧ Below w.heap.size w w13) := ⟨ho, B12.out.1.below hb, B12.out.2.trans (hb.mono B12.out.2.size)⟩
  clear ho hb
  go_wp2_with fail
  refine (same_any _ _ _ _ w13 B13.out.2.1.bytes B13.out.1.bytes).mono ?_
  rintro e w13 ⟨rfl, rfl⟩
  rw [decide_eq_true rfl]
  go_wp2_with fail
  go_ret
  exact ⟨rfl, B13.out.2.2⟩
end Go.Proofs.Ytmabmmmiljkeeaa
