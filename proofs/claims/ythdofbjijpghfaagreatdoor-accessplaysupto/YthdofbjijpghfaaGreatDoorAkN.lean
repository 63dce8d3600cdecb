/-
  What both answer is one. (Pure.)
-/
import Derived.Test.YthdofbjijpghfaaGreatDoorAkM
import Derived.Test.YthdofbjijpghfaaGreatDoorAkL
namespace Go.Proofs.YthdofbjijpghfaaGreatDoor
open Go.RowKit Go.Sort
namespace Ac
variable {D D' : DataW Unit} {M M' : List Bv} {u path : ByteArray} {v : Int}
/-- What the document's Set leaves. -/
def StP (M : List Bv) (x : Bd) (k : Int) (M' : List Bv) : Prop :=
  (bdS x = false ∧ k = 130 ∧ M' = M) ∨ (bdS x = true ∧ k = 0 ∧ ∃ (hv : (L.splitO x.p).isSome = true) (j : Nat), j < M.length ∧ (M.getD j Bv.z).1.p = x.p ∧ (M.getD j Bv.z).1.n = x.n ∧ M' = M.set j (Bv.mk x hv)) ∨ (bdS x = true ∧ ¬ hasV M x.p x.n ∧ 16 ≤ cntP x.p M ∧ k = 194 ∧ M' = M) ∨ (bdS x = true ∧ ¬ hasV M x.p x.n ∧ cntP x.p M < 16 ∧ k = 0 ∧ ∃ hv : (L.splitO x.p).isSome = true, M' = insB (Bv.mk x hv) M)
theorem set_rel {w : World} {t b n : Nat} (h : Dm D M) (H : Ta w t b n D) {x : Bd} {r k : Int} (hs : Se D x r D') (hp : StP M x k M') : r = k ∧ Dm D' M' := by
  have code := bd_code x
  rcases hp with ⟨a, rfl, rfl⟩ | ⟨a, rfl, hv, j, hj, e1, e2, rfl⟩ | ⟨a, no, c, rfl, rfl⟩ | ⟨a, no, c, rfl, hv, rfl⟩
  · have h0 : (bdR x).2 ≠ 0 := fun e => by rw [code.1 e] at a; exact absurd a (by decide)
    rcases hs with ⟨_, q, _⟩ | ⟨_, q, _⟩ | ⟨rfl, _, rfl⟩
    · exact absurd q h0
    · exact absurd q h0
    · exact ⟨rfl, h⟩
  · have h0 := code.2 a
    have hM := bd_max h0
    have hh : Maps.has D (kl x.p x.n) = true := (h.has H hM.1 hM.2).2 ⟨_, getD_inB hj, e1, e2⟩
    rcases hs with ⟨rfl, _, rfl, _⟩ | ⟨_, _, _, q, _⟩ | ⟨_, q, _⟩
    · exact ⟨rfl, h.put_old H.tb.m.isMap hv hM.1 hM.2 hj e1 e2⟩
    · rw [hh] at q; exact absurd q (by decide)
    · exact absurd h0 q
  · have h0 := code.2 a
    have hM := bd_max h0
    have hh : ¬ Maps.has D (kl x.p x.n) = true := fun e => no ((h.has H hM.1 hM.2).1 e)
    rcases hs with ⟨_, _, _, q | ⟨_, k, hk, hk2⟩⟩ | ⟨rfl, _, rfl, _⟩ | ⟨_, q, _⟩
    · exact absurd q hh
    · have := hk.one (h.cn x.p)
      omega
    · exact ⟨rfl, h⟩
    · exact absurd h0 q
  · have h0 := code.2 a
    have hM := bd_max h0
    rcases hs with ⟨rfl, _, rfl, _⟩ | ⟨_, _, _, _, k, hk, hk2⟩ | ⟨_, q, _⟩
    · exact ⟨rfl, h.put_new H.tb.m.isMap hv hM.1 hM.2 no⟩
    · have := hk.one (h.cn x.p)
      omega
    · exact absurd h0 q
theorem drop_rel {w : World} {t b n : Nat} (h : Dm D M) (H : Ta w t b n D) {p q : ByteArray} (hp : p.size ≤ maxLen) (hq : q.size ≤ maxLen) {r : Int} (hd : Dr D p q r D') :
    (L.splitE p ≠ 0 → r = 41 ∧ Dm D' M) ∧ (L.splitE p = 0 → r = (if goN M p q false = 0 then 191 else 0) ∧ Dm D' (M.filter (kpB p q false))) := by
  have hh := h.has H hp hq
  have s41 : L.splitE p ≠ 0 → L.splitE p = 41 := fun e => by unfold L.splitE at e ⊢; split <;> simp_all
  refine ⟨fun e => ?_, fun e => ?_⟩
  · rcases hd with ⟨_, q, _⟩ | ⟨_, q, _⟩ | ⟨_, rfl, rfl⟩
    · exact absurd q e
    · exact absurd q e
    · exact ⟨s41 e, h⟩
  · rcases hd with ⟨rfl, _, c, rfl⟩ | ⟨rfl, _, c, rfl⟩ | ⟨c, _⟩
    · refine ⟨by rw [if_neg (fun z => (go_drop M p q).1 z (hh.1 c))], h.filt _ (fun x hx => ((InD.del hp hq).1 hx).1) fun y hy => ?_⟩
      rw [InD.del hp hq, kp_drop]
      exact ⟨fun z => z.2, fun z => ⟨(h.mem y).1 hy, z⟩⟩
    · have no : ¬ hasV M p q := fun z => by rw [hh.2 z] at c; exact absurd c (by decide)
      refine ⟨by rw [if_pos ((go_drop M p q).2 no)], ?_⟩
      rw [filt_all M p q no]
      exact h
    · exact absurd e c
theorem leave_rel (h : Dm D M) {p : ByteArray} (q : ByteArray) {k : Nat} (hl : Lv D p D' (fun _ => false) k) : (k : Int) = goN M p q true ∧ Dm D' (M.filter (kpB p q true)) := by
  refine ⟨?_, h.filt _ (fun x hx => ((hl.m x).1 hx).1) fun y hy => ?_⟩
  · rw [go_leave]
    obtain ⟨ll, hc, e⟩ := hl.c
    have c : Cn D p k := ⟨ll, hc.d, fun x => by rw [hc.m x]; simp, e⟩
    rw [c.one (h.cn p)]
  · rw [hl.m, kp_leave]
    exact ⟨fun z => z.2.elim id (fun c => absurd c (by decide)), fun z => ⟨(h.mem y).1 hy, Or.inl z⟩⟩
theorem line_one {p q : ByteArray} (hp : p ∈ lineP path) (hq : q ∈ lineP path) (e : p.size = q.size) : p = q := by
  unfold lineP at hp hq
  cases hs : L.splitO path with
  | none => rw [hs] at hp; simp at hp
  | some ts =>
    obtain ⟨_, hg⟩ := L.splitO_some hs
    rw [hs] at hp hq
    obtain ⟨j, hj, rfl⟩ := (mem_line ts _).1 hp
    obtain ⟨k, hk, rfl⟩ := (mem_line ts _).1 hq
    rcases Nat.lt_trichotomy j k with c | c | c
    · have := line_size hg c hk; omega
    · rw [c]
    · have := line_size hg c hj; omega
theorem getD_of_mem {y : Bv} (h : y ∈ M) : ∃ k, k < M.length ∧ M.getD k Bv.z = y := by
  obtain ⟨k, hk, e⟩ := List.getElem_of_mem h
  exact ⟨k, hk, by rw [List.getD_eq_getElem?_getD, List.getElem?_eq_getElem hk, e]; rfl⟩
theorem Dm.lt (h : Dm D M) {j k : Nat} (hjk : j < k) (hk : k < M.length) : ltOf cV (M.getD j Bv.z) (M.getD k Bv.z) = true := by
  have := List.pairwise_iff_getElem.1 h.rises j k (by omega) hk hjk
  rw [List.getD_eq_getElem?_getD, List.getElem?_eq_getElem (by omega), List.getD_eq_getElem?_getD, List.getElem?_eq_getElem hk]
  exact this
theorem why_rel (h : Dm D M) (hi : Iv D) {r q : Bool × Bd} (hn : Ny D u v path r) (hw : Wq M u v path q) : r = q := by
  have ind : ∀ {k : Nat}, k < M.length → InD D (M.getD k Bv.z).1 := fun hk => (h.mem _).1 (getD_inB hk)
  obtain ⟨r1, r2⟩ := r
  obtain ⟨b, hb, hq⟩ := hw
  rcases hb with ⟨rfl, h0⟩ | ⟨j, rfl, hj, hg, hm⟩
  · rcases hq with ⟨_, rfl⟩ | ⟨j, e, _⟩
    · cases r1 with
      | false => exact Prod.ext rfl (hn.n rfl).1
      | true =>
        obtain ⟨⟨a1, a2, a3⟩, _⟩ := hn.y rfl
        obtain ⟨y, hy, e⟩ := (h.m _).2 a1
        obtain ⟨k, hk, e2⟩ := getD_of_mem hy
        have c := h0 k hk
        rw [e2, e, (giv_iff hi a1).2 ⟨a2, a3⟩] at c
        exact absurd c (by decide)
    · omega
  · rcases hq with ⟨e, _⟩ | ⟨j', e, rfl⟩
    · omega
    · have ej : j' = j := by omega
      subst ej
      have gj := (giv_iff hi (ind hj)).1 hg
      cases r1 with
      | false => exact absurd gj.2 ((hn.n rfl).2 _ (ind hj) gj.1)
      | true =>
        obtain ⟨⟨a1, a2, a3⟩, far⟩ := hn.y rfl
        obtain ⟨y, hy, e⟩ := (h.m _).2 a1
        obtain ⟨k, hk, e2⟩ := getD_of_mem hy
        have ek : (M.getD k Bv.z).1 = r2 := by rw [e2, e]
        have f := far _ (ind hj) gj.1 gj.2
        have m1 := hm k hk (by rw [ek]; exact (giv_iff hi a1).2 ⟨a2, a3⟩)
        rw [ek] at m1
        have sz : (M.getD j' Bv.z).1.p.size = r2.p.size := by
          have : ¬ r2.p.size < (M.getD j' Bv.z).1.p.size := fun c => f (Or.inl c)
          omega
        have kj : ¬ k < j' := fun c => by have := m1.2 c; omega
        rcases Nat.lt_or_ge j' k with c | c
        · have lt := h.lt c hk
          rw [lt_cV] at lt
          have ep : (M.getD j' Bv.z).1.p = r2.p := line_one gj.2 a3 sz
          have ekk : (key (M.getD j' Bv.z)).1 = (key (M.getD k Bv.z)).1 := by unfold key; rw [ek, ep]
          rcases of_decide_eq_true lt with l | l
          · rw [ekk] at l; exact absurd l (List.lt_irrefl _)
          · refine absurd (Or.inr ⟨sz, ?_⟩) f
            have := l.2
            unfold key at this
            rw [ek] at this
            exact this
        · rw [← ek, show k = j' by omega]
theorem may_rel (h : Dm D M) (hi : Iv D) {r b : Bool} (hr : r = true ↔ MayP D u v path) (hm : Mq M u v path b) : r = b := by
  have vb : vbB v = true ↔ 0 ≤ v ∧ v ≤ 3 := by unfold vbB; simp
  have ge : (u.toList == [114, 111, 111, 116]) = true ↔ u = rootT := by
    rw [show ([114, 111, 111, 116] : List UInt8) = rootT.toList by rw [ByteArray.toList_eq]; rfl]
    exact teq_iff u rootT
  have giv : ∀ x, InD D x → isB x.s x.v u v = true → x.p ∈ lineP path → 0 ≤ v ∧ v ≤ 3 ∧ L.splitE path = 0 := fun x hx hb hl => by
    have q : vbB v = true := by
      unfold isB at hb
      simp only [Bool.and_eq_true] at hb
      exact hb.2.1
    refine ⟨(vb.1 q).1, (vb.1 q).2, ?_⟩
    have z := (under_path ((line_under path x.p).1 hl)).1
    unfold L.splitE
    rw [if_pos z]
  rw [Bool.eq_iff_iff, hr]
  rcases hm with ⟨no, rfl⟩ | ⟨yes, ⟨q1, q2⟩, hw, rfl⟩
  · refine ⟨fun z => ?_, fun z => absurd z (by decide)⟩
    rcases z with ⟨_, a, b⟩ | ⟨_, x, a, b, c⟩
    · exact absurd ⟨(vb.1 a).1, (vb.1 a).2, b⟩ no
    · exact absurd (giv x a b c) no
  · have one : q1 = true ↔ ∃ x, InD D x ∧ isB x.s x.v u v = true ∧ x.p ∈ lineP path := by
      obtain ⟨b, hb, hq⟩ := hw
      rcases hb with ⟨rfl, h0⟩ | ⟨j, rfl, hj, hg, hm⟩
      · rcases hq with ⟨_, e⟩ | ⟨j, e, _⟩
        · have e1 : q1 = false := congrArg Prod.fst e
          rw [e1]
          refine ⟨fun z => absurd z (by decide), ?_⟩
          rintro ⟨x, a1, a2, a3⟩
          obtain ⟨y, hy, e⟩ := (h.m _).2 a1
          obtain ⟨k, hk, e2⟩ := getD_of_mem hy
          have c := h0 k hk
          rw [e2, e, (giv_iff hi a1).2 ⟨a2, a3⟩] at c
          exact absurd c (by decide)
        · omega
      · rcases hq with ⟨e, _⟩ | ⟨j', e, e3⟩
        · omega
        · have e1 : q1 = true := congrArg Prod.fst e3
          have ind : InD D (M.getD j Bv.z).1 := (h.mem _).1 (getD_inB hj)
          have gj := (giv_iff hi ind).1 hg
          exact ⟨fun _ => ⟨_, ind, gj.1, gj.2⟩, fun _ => e1⟩
    rw [Bool.or_eq_true, one, ge]
    constructor
    · rintro (⟨a, _, _⟩ | ⟨_, z⟩)
      · exact Or.inr a
      · exact Or.inl z
    · intro z
      by_cases hu : u = rootT
      · exact Or.inl ⟨hu, vb.2 ⟨yes.1, yes.2.1⟩, yes.2.2⟩
      · exact Or.inr ⟨hu, z.resolve_right hu⟩
end Ac
end Go.Proofs.YthdofbjijpghfaaGreatDoor
