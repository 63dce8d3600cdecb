/-
  THE TWO DEVICES ARE ONE: what both answer, call by call.
-/
import Derived.Test.YtojemioophlplaaRfH
import Derived.Test.YtojemioophlplaaRfI
import Derived.Test.YtojemioophlplaaRfJ
import Derived.Test.YtojemioophlplaaWrB
namespace Go.Proofs.Ytojemioophlplaa
open Go.RowKit Go.Maps
namespace Rf
def tw (y : Ly) : Wt := (y.b, y.l)
/-- The same device. -/
structure Rel (s : DS) (r : RD) : Prop where
  n : r.n = s.n
  bl : r.base = [] ∨ r.base.length = 512 * r.n
  ll : ∀ y ∈ r.laid, y.b < r.n ∧ y.a + y.l.length ≤ 512
  med : medR r = s.med
  cache : r.cache.map tw = s.cache
  c0 : ∀ y ∈ r.cache, y.b < r.n ∧ y.a = 0 ∧ y.l.length = 512
  armed : r.armed = s.armed
  left : s.armed = true → r.left = s.left
  off : r.off = s.down
  cr : r.cr = s.cr
  cw : r.cw = s.cw
  cf : r.cf = s.cf
variable {s : DS} {r : RD}
theorem raw_splice (m : List UInt8) (b c a : Nat) (p : List UInt8) (hp : a + p.length ≤ 512) (h : 512 * b + 512 ≤ m.length) : raw (splice m (512 * b + a) p) c = if b = c then splice (raw m c) a p else raw m c := by
  apply List.ext_getElem?
  intro k
  by_cases hk : k < 512
  · rw [raw_at _ _ _ hk, splice_at _ _ _ (by omega)]
    by_cases e : b = c
    · subst e
      rw [if_pos rfl, splice_at _ _ _ (by rw [raw_length _ _ h]; omega)]
      by_cases h2 : a ≤ k ∧ k < a + p.length
      · rw [if_pos (by omega), if_pos h2]
        congr 1
        omega
      · rw [if_neg (by omega), if_neg h2, raw_at _ _ _ hk]
    · rw [if_neg (by omega), if_neg e, raw_at _ _ _ hk]
  · have n1 : (raw (splice m (512 * b + a) p) c)[k]? = none := by unfold raw; exact List.getElem?_eq_none (by rw [List.length_take]; omega)
    have n2 : (raw m c)[k]? = none := by unfold raw; exact List.getElem?_eq_none (by rw [List.length_take]; omega)
    rw [n1]
    by_cases e : b = c
    · subst e
      rw [if_pos rfl, List.getElem?_eq_none (by rw [length_splice _ _ _ (by rw [raw_length _ _ h]; omega), raw_length _ _ h]; omega)]
    · rw [if_neg e, n2]
theorem raw_layL {n : Nat} (c : Nat) (L : List Ly) : ∀ m : List UInt8, m.length = 512 * n → (∀ y ∈ L, y.b < n ∧ y.a + y.l.length ≤ 512) → raw (layL m L) c = playedL (raw m c) L c := by
  induction L with
  | nil => intro m _ _; rfl
  | cons y L ih =>
    intro m h hy
    have h1 := hy y (by simp)
    have hl : (splice m (512 * y.b + y.a) y.l).length = 512 * n := by rw [length_splice _ _ _ (by omega)]; exact h
    have e := ih _ hl (fun z hz => hy z (by simp [hz]))
    show raw (layL (splice m (512 * y.b + y.a) y.l) L) c = playedL (if y.b = c then splice (raw m c) y.a y.l else raw m c) L c
    rw [e, raw_splice _ _ _ _ _ h1.2 (by omega)]
theorem R0_base (b : Nat) (hb : b < r.n) : R0 r b = raw (base0 r) b := by
  unfold R0 base0
  split
  · apply List.ext_getElem?
    intro k
    by_cases hk : k < 512
    · rw [raw_at _ _ _ hk, List.getElem?_replicate, List.getElem?_replicate, if_pos hk, if_pos (by omega)]
    · rw [List.getElem?_eq_none (by rw [List.length_replicate]; omega)]
      unfold raw
      rw [List.getElem?_eq_none (by rw [List.length_take]; omega)]
  · rfl
theorem Rel.raw (h : Rel s r) (b : Nat) (hb : b < r.n) : rawR r b = Go.Proofs.Ytojemioophlplaa.raw s.med b := by
  unfold rawR
  rw [R0_base b hb, ← h.med, medR, raw_layL b r.laid _ (base0_length h.bl) h.ll]
theorem has_same (h : Rel s r) (i : Int) : hasR r i = hasB s i := by unfold hasR hasB; rw [h.n]
theorem snoc_ind {α : Type} {P : List α → Prop} (h0 : P []) (h1 : ∀ l x, P l → P (l ++ [x])) (l : List α) : P l := by
  have : ∀ k, k ≤ l.length → P (l.take k) := fun k => by
    induction k with
    | zero => intro _; simpa using h0
    | succ k ih =>
      intro hk
      have e : l.take (k + 1) = l.take k ++ [l[k]] := by rw [List.take_add_one, List.getElem?_eq_getElem (by omega)]; rfl
      rw [e]
      exact h1 _ _ (ih (by omega))
  simpa using this l.length (Nat.le_refl _)
theorem played_cache (p : List UInt8) (hp : p.length = 512) (b : Nat) (C : List Ly) : (∀ y ∈ C, y.a = 0 ∧ y.l.length = 512) → playedL p C b = match lastIx b (C.map tw) 0 with
    | some i => ((C.map tw).getD i (0, [])).2
    | none => p := by
  refine snoc_ind (P := fun C => (∀ y ∈ C, y.a = 0 ∧ y.l.length = 512) → playedL p C b = match lastIx b (C.map tw) 0 with
    | some i => ((C.map tw).getD i (0, [])).2
    | none => p) (fun _ => rfl) (fun C y ih hy => ?_) C
  have h0 := hy y (by simp)
  have hC : ∀ z ∈ C, z.a = 0 ∧ z.l.length = 512 := fun z hz => hy z (by simp [hz])
  have e := ih hC
  have pl : (playedL p C b).length = 512 := played_length _ _ _ hp (fun z hz => by have := hC z hz; omega)
  rw [played_snoc, List.map_append, List.map_cons, List.map_nil, lastIx_snoc]
  by_cases hb : y.b = b
  · rw [if_pos hb, if_pos (show (tw y).1 = b from hb)]
    simp only [Nat.zero_add]
    rw [List.getD_eq_getElem?_getD, List.getElem?_append_right (Nat.le_refl _), Nat.sub_self]
    show splice (playedL p C b) y.a y.l = y.l
    rw [h0.1]
    exact splice_all _ _ (by rw [pl, h0.2])
  · rw [if_neg hb, if_neg (show ¬ (tw y).1 = b from hb), e]
    cases hl : lastIx b (C.map tw) 0 with
    | none => rfl
    | some i =>
      have := (lastIx_lt b _ 0 i hl).2.1
      simp only
      rw [List.getD_eq_getElem?_getD, List.getD_eq_getElem?_getD, List.getElem?_append_left (by omega)]
theorem Rel.rd (h : Rel s r) (b : Nat) (hb : b < r.n) : rdR r b = rdB s b := by
  have hl : (rawR r b).length = 512 := played_length _ _ _ (R0_length h.bl b hb) (fun y hy => (h.ll y hy).2)
  unfold rdR rdB
  rw [played_cache _ hl b r.cache (fun y hy => (h.c0 y hy).2), h.cache, h.raw b hb]
  cases lastIx b s.cache 0 <;> rfl
theorem read_same (h : Rel s r) (i : Int) : (rrd r i).2 = (rdD s i).2 ∧ Rel (rdD s i).1 (rrd r i).1 := by
  unfold rrd rdD
  rw [has_same h]
  by_cases h1 : hasB s i = false
  · rw [if_pos h1, if_pos h1]; exact ⟨rfl, h⟩
  · rw [if_neg h1, if_neg h1, h.off]
    by_cases h2 : s.down = true
    · rw [if_pos h2, if_pos h2]; exact ⟨rfl, h⟩
    · rw [if_neg h2, if_neg h2]
      have hb : i.toNat < r.n := by
        have : hasR r i = true := by rw [has_same h]; simpa using h1
        obtain ⟨k, rfl, hk⟩ := hasR_nat this
        simpa using hk
      exact ⟨by simp only [h.rd _ hb], h.n, h.bl, h.ll, h.med, h.cache, h.c0, h.armed, h.left, rfl, by show up r.cr = up s.cr; rw [h.cr], h.cw, h.cf⟩
theorem raw_same (h : Rel s r) (i : Int) : rawQ r i = rawD s i := by
  unfold rawQ rawD
  rw [has_same h]
  by_cases h1 : hasB s i = false
  · rw [if_pos h1, if_pos h1]
  · rw [if_neg h1, if_neg h1]
    have hb : i.toNat < r.n := by
      have : hasR r i = true := by rw [has_same h]; simpa using h1
      obtain ⟨k, rfl, hk⟩ := hasR_nat this
      simpa using hk
    rw [h.raw _ hb]
theorem act_rel (h : Rel s r) : ((actD s).2 = if (actR r).2 = true then 0 else 6) ∧ Rel (actD s).1 (actR r).1 := by
  have e1 := h.off
  have e2 := h.armed
  by_cases ha : s.armed = true
  · have el := h.left ha
    by_cases hl : s.left = 0
    · have d : actD s = ({ s with down := true }, 6) := by unfold actD; rw [if_pos (by simp [ha, hl])]
      rw [d]
      by_cases ho : s.down = true
      · have q : actR r = (r, false) := by unfold actR; rw [if_pos (by rw [e1]; exact ho)]
        rw [q]
        exact ⟨rfl, h.n, h.bl, h.ll, h.med, h.cache, h.c0, h.armed, h.left, by rw [e1]; exact ho, h.cr, h.cw, h.cf⟩
      · have q : actR r = ({ r with off := true }, false) := by unfold actR; rw [if_neg (by rw [e1]; exact ho), if_pos (by rw [e2, ha, el, hl]; rfl)]
        rw [q]
        exact ⟨rfl, h.n, h.bl, h.ll, h.med, h.cache, h.c0, h.armed, h.left, rfl, h.cr, h.cw, h.cf⟩
    · by_cases ho : s.down = true
      · have d : actD s = (s, 6) := by unfold actD; rw [if_neg (by simp [hl]), if_pos ho]
        have q : actR r = (r, false) := by unfold actR; rw [if_pos (by rw [e1]; exact ho)]
        rw [d, q]
        exact ⟨rfl, h⟩
      · have d : actD s = ({ s with left := wrap64 (s.left - 1) }, 0) := by unfold actD; rw [if_neg (by simp [hl]), if_neg ho, if_pos ha]
        have q : actR r = ({ r with left := wrap64 (r.left - 1) }, true) := by unfold actR; rw [if_neg (by rw [e1]; exact ho), if_neg (by rw [el]; simp [hl]), if_pos (by rw [e2]; exact ha)]
        rw [d, q]
        exact ⟨rfl, h.n, h.bl, h.ll, h.med, h.cache, h.c0, h.armed, fun _ => by show wrap64 (r.left - 1) = wrap64 (s.left - 1); rw [el], h.off, h.cr, h.cw, h.cf⟩
  · have ha' : r.armed = false := by rw [e2]; simpa using ha
    have ha2 : s.armed = false := by simpa using ha
    by_cases ho : s.down = true
    · have d : actD s = (s, 6) := by unfold actD; rw [if_neg (by simp [ha2]), if_pos ho]
      have q : actR r = (r, false) := by unfold actR; rw [if_pos (by rw [e1]; exact ho)]
      rw [d, q]
      exact ⟨rfl, h⟩
    · have d : actD s = (s, 0) := by unfold actD; rw [if_neg (by simp [ha2]), if_neg ho, if_neg ha]
      have q : actR r = (r, true) := by unfold actR; rw [if_neg (by rw [e1]; exact ho), if_neg (by simp [ha']), if_neg (by simp [ha'])]
      rw [d, q]
      exact ⟨rfl, h⟩
theorem write_same (h : Rel s r) (i : Int) (p : List UInt8) (y : Ly) (h1 : y.b = i.toNat) (h2 : y.a = 0) (h3 : y.l = p) : (wrR r i p y).2 = (wrE s i p).2 ∧ Rel (wrE s i p).1 (wrR r i p y).1 := by
  unfold wrR wrE
  rw [has_same h]
  by_cases hb : hasB s i = false
  · rw [if_pos hb, if_pos hb]; exact ⟨rfl, h⟩
  · rw [if_neg hb, if_neg hb]
    by_cases h5 : p.length ≠ 512
    · rw [if_pos h5, if_pos h5]; exact ⟨rfl, h⟩
    · rw [if_neg h5, if_neg h5]
      obtain ⟨e, hr⟩ := act_rel h
      by_cases ha : (actR r).2 = true
      · rw [if_pos ha] at e
        rw [if_neg (by rw [ha]; exact Bool.noConfusion), if_neg (by rw [e]; simp)]
        have k1 := act_keeps r
        have k2 := act_same s
        have hbn : y.b < r.n := by
          have : hasR r i = true := by rw [has_same h]; simpa using hb
          obtain ⟨k, rfl, hk⟩ := hasR_nat this
          rw [h1]
          simpa using hk
        have h5' : p.length = 512 := by omega
        refine ⟨rfl, hr.n, hr.bl, hr.ll, hr.med, ?_, ?_, hr.armed, hr.left, hr.off, hr.cr, ?_, hr.cf⟩
        · show (r.cache ++ [y]).map tw = (actD s).1.cache ++ [(i.toNat, p)]
          rw [List.map_append, h.cache, k2.1]
          show _ ++ [(y.b, y.l)] = _
          rw [h1, h3]
        · intro z hz
          have hz' : z ∈ r.cache ++ [y] := hz
          rcases List.mem_append.1 hz' with q | q
          · have := h.c0 z q
            exact ⟨by show z.b < (actR r).1.n; rw [k1.1]; exact this.1, this.2⟩
          · rw [List.mem_singleton.1 q]
            exact ⟨by show y.b < (actR r).1.n; rw [k1.1]; exact hbn, h2, by rw [h3]; exact h5'⟩
        · show up r.cw = up (actD s).1.cw
          rw [k2.2.2.2.2.2, h.cw]
      · rw [if_neg ha] at e
        have ha' : (actR r).2 = false := by simpa using ha
        rw [if_pos ha', if_pos (by rw [e]; simp)]
        exact ⟨e.symm, hr⟩
theorem sets_layL {n : Nat} (f : Nat → Int × Int) : ∀ (C : List Ly) (k : Nat) (m : List UInt8), (∀ y ∈ C, y.b < n ∧ y.a = 0 ∧ y.l.length = 512) → m.length = 512 * n → sets f k (C.map tw) m = layL m (crL f k C)
  | [], _, _, _, _ => rfl
  | y :: C, k, m, h, hm => by
    have h0 := h y (by simp)
    have hC : ∀ z ∈ C, z.b < n ∧ z.a = 0 ∧ z.l.length = 512 := fun z hz => h z (by simp [hz])
    have hn : (keptN (f k)).1 ≤ 512 := keptN_le _
    have tl : (y.l.take (keptN (f k)).1).length ≤ 512 := by rw [List.length_take]; omega
    have hl : (lay m y.b (y.l.take (keptN (f k)).1)).length = 512 * n := by rw [lay_length _ _ _ (by omega)]; exact hm
    rw [List.map_cons, sets, crL, layL_app]
    show sets f (k + 1) (C.map tw) (lay m y.b (y.l.take (keptN (f k)).1)) = _
    rw [sets_layL f C (k + 1) _ hC hl]
    by_cases hk : (keptN (f k)).2 = true
    · rw [if_pos hk]
      show _ = layL (splice m (512 * y.b + y.a) (y.l.take (keptN (f k)).1)) _
      rw [h0.2.1, Nat.add_zero]
      rfl
    · rw [if_neg hk]
      have hz : (keptN (f k)).1 = 0 := by
        unfold keptN at hk ⊢
        split at hk
        · simp at hk
        · split at hk
          · simp at hk
          · rename_i a b
            rw [if_neg a, if_neg b]
      rw [hz, List.take_zero]
      show layL (splice m _ []) _ = layL m _
      rw [splice_nil]
theorem crL_kept (C : List Ly) : ∀ k, (∀ y ∈ C, y.l.length = 512) → crL (fun _ => (1, 0)) k C = C := by
  induction C with
  | nil => intro _ _; rfl
  | cons y C ih =>
    intro k h
    have h0 := h y (by simp)
    rw [crL, ih (k + 1) (fun z hz => h z (by simp [hz]))]
    show [{ y with l := y.l.take 512 }] ++ C = y :: C
    rw [List.take_of_length_le (by omega)]
    rfl
theorem cnts_crL (f : Nat → Int × Int) : ∀ (C : List Ly) (k : Nat), (crL f k C).length = cnts f k (C.map tw)
  | [], _ => rfl
  | y :: C, k => by
    rw [crL, List.length_append, List.map_cons, cnts, cnts_crL f C (k + 1)]
    split <;> rfl
theorem crL_ok (f : Nat → Int × Int) (n : Nat) : ∀ (C : List Ly) (k : Nat), (∀ y ∈ C, y.b < n ∧ y.a = 0 ∧ y.l.length = 512) → ∀ y ∈ crL f k C, y.b < n ∧ y.a + y.l.length ≤ 512
  | [], _, _, y, hy => by simp [crL] at hy
  | z :: C, k, h, y, hy => by
    rw [crL] at hy
    rcases List.mem_append.1 hy with q | q
    · split at q
      · rw [List.mem_singleton.1 q]
        have := h z (by simp)
        simp only [List.length_take]
        omega
      · simp at q
    · exact crL_ok f n C (k + 1) (fun z hz => h z (by simp [hz])) y q
theorem flush_same (h : Rel s r) : (flR r).2 = (flD s).2 ∧ Rel (flD s).1 (flR r).1 := by
  unfold flR flD
  obtain ⟨e, hr⟩ := act_rel h
  by_cases ha : (actR r).2 = true
  · rw [if_pos ha] at e
    rw [if_neg (by rw [ha]; exact Bool.noConfusion), if_neg (by rw [e]; simp)]
    have k1 := act_keeps r
    refine ⟨rfl, hr.n, hr.bl, ?_, ?_, rfl, fun y hy => by simp at hy, hr.armed, hr.left, hr.off, hr.cr, hr.cw, by show up r.cf = up s.cf; rw [h.cf]⟩
    · intro y hy
      show y.b < (actR r).1.n ∧ _
      rw [k1.1]
      rcases List.mem_append.1 hy with q | q
      · exact h.ll y q
      · have := h.c0 y q
        omega
    · have eb : base0 (actR r).1 = base0 r := by unfold base0; rw [k1.2.2.2.2.2, k1.1]
      show layL (base0 (actR r).1) (r.laid ++ r.cache) = sets (fun _ => (1, 0)) 0 s.cache s.med
      rw [eb, layL_app, ← h.cache, sets_layL (n := r.n) _ _ _ _ (fun y hy => h.c0 y hy) (by rw [← h.med]; exact layL_length _ _ (base0_length h.bl) h.ll), crL_kept _ _ (fun y hy => (h.c0 y hy).2.2), ← h.med]
      rfl
  · rw [if_neg ha] at e
    have ha' : (actR r).2 = false := by simpa using ha
    rw [if_pos ha', if_pos (by rw [e]; simp)]
    exact ⟨e.symm, hr⟩
theorem crash_same (h : Rel s r) (fs : List (Int × Int)) : crN fs r.cache = cnts (fateAt fs) 0 s.cache ∧ Rel (crD s fs) (crR r fs) := by
  refine ⟨by unfold crN; rw [cnts_crL, h.cache], h.n, h.bl, ?_, ?_, rfl, fun y hy => by simp [crR] at hy, rfl, fun e => by simp [crD] at e, rfl, h.cr, h.cw, h.cf⟩
  · intro y hy
    rcases List.mem_append.1 hy with q | q
    · exact h.ll y q
    · exact crL_ok _ _ _ _ (fun y hy => h.c0 y hy) y q
  · show layL (base0 r) (r.laid ++ crL (fateAt fs) 0 r.cache) = sets (fateAt fs) 0 s.cache s.med
    rw [layL_app, ← h.cache, sets_layL (n := r.n) _ _ _ _ (fun y hy => h.c0 y hy) (by rw [← h.med]; exact layL_length _ _ (base0_length h.bl) h.ll), ← h.med]
    rfl
theorem arm_same (h : Rel s r) (k : Int) : (armR r k).2 = (armD s k).2 ∧ Rel (armD s k).1 (armR r k).1 := by
  unfold armR armD
  by_cases h1 : k < 0
  · rw [if_pos h1, if_pos h1]; exact ⟨rfl, h⟩
  · rw [if_neg h1, if_neg h1, h.off]
    by_cases h2 : s.down = true
    · rw [if_pos h2, if_pos h2]; exact ⟨rfl, h⟩
    · rw [if_neg h2, if_neg h2]
      exact ⟨rfl, h.n, h.bl, h.ll, h.med, h.cache, h.c0, rfl, fun _ => rfl, rfl, h.cr, h.cw, h.cf⟩
theorem edit_same (h : Rel s r) (i a : Int) (p : List UInt8) (y : Ly) (h1 : y.b = i.toNat) (h2 : y.a = a.toNat) (h3 : y.l = p) : (edR r i a p y).2 = (edD s i a p).2 ∧ Rel (edD s i a p).1 (edR r i a p y).1 := by
  unfold edR edD
  rw [has_same h]
  by_cases hb : hasB s i = false
  · rw [if_pos hb, if_pos hb]; exact ⟨rfl, h⟩
  · rw [if_neg hb, if_neg hb]
    by_cases h5 : a < 0 ∨ 512 - (p.length : Int) < a
    · rw [if_pos h5, if_pos h5]; exact ⟨rfl, h⟩
    · rw [if_neg h5, if_neg h5]
      have hbn : y.b < r.n := by
        have : hasR r i = true := by rw [has_same h]; simpa using hb
        obtain ⟨k, rfl, hk⟩ := hasR_nat this
        rw [h1]
        simpa using hk
      refine ⟨rfl, h.n, h.bl, ?_, ?_, h.cache, h.c0, h.armed, h.left, h.off, h.cr, h.cw, h.cf⟩
      · intro z hz
        rcases List.mem_append.1 hz with q | q
        · exact h.ll z q
        · rw [List.mem_singleton.1 q]
          exact ⟨hbn, by rw [h2, h3]; omega⟩
      · show layL (base0 r) (r.laid ++ [y]) = splice s.med (512 * i.toNat + a.toNat) p
        rw [layL_snoc, h1, h2, h3, ← h.med]
        rfl
theorem new_same (n : Nat) : Rel (newD n (List.replicate (512 * n) 0)) (newR n []) :=
  ⟨rfl, .inl rfl, fun y hy => by simp [newR] at hy, rfl, rfl, fun y hy => by simp [newR] at hy, rfl, fun e => by simp [newD] at e, rfl, rfl, rfl, rfl⟩
theorem of_same (n : Nat) (m : List UInt8) (hm : m.length = 512 * n) (hn : 64 ≤ n) : Rel (newD n m) (newR n m) :=
  ⟨rfl, .inr hm, fun y hy => by simp [newR] at hy, by
    have : m ≠ [] := fun e => by rw [e] at hm; simp at hm; omega
    show layL (base0 (newR n m)) [] = m
    unfold base0
    rw [if_neg (show ¬ (newR n m).base = [] from this)]
    rfl, rfl, fun y hy => by simp [newR] at hy, rfl, fun e => by simp [newD] at e, rfl, rfl, rfl, rfl⟩
theorem pend_same (h : Rel s r) : blocksR r.cache = blocksOf s.cache := by
  rw [← h.cache]
  unfold blocksR blocksOf
  rw [List.map_map]
  rfl
end Rf
end Go.Proofs.Ytojemioophlplaa
