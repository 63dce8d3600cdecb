/-
  The sums as a function of the place; an object's shares; what charging and releasing them makes.
-/
import Derived.Test.YtodfmnbfbndkhaaGreatDoorLeM
namespace Go.Proofs.YtodfmnbfbndkhaaGreatDoor
open Go.RowKit
namespace Le
open Classical in
noncomputable def upd (f : Ky → Int) (x : Ky) (v : Int) : Ky → Int := fun y => if y = x then v else f y
theorem upd_same (f : Ky → Int) (x : Ky) (v : Int) : upd f x v x = v := by unfold upd; rw [if_pos rfl]
theorem upd_ne (f : Ky → Int) {x y : Ky} (v : Int) (h : y ≠ x) : upd f x v y = f y := by unfold upd; rw [if_neg h]
abbrev MX : Int := 9223372036854775807
/-- The map D holds the sums f. -/
structure Rep (D : DataW Unit) (f : Ky → Int) : Prop where
  val : ∀ x : Ky, x.Fit → f x ≠ 0 → ∀ z, D.atKey x.lit z = eS (f x)
  no : ∀ x : Ky, x.Fit → f x = 0 → Maps.has D x.lit = false
  out : ∀ x : Ky, ¬ x.Fit → f x = 0
  rng : ∀ x : Ky, 0 ≤ f x ∧ f x ≤ MX
  map : Maps.IsMap D
variable {D : DataW Unit} {f g : Ky → Int} {x y : Ky} {v : Int}
theorem lit_key (x : Ky) : WideAt.IsKeyLit x.lit := by unfold Ky.lit; trivial
theorem Rep.look (h : Rep D f) (hx : x.Fit) : D.atKey x.lit (eS 0) = eS (f x) := by
  by_cases e : f x = 0
  · rw [Maps.atKey_of_not_has (h.no x hx e), e]
  · exact h.val x hx e _
theorem Rep.nil : Rep (.map []) (fun _ => 0) := ⟨fun _ _ h => absurd rfl h, fun _ _ _ => rfl, fun _ _ => rfl, fun _ => ⟨Int.le_refl _, by decide⟩, Maps.isMap_empty⟩
theorem Rep.put (h : Rep D f) (hx : x.Fit) (h0 : v ≠ 0) (hv : 0 ≤ v ∧ v ≤ MX) : Rep (D.put x.lit (eS v)) (upd f x v) := by
  refine ⟨fun y hy hn z => ?_, fun y hy hn => ?_, fun y hy => ?_, fun y => ?_, h.map.put _ _⟩
  · by_cases e : y = x
    · subst e
      rw [upd_same, Maps.atKey_put_same h.map (lit_key y)]
    · rw [upd_ne _ _ e] at hn ⊢
      rw [Maps.atKey_put_other (fun q => e (lit_inj hy hx q))]
      exact h.val y hy hn z
  · by_cases e : y = x
    · subst e
      rw [upd_same] at hn
      exact absurd hn h0
    · rw [upd_ne _ _ e] at hn
      rw [Maps.has_put_other (fun q => e (lit_inj hy hx q))]
      exact h.no y hy hn
  · rw [upd_ne _ _ (fun e => hy (by rw [e]; exact hx))]
    exact h.out y hy
  · by_cases e : y = x
    · subst e; rw [upd_same]; exact hv
    · rw [upd_ne _ _ e]; exact h.rng y
theorem Rep.del (h : Rep D f) (hx : x.Fit) : Rep (D.del x.lit) (upd f x 0) := by
  refine ⟨fun y hy hn z => ?_, fun y hy hn => ?_, fun y hy => ?_, fun y => ?_, h.map.del _⟩
  · by_cases e : y = x
    · subst e
      rw [upd_same] at hn
      exact absurd rfl hn
    · rw [upd_ne _ _ e] at hn ⊢
      rw [Maps.atKey_del_other (fun q => e (lit_inj hy hx q))]
      exact h.val y hy hn z
  · by_cases e : y = x
    · subst e
      exact Maps.has_del_same
    · rw [upd_ne _ _ e] at hn
      rw [Maps.has_del_other (fun q => e (lit_inj hy hx q))]
      exact h.no y hy hn
  · rw [upd_ne _ _ (fun e => hy (by rw [e]; exact hx))]
    exact h.out y hy
  · by_cases e : y = x
    · subst e; rw [upd_same]; exact ⟨Int.le_refl _, by decide⟩
    · rw [upd_ne _ _ e]; exact h.rng y
/-- What stands in the map is just what is not 0. -/
theorem Rep.at (h : Rep D f) (hx : x.Fit) (z : Int) (hat : ∀ zd, D.atKey x.lit zd = eS z) : f x = z ∧ z ≠ 0 := by
  by_cases e : f x = 0
  · have q := Maps.has_true_of_atKey hat
    rw [h.no x hx e] at q
    exact absurd q (by decide)
  · have q := h.val x hx e (eS 0)
    rw [hat] at q
    have := eS_inj q
    exact ⟨this.symm, by rw [this]; exact e⟩
/-- What a sum becomes (charged, or released), and the error. -/
def bec (c : Bool) (s v : Int) : Int × Int := if c then (if MX - v < s then (0, 7) else (s + v, 0)) else (if s < v then (0, 170) else (s - v, 0))
abbrev Sh := List (Ky × Int)
/-- What is asked ahead of all: the first error. -/
def chk (c : Bool) (f : Ky → Int) : Sh → Int
  | [] => 0
  | e :: r => if (bec c (f e.1) e.2).2 ≠ 0 then (bec c (f e.1) e.2).2 else chk c f r
/-- All shares laid. -/
noncomputable def app (c : Bool) (f : Ky → Int) (l : Sh) : Ky → Int := l.foldl (fun g e => upd g e.1 (bec c (g e.1) e.2).1) f
open Classical in
/-- What stands under a place among shares. -/
noncomputable def shv : Sh → Ky → Int
  | [], _ => 0
  | e :: r, x => (if e.1 = x then e.2 else 0) + shv r x
def sg (c : Bool) : Int := if c then 1 else -1
theorem chk_zero {c : Bool} {f : Ky → Int} : ∀ {l : Sh}, chk c f l = 0 ↔ ∀ e ∈ l, (bec c (f e.1) e.2).2 = 0
  | [] => by simp [chk]
  | e :: r => by
    rw [chk]
    by_cases h : (bec c (f e.1) e.2).2 = 0
    · rw [if_neg (by simp [h]), chk_zero]
      simp [h]
    · rw [if_pos h]
      simp [h]
theorem bec_ok {c : Bool} {s v : Int} (h : (bec c s v).2 = 0) : (bec c s v).1 = s + sg c * v := by
  unfold bec sg at *
  cases c
  · simp only [Bool.false_eq_true, if_false] at *
    split at h
    · exact absurd h (by decide)
    · rename_i q; rw [if_neg q]; simp only; omega
  · simp only [if_true] at *
    split at h
    · exact absurd h (by decide)
    · rename_i q; rw [if_neg q]; simp only; omega
theorem bec_rng {c : Bool} {s v : Int} (h : (bec c s v).2 = 0) (hs : 0 ≤ s ∧ s ≤ MX) (hv : 0 ≤ v) : 0 ≤ (bec c s v).1 ∧ (bec c s v).1 ≤ MX := by
  unfold bec at *
  cases c
  · simp only [Bool.false_eq_true, if_false] at *
    split at h
    · exact absurd h (by decide)
    · rename_i q; rw [if_neg q]; simp only; omega
  · simp only [if_true] at *
    split at h
    · exact absurd h (by decide)
    · rename_i q; rw [if_neg q]; simp only; omega
theorem bec_code (c : Bool) (s v : Int) : (bec c s v).2 = 0 ∨ (bec c s v).2 = if c then 7 else 170 := by
  unfold bec
  cases c
  · simp only [Bool.false_eq_true, if_false]; split <;> simp
  · simp only [if_true]; split <;> simp
theorem chk_code (c : Bool) (f : Ky → Int) : ∀ l : Sh, chk c f l = 0 ∨ chk c f l = if c then 7 else 170
  | [] => Or.inl rfl
  | e :: r => by
    rw [chk]
    split
    · exact bec_code c _ _
    · exact chk_code c f r
theorem chk_bad {c : Bool} {f : Ky → Int} {l : Sh} {k : Nat} (hk : k < l.length) (h0 : chk c f (l.take k) = 0) (hb : (bec c (f (l[k]).1) (l[k]).2).2 ≠ 0) : chk c f l = (bec c (f (l[k]).1) (l[k]).2).2 := by
  induction l generalizing k with
  | nil => simp at hk
  | cons e r ih =>
    cases k with
    | zero => rw [chk]; simp only [List.getElem_cons_zero] at hb ⊢; rw [if_pos hb]
    | succ k =>
      rw [List.take_succ_cons, chk] at h0
      rw [chk]
      split at h0
      · rename_i q; exact absurd h0 q
      · rename_i q
        rw [if_neg q]
        simp only [List.getElem_cons_succ] at hb ⊢
        exact ih (by simpa using hk) h0 hb
theorem chk_snoc {c : Bool} {f : Ky → Int} {l : Sh} {e : Ky × Int} (h0 : chk c f l = 0) (hb : (bec c (f e.1) e.2).2 = 0) : chk c f (l ++ [e]) = 0 := by
  rw [chk_zero] at h0 ⊢
  intro y hy
  rcases List.mem_append.1 hy with q | q
  · exact h0 y q
  · rw [List.mem_singleton.1 q]; exact hb
theorem chk_pre {c : Bool} {f : Ky → Int} {l m : Sh} (h : chk c f (l ++ m) ≠ 0) (h0 : chk c f l = 0) : chk c f m ≠ 0 := by
  intro q
  apply h
  rw [chk_zero] at h0 q ⊢
  intro y hy
  rcases List.mem_append.1 hy with z | z
  · exact h0 y z
  · exact q y z
theorem chk_app (c : Bool) (f : Ky → Int) (m : Sh) : ∀ l : Sh, chk c f (l ++ m) = if chk c f l ≠ 0 then chk c f l else chk c f m
  | [] => by simp [chk]
  | e :: r => by
    rw [List.cons_append, chk, chk]
    by_cases h : (bec c (f e.1) e.2).2 = 0
    · simp only [h, ne_eq, not_true_eq_false, if_false]
      exact chk_app c f m r
    · rw [if_pos h, if_pos h, if_pos h]
theorem chk_one (c : Bool) (f : Ky → Int) (e : Ky × Int) : chk c f [e] = (bec c (f e.1) e.2).2 := by
  rw [chk, chk]
  by_cases h : (bec c (f e.1) e.2).2 = 0
  · rw [if_neg (by simp [h]), h]
  · rw [if_pos h]
theorem bec_in {c : Bool} {s v : Int} (hs : 0 ≤ s ∧ s ≤ MX) (hv : 0 ≤ v) : 0 ≤ (bec c s v).1 ∧ (bec c s v).1 ≤ MX := by
  by_cases h : (bec c s v).2 = 0
  · exact bec_rng h hs hv
  · unfold bec at *
    cases c
    · simp only [Bool.false_eq_true, if_false] at *
      split
      · exact ⟨by decide, by decide⟩
      · rename_i q; rw [if_neg q] at h; exact absurd rfl h
    · simp only [if_true] at *
      split
      · exact ⟨by decide, by decide⟩
      · rename_i q; rw [if_neg q] at h; exact absurd rfl h
theorem app_snoc (c : Bool) (f : Ky → Int) (l : Sh) (e : Ky × Int) : app c f (l ++ [e]) = upd (app c f l) e.1 (bec c (app c f l e.1) e.2).1 := by
  unfold app; rw [List.foldl_append]; rfl
theorem shv_no {l : Sh} {x : Ky} (h : x ∉ l.map Prod.fst) : shv l x = 0 := by
  induction l with
  | nil => rfl
  | cons e r ih =>
    simp only [List.map_cons, List.mem_cons, not_or] at h
    rw [shv, if_neg (fun q => h.1 q.symm), ih h.2]
    rfl
theorem shv_app (l m : Sh) (x : Ky) : shv (l ++ m) x = shv l x + shv m x := by
  induction l with
  | nil => simp [shv]
  | cons e r ih => rw [List.cons_append, shv, shv, ih]; omega
theorem shv_perm {l m : Sh} (h : l.Perm m) (x : Ky) : shv l x = shv m x := by
  induction h with
  | nil => rfl
  | cons y _ ih => rw [shv, shv, ih]
  | swap y z l => simp only [shv]; omega
  | trans _ _ a b => rw [a, b]
theorem shv_one (e : Ky × Int) (x : Ky) (h : x = e.1) : shv [e] x = e.2 := by
  rw [shv, if_pos h.symm, shv]; omega
theorem shv_mem {l : Sh} (hn : (l.map Prod.fst).Nodup) {e : Ky × Int} (he : e ∈ l) : shv l e.1 = e.2 := by
  induction l with
  | nil => simp at he
  | cons y r ih =>
    simp only [List.map_cons, List.nodup_cons] at hn
    rcases List.mem_cons.1 he with rfl | q
    · rw [shv, if_pos rfl, shv_no hn.1]; omega
    · have : y.1 ≠ e.1 := fun z => hn.1 (by rw [z]; exact List.mem_map.2 ⟨e, q, rfl⟩)
      rw [shv, if_neg this, ih hn.2 q]; omega
theorem shv_pos {l : Sh} (h : ∀ e ∈ l, 0 ≤ e.2) (x : Ky) : 0 ≤ shv l x := by
  induction l with
  | nil => exact Int.le_refl _
  | cons y r ih =>
    rw [shv]
    have h1 := h y (by simp)
    have h2 := ih (fun e he => h e (by simp [he]))
    split <;> omega
/-- Behind all shares each sum is more, or less, by what is the object's. -/
theorem app_eq {c : Bool} {f : Ky → Int} {l : Sh} (hn : (l.map Prod.fst).Nodup) (h0 : chk c f l = 0) (x : Ky) : app c f l x = f x + sg c * shv l x := by
  have key : ∀ (n : Nat), n ≤ l.length → ∀ x, app c f (l.take n) x = f x + sg c * shv (l.take n) x := by
    intro n
    induction n with
    | zero => intro _ x; simp [app, shv]
    | succ n ih =>
      intro hl x
      have hlt : n < l.length := hl
      have e1 : l.take (n + 1) = l.take n ++ [l[n]] := by rw [List.take_add_one, List.getElem?_eq_getElem hlt]; rfl
      have i0 := ih (Nat.le_of_lt hlt)
      have hno : (l[n]).1 ∉ (l.take n).map Prod.fst := by
        have q := hn
        rw [← List.take_append_drop n l, List.map_append, List.nodup_append] at q
        intro z
        exact q.2.2 _ z _ (List.mem_map.2 ⟨l[n], by rw [List.drop_eq_getElem_cons hlt]; exact List.mem_cons_self, rfl⟩) rfl
      have g0 : app c f (l.take n) (l[n]).1 = f (l[n]).1 := by rw [i0, shv_no hno]; omega
      have ok := chk_zero.1 h0 (l[n]) (List.getElem_mem hlt)
      rw [e1, app_snoc, shv_app]
      by_cases e : x = (l[n]).1
      · subst e
        rw [upd_same, g0, bec_ok ok, shv_no hno, shv_one _ _ rfl, Int.zero_add]
      · rw [upd_ne _ _ e, i0, shv, if_neg (fun q => e q.symm), shv, Int.zero_add, Int.add_zero]
  have := key l.length (Nat.le_refl _) x
  rwa [List.take_length] at this
end Le
end Go.Proofs.YtodfmnbfbndkhaaGreatDoor
