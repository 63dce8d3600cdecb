/-
  The law's sameBindings and rises; two lists that rise and hold the same are one.
-/
import Derived.Test.YthdofbjijpghfaaGreatDoorAiB
namespace Go.Proofs.YthdofbjijpghfaaGreatDoor
open Go.RowKit Go.Sort Go.Lib
namespace Ac
theorem rise_eq {α : Type} {r : α → α → Prop} (irr : ∀ a, ¬ r a a) (tr : ∀ a b c, r a b → r b c → r a c) : ∀ {l1 l2 : List α}, l1.Pairwise r → l2.Pairwise r → (∀ x, x ∈ l1 ↔ x ∈ l2) → l1 = l2
  | [], [], _, _, _ => rfl
  | [], b :: _, _, _, h => by simpa using (h b).2 (by simp)
  | a :: _, [], _, _, h => by simpa using (h a).1 (by simp)
  | a :: l1, b :: l2, h1, h2, h => by
    rw [List.pairwise_cons] at h1 h2
    have e : a = b := by
      rcases List.mem_cons.1 ((h a).1 (by simp)) with q | q
      · exact q
      · rcases List.mem_cons.1 ((h b).2 (by simp)) with q' | q'
        · exact q'.symm
        · exact (irr a (tr _ _ _ (h1.1 b q') (h2.1 a q))).elim
    subst e
    have := rise_eq irr tr h1.2 h2.2 (fun x => ⟨fun hx => by
      rcases List.mem_cons.1 ((h x).1 (by simp [hx])) with q | q
      · subst q; exact (irr _ (h1.1 _ hx)).elim
      · exact q, fun hx => by
      rcases List.mem_cons.1 ((h x).2 (by simp [hx])) with q | q
      · subst q; exact (irr _ (h2.1 _ hx)).elim
      · exact q⟩)
    rw [this]
theorem lt_total {x y : Bv} (h1 : ltOf cV y x = false) (h2 : kl x.1.p x.1.n ≠ kl y.1.p y.1.n) : ltOf cV x y = true := by
  rw [lt_cV] at h1 ⊢
  have a := of_decide_eq_false h1
  refine decide_eq_true ?_
  by_cases e : (key x).1 = (key y).1
  · refine Or.inr ⟨e, ?_⟩
    have hp : x.1.p = y.1.p := path_inj x y (ky_inj e)
    have hn : ¬ (key y).2 < (key x).2 := fun q => a (Or.inr ⟨e.symm, q⟩)
    rcases Classical.em ((key x).2 < (key y).2) with q | q
    · exact q
    · have e2 : (key x).2 = (key y).2 := List.le_antisymm (List.not_lt.1 hn) (List.not_lt.1 q)
      exact absurd (by rw [hp, ByteArray.ext (Array.ext' e2)]) h2
  · rcases Classical.em ((key x).1 < (key y).1) with q | q
    · exact Or.inl q
    · exact absurd (List.le_antisymm (List.not_lt.1 (fun q' => a (Or.inl q'))) (List.not_lt.1 q)) e
theorem Li.rises {D : DataW Unit} {S : List Bv} (h : Li D S) : S.Pairwise (fun x y => ltOf cV x y = true) := by
  have := List.Pairwise.and h.r h.d
  exact this.imp fun ⟨a, b⟩ => lt_total a b
theorem Li.one {D D' : DataW Unit} {S S' : List Bv} (h : Li D S) (h' : Li D' S') (e : ∀ x, InD D x ↔ InD D' x) : S = S' := by
  refine rise_eq (r := fun x y => ltOf cV x y = true) (fun a q => by rw [swoV.irrefl] at q; simp at q) (fun a b c => swoV.trans a b c) h.rises h'.rises fun x => ?_
  have key : ∀ {D : DataW Unit} {S : List Bv}, Li D S → (x ∈ S ↔ InD D x.1) := fun hl => ⟨fun q => (hl.m x.1).1 ⟨x, q, rfl⟩, fun q => by
    obtain ⟨y, hy, ey⟩ := (hl.m x.1).2 q
    rw [← Subtype.ext ey]; exact hy⟩
  rw [key h, key h', e]
set_option maxHeartbeats 4000000 in
set_option maxRecDepth 100000 in
theorem sameBindings_yes (v u : Value) (l : List Bv) (w : World) (hv : Row kBv w v l) (hu : Row kBv w u l) :
    Calls Tryz.prog 7 #[v, u] w fun e w' => e = .returned (.bool true) ∧ Below w.heap.size w w' := by
  have V : Aside (Row kBv w v l ∧ Row kBv w u l) := ⟨hv, hu⟩
  obtain ⟨a, cap, rfl, hlc, hcm⟩ := hv.len
  obtain ⟨a', cap', rfl, hlc', hcm'⟩ := hu.len
  unfold maxLen at hcm hcm'
  clear hv hu
  go_enter Tryz.func7, Tryz.ntmps7
  go_wp2_with fail
  go_loopg [5] l.length (fun g si wr => ∃ (k : Nat), k ≤ l.length ∧ g = l.length - k ∧ si = .int .i64 k ∧ Below w.heap.size w wr)
  case atStart => exact ⟨0, Nat.zero_le _, rfl, rfl, Below.refl _ _⟩
  case round =>
    obtain ⟨k, hk, hg, rfl, hb⟩ := hrel
    have R : Aside (gk = l.length - k ∧ Below w.heap.size w wr) := ⟨hg, hb⟩
    clear hg hb
    by_cases hlt : k < l.length
    · obtain ⟨b, off, rfl, p0, p1, p2, p3⟩ := row_atB (V.out.1.below R.out.2) k hlt
      obtain ⟨b', off', rfl, q0, q1, q2, q3⟩ := row_atB (V.out.2.below R.out.2) k hlt
      obtain ⟨x, hx⟩ : ∃ x, x = (l.getD k Bv.z).1 := ⟨_, rfl⟩
      rw [← hx] at p0 p1 p2 p3 q0 q1 q2 q3
      clear hx
      obtain ⟨xp, xn, xs, xv⟩ := x
      simp only at p0 p1 p2 p3 q0 q1 q2 q3
      have hlt' : (k : Int) < (l.length : Int) := by omega
      go_wp2_with fail
      go_quiet (fail)
      go_wp2_with fail
      go_roundg (l.length - (k + 1))
      case measure => have := R.out.1; omega
      case rel => exact ⟨k + 1, by omega, rfl, by go_num, R.out.2.trans ((below_drawn wr _).mono R.out.2.size)⟩
    · go_wp2_with fail
      go_ret
      exact ⟨rfl, R.out.2⟩
theorem cmS_less {x y : ByteArray} (h : cmS x y < 0) : Op.bytesLess x.toList y.toList = true := by
  unfold cmS at h
  split at h
  · assumption
  · split at h <;> simp at h
end Ac
end Go.Proofs.YthdofbjijpghfaaGreatDoor
