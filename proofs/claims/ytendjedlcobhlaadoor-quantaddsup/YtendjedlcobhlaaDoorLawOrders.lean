/-
  The law QuantOrders.
-/
import Derived.Test.YtendjedlcobhlaaDoorNrT
import Derived.Test.YtendjedlcobhlaaDoorKnownK
namespace Go.Proofs.YtendjedlcobhlaaDoor
open Go.RowKit Go.Lib
theorem own_pl {B : Nat} {w : World} {v : Value} {l : List Am} (H : OwnR kAm B w v l) : ∀ ad n c, v = .slice (some ad) n c → ∃ b off, ad = ⟨b, off, none⟩ := by
  obtain ⟨_, ⟨hv, hn⟩ | ⟨g, cap, cur, hv, _⟩⟩ := H
  · intro ad n c e; rw [hv] at e; injection e with e; cases e
  · intro ad n c e; rw [hv] at e; injection e with e; injection e with e; exact ⟨g, 0, e.symm⟩
theorem nr_perm {l t : List Am} (h : t.Perm l) : nrE t = nrE l ∧ nrL t = nrL l := by
  have h1 : t.all amB = l.all amB := h.all_eq
  have h2 : Ov (ent t) ↔ Ov (ent l) := Ov_perm (ent_perm h)
  have h3 : outL (ent t) = outL (ent l) := outL_perm (ent_perm h)
  have h4 : (nmsOf (ent t)).length = (nmsOf (ent l)).length := by rw [← out_len, h3, out_len]
  unfold nrE nrL
  rw [h1, h3, h4]
  by_cases q : Ov (ent l)
  · have q2 := h2.2 q
    simp only [q, q2]; exact ⟨trivial, trivial⟩
  · have q2 : ¬ Ov (ent t) := fun c => q (h2.1 c)
    simp only [q, q2]; exact ⟨trivial, trivial⟩
theorem behind_n (v : Value) (l : List Am) (m : Amt) (w : World) (n : Nat) (hn : n = l.length) (hv : Row kAm w v l) (hm : Mark w m) (hl : (n + 1) * 24 ≤ 140737488355328) :
    Calls Tryd.prog 9 #[v] w fun e w' => ∃ g cap, e = .returned (.slice (some ⟨g, 0, none⟩) (n + 1) cap) ∧ n + 1 ≤ cap ∧ cap ≤ 9223372036854775807 ∧ Row kAm w' (.slice (some ⟨g, 0, none⟩) n cap) l ∧ Below w.heap.size w w' := by
  subst hn; exact behind_row v l m w hv hm hl
theorem normal_n (v : Value) (l L : List Am) (E : Int) (k : Nat) (w : World) (hv : Row kAm w v l) (hpl : ∀ ad n c, v = .slice (some ad) n c → ∃ b off, ad = ⟨b, off, none⟩) (hz : l.length * 24 ≤ 140737488355328) (hf : ∀ x ∈ l, x.v ≤ 9223372036854775807)
    (hE : nrE l = E) (hL : nrL l = L) (hk : k = L.length) :
    Calls Tryd.prog 10 #[v] w fun e w' => ∃ a c, e = .returned (.tuple #[.slice a k c, .int .i64 E]) ∧ k ≤ c ∧ c ≤ 9223372036854775807 ∧ Row kAm w' (.slice a k c) L ∧ Below w.heap.size w w' := by
  subst hE hL hk
  refine (normal_any v l w hv hpl hz hf).mono ?_
  rintro e w' ⟨a, n, c, rfl, ho, hb⟩
  obtain ⟨a', c', e', h1, h2⟩ := (ho.row okAm).len
  simp only [Value.slice.injEq] at e'
  obtain ⟨rfl, rfl, rfl⟩ := e'
  unfold maxLen at h2
  exact ⟨a, c, rfl, h1, h2, ho.row okAm, hb⟩
theorem row_sum {l : List Am} (h : nrE l = 0) {i : Nat} (hi : i < (nrL l).length) {y : Am} (hy : y = (nrL l).getD i kAm.z) : Tot (ent l) y.n.data.toList = y.v ∧ y.v ≤ 9223372036854775807 ∧ ∃ x ∈ l, x.n.data.toList = y.n.data.toList := by
  have hq := (nr_told h).2 y (by rw [hy]; exact getD_in hi)
  obtain ⟨h1, h2, h3, h4⟩ := nr_zero h
  rw [h4] at hy hi
  have hi' : i < (nmsOf (ent l)).length := by rw [← out_len]; exact hi
  rw [out_at _ _ hi'] at hy
  subst hy
  refine ⟨rfl, hq, ?_⟩
  have hm : (nmsOf (ent l)).getD i [] ∈ nmsOf (ent l) := getD_in hi'
  rw [mem_nms] at hm
  unfold ent at hm
  rw [List.map_map] at hm
  obtain ⟨x, hx, e⟩ := List.mem_map.1 hm
  exact ⟨x, hx, e⟩
theorem row_names {l : List Am} (h : nrE l = 0) {x : Am} (hx : x ∈ l) : ∃ y ∈ nrL l, y.n.data.toList = x.n.data.toList := by
  obtain ⟨h1, h2, h3, h4⟩ := nr_zero h
  have hm : x.n.data.toList ∈ nmsOf (ent l) := by
    rw [mem_nms]; unfold ent; rw [List.map_map]
    exact List.mem_map.2 ⟨x, hx, rfl⟩
  refine ⟨⟨⟨x.n.data.toList.toArray⟩, Tot (ent l) x.n.data.toList⟩, ?_, rfl⟩
  rw [h4]; unfold outL
  exact List.mem_map.2 ⟨_, hm, rfl⟩
def parS (l : List Am) (n : List UInt8) (j : Nat) : Int := Tot (ent (l.take j)) n
def parT (l : List Am) (n : List UInt8) (j : Nat) : Bool := (l.take j).any fun x => decide (x.n.data.toList = n)
theorem par_yes {l : List Am} {n : List UInt8} {j : Nat} (hj : j < l.length) (h : (l.getD j kAm.z).n.data.toList = n) : parS l n (j + 1) = parS l n j + (l.getD j kAm.z).v ∧ parT l n (j + 1) = true := by
  unfold parS parT
  rw [take_onez l j kAm.z hj, ent_app, Tot_app, List.any_append]
  refine ⟨?_, ?_⟩
  · congr 1
    show Tot [((l.getD j kAm.z).n.data.toList, (l.getD j kAm.z).v)] n = _
    rw [Tot_one, if_pos h]
  · rw [List.any_cons, List.any_nil, decide_eq_true h]; simp
theorem par_no {l : List Am} {n : List UInt8} {j : Nat} (hj : j < l.length) (h : ¬ (l.getD j kAm.z).n.data.toList = n) : parS l n (j + 1) = parS l n j ∧ parT l n (j + 1) = parT l n j := by
  unfold parS parT
  rw [take_onez l j kAm.z hj, ent_app, Tot_app, List.any_append]
  refine ⟨?_, ?_⟩
  · have : Tot [((l.getD j kAm.z).n.data.toList, (l.getD j kAm.z).v)] n = 0 := by rw [Tot_one, if_neg h]
    show _ + Tot [((l.getD j kAm.z).n.data.toList, (l.getD j kAm.z).v)] n = _
    rw [this]; omega
  · rw [List.any_cons, List.any_nil, decide_eq_false h]; simp
theorem par_le {l : List Am} (h : nrE l = 0) (n : List UInt8) (j : Nat) : 0 ≤ parS l n j ∧ parS l n j ≤ 9223372036854775807 := by
  obtain ⟨h1, h2, h3, h4⟩ := nr_zero h
  have hp := ent_pos (am_pos h1)
  have hs : ∀ m, (∀ x ∈ m, x ∈ l) → 0 ≤ Tot (ent m) n := fun m hm => Tot_pos (fun e he => by
    unfold ent at he
    obtain ⟨x, hx, rfl⟩ := List.mem_map.1 he
    exact hp _ (List.mem_map.2 ⟨x, hm x hx, rfl⟩)) n
  have e : Tot (ent l) n = Tot (ent (l.take j)) n + Tot (ent (l.drop j)) n := by rw [← Tot_app, ← ent_app, List.take_append_drop]
  have q1 := hs (l.take j) (fun x hx => List.mem_of_mem_take hx)
  have q2 := hs (l.drop j) (fun x hx => List.mem_of_mem_drop hx)
  have q3 : ¬ 9223372036854775807 < Tot (ent l) n := fun c => h2 ⟨n, c⟩
  unfold parS
  omega
theorem wrap_sum {x : Int} (h : 0 ≤ x ∧ x ≤ 9223372036854775807) : wrap64 x = x := by unfold wrap64; omega

end Go.Proofs.YtendjedlcobhlaaDoor
