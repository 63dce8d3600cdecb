/-
  The law's small functions: behind, one, same; a hub of the law's own.
-/
import Derived.Test.YtfkoiehnkelpoaaDoorWtH
namespace Go.Proofs.YtfkoiehnkelpoaaDoor
open Go.RowKit
namespace Wt
/-- What the calls read of the package's variables. -/
structure Gl (m : Ev) (w : World) : Prop where
  hm : L.HasM w
  gm : ∀ i y, (kE.c m)[i]? = some y → w.cell? ⟨0, i, none⟩ = some y
theorem Gl.below {m : Ev} {w0 w : World} (h : Gl m w0) (hb : Below w0.heap.size w0 w) : Gl m w :=
  ⟨h.hm.below hb, fun i y q => (hb.cell (block_lt_of_cell (h.gm i y q))).trans (h.gm i y q)⟩
theorem same_list (s t : ByteArray) : (s.toList == t.toList) = decide (s = t) := by
  rw [ByteArray.toList_eq, ByteArray.toList_eq, Bool.eq_iff_iff]
  simp only [beq_iff_eq, decide_eq_true_iff]
  exact ⟨fun h => by rw [← list_txt s, ← list_txt t, h], fun h => by rw [h]⟩
set_option maxHeartbeats 4000000 in
set_option maxRecDepth 100000 in
theorem same_yes (v u : Value) (l : List Ev) (w : World) (hv : Row kE w v l) (hu : Row kE w u l) :
    Calls Tryd.prog 15 #[v, u] w fun e w' => e = .returned (.bool true) ∧ Below w.heap.size w w' := by
  have V : Aside (Row kE w v l ∧ Row kE w u l) := ⟨hv, hu⟩
  obtain ⟨a, cap, rfl, hlc, hcm⟩ := hv.len
  obtain ⟨a', cap', rfl, hlc', hcm'⟩ := hu.len
  unfold maxLen at hcm hcm'
  clear hv hu
  go_enter Tryd.func15, Tryd.ntmps15
  go_wp2_with fail
  go_loopg [5] l.length (fun g si wr => ∃ (k : Nat), k ≤ l.length ∧ g = l.length - k ∧ si = .int .i64 k ∧ Below w.heap.size w wr)
  case atStart => exact ⟨0, Nat.zero_le _, rfl, rfl, Below.refl _ _⟩
  case round =>
    obtain ⟨k, hk, hg, rfl, hb⟩ := hrel
    have R : Aside (gk = l.length - k ∧ Below w.heap.size w wr) := ⟨hg, hb⟩
    clear hg hb
    by_cases hlt : k < l.length
    · obtain ⟨b, off, rfl, p0, p1, p2, p3, p4⟩ := row_at (V.out.1.below R.out.2) k hlt
      obtain ⟨b', off', rfl, q0, q1, q2, q3, q4⟩ := row_at (V.out.2.below R.out.2) k hlt
      obtain ⟨x, hx⟩ : ∃ x, x = l.getD k Ev.z := ⟨_, rfl⟩
      rw [← hx] at p0 p1 p2 p3 p4 q0 q1 q2 q3 q4
      clear hx
      obtain ⟨xv, xk, xg, xp, xn⟩ := x
      simp only at p0 p1 p2 p3 p4 q0 q1 q2 q3 q4
      have hlt' : (k : Int) < (l.length : Int) := by omega
      go_wp2_with fail
      go_quiet (fail)
      go_wp2_with fail
      go_roundg (l.length - (k + 1))
      case measure => have := R.out.1; omega
      case rel => exact ⟨k + 1, by omega, rfl, by go_num, R.out.2.trans ((below_drawn wr _).mono R.out.2.size)⟩
    · go_wp2_with fail
      go_ret
      exact ⟨rfl, R.out.2⟩
set_option maxHeartbeats 4000000 in
set_option maxRecDepth 100000 in
theorem behind_any (m : Ev) (l : List Ev) (v : Value) (w : World) (hG : Gl m w) (H : Row kE w v l) (hl : (l.length + 1) * 56 ≤ 140737488355328) :
    Calls Tryd.prog 22 #[v] w fun e w' => ∃ a n c, e = .returned (.slice a n c) ∧ OwnR kE w.heap.size w' (.slice a n c) (l ++ [m]) ∧ Below w.heap.size w w' := by
  have V := Lib.hid H
  have GG := Lib.hid hG
  obtain ⟨a, cap, rfl, -, -⟩ := H.len
  have L1 : Hid ((([] : List Ev).length + l.length) * kE.b ≤ 140737488355328) := Lib.hid (by show (0 + _) * 56 ≤ _; omega)
  have L2 : Hid ((l.length + 1) * kE.b ≤ 140737488355328) := Lib.hid (by show (_ + 1) * 56 ≤ _; omega)
  clear H hG hl
  obtain ⟨n, hn⟩ : ∃ n, n = l.length := ⟨_, rfl⟩
  rw [← hn] at V ⊢
  clear hn
  obtain ⟨mv, mk, mg, mp, mn⟩ := m
  go_enter Tryd.func22, Tryd.ntmps22
  have M1 : True := trivial
  go_wp2_with (first
    | (at_builtin; clear M1; refine app_rows okE (B := w.heap.size) (v := .slice none 0 0) (u := .slice a n cap) (l := []) (m := l) rfl _ _ rfl rfl (OwnR.nil _ _ _) (Nat.le_refl _) rfl V.out L1.out ?_; intro v1 w1 h1 g1; rw [List.nil_append] at h1; obtain ⟨n1, a1, c1, rfl⟩ : ∃ n1 a1 c1, v1 = .slice a1 n1 c1 := by (obtain ⟨a', c', e'⟩ := h1.slice; exact ⟨_, a', c', e'⟩)
       have B1 : Hid (Below w.heap.size w w1 ∧ OwnR kE w.heap.size w1 (.slice a1 n1 c1) l) := Lib.hid ⟨(Below.refl _ w).grown g1 (Nat.le_refl _) (fun j hj => by simp [Value.ownBlock] at hj), h1⟩
       have k0 : w1.cell? ⟨0, 0, none⟩ = some (.int .i64 mv) := (GG.out.below B1.out.1).gm 0 _ rfl
       have k1 : w1.cell? ⟨0, 1, none⟩ = some (.int .i64 mk) := (GG.out.below B1.out.1).gm 1 _ rfl
       have k2 : w1.cell? ⟨0, 2, none⟩ = some (.bool mg) := (GG.out.below B1.out.1).gm 2 _ rfl
       have k3 : w1.cell? ⟨0, 3, none⟩ = some (.string mp) := (GG.out.below B1.out.1).gm 3 _ rfl
       have k4 : w1.cell? ⟨0, 4, none⟩ = some (.string mn) := (GG.out.below B1.out.1).gm 4 _ rfl
       clear h1 g1)
    | (at_builtin; refine app_rowB okE (gg := w1.heap.size) rfl _ _ rfl rfl B1.out.2 B1.out.1.size ⟨mv, mk, mg, mp, mn⟩ rfl rfl rfl L2.out ?_; intro v' w' h1 h2))
  obtain ⟨n2, a2, c2, rfl⟩ : ∃ n1 a1 c1, v' = .slice a1 n1 c1 := by (obtain ⟨a', c', e'⟩ := h1.slice; exact ⟨_, a', c', e'⟩)
  have F := Lib.hid (And.intro h1 (B1.out.1.grown h2 B1.out.1.size (fun j hj => (B1.out.2.lt j hj).1)))
  clear h1 h2
  go_wp2_with fail
  go_ret
  exact ⟨_, _, _, rfl, F.out.1, F.out.2⟩
set_option maxHeartbeats 4000000 in
set_option maxRecDepth 100000 in
theorem one_any (x : Int) (b : Bool) (p n : ByteArray) (w : World) : Calls Tryd.prog 24 #[.int .i64 x, .bool b, .string p, .string n] w fun e w' => e = .returned (.agg #[.int .i64 x, .int .i64 3, .bool b, .string p, .string n]) ∧ Below w.heap.size w w' := by
  have B : Hid (∀ o, Below w.heap.size w (w.alloc o)) := below_alR w
  have ZR : Hid ((w.alloc (.cells #[.int .i64 0, .int .i64 0, .bool false, .string ⟨#[]⟩, .string ⟨#[]⟩] 33)).heap[w.heap.size]? = some (.cells #[.int .i64 0, .int .i64 0, .bool false, .string ⟨#[]⟩, .string ⟨#[]⟩] 33 (0, 0))) := Lib.hid (heap_alloc_new _ _)
  have CC : Hid ((w.alloc (.cells #[.int .i64 x, .int .i64 3, .bool b, .string p, .string n] 33)).heap[w.heap.size]? = some (.cells #[.int .i64 x, .int .i64 3, .bool b, .string p, .string n] 33 (0, 0))) := Lib.hid (heap_alloc_new _ _)
  go_enter Tryd.func24, Tryd.ntmps24
  go_wp2_with fail
  refine bodyPost_ret (results_cell_row rfl _ _ w.heap.size 33 #[.int .i64 x, .int .i64 3, .bool b, .string p, .string n] (0, 0) _ rfl CC.out Tryd.underlying33 rfl size_ev) rfl ?_
  exact ⟨rfl, B.out _⟩
theorem Hb.lt {w : World} {g : Nat} {v : Value} {s : St} (h : Hb w g v s) : ∀ k, HF g v k → k < w.heap.size := fun k hk => by
  rcases hk with q | q
  · rw [q]; exact lt_of_some h.hb
  · exact (h.row.lt k q.symm).2
/-- A hub of the law's own, since w0. -/
structure Hl (w0 w : World) (g : Nat) (v : Value) (s : St) : Prop where
  h : Hb w g v s
  lo : ∀ k, HF g v k → w0.heap.size ≤ k
  be : Below w0.heap.size w0 w
  ok : s.Ok
theorem Hl.below {w0 w w' : World} {g : Nat} {v : Value} {s : St} (H : Hl w0 w g v s) (hb : Below w.heap.size w w') : Hl w0 w' g v s :=
  ⟨H.h.below hb, H.lo, H.be.trans (hb.mono H.be.size), H.ok⟩
theorem Hl.ap {w0 w W : World} {g : Nat} {v u : Value} {s : St} {l : List Ev} {B : Nat} (H : Hl w0 w g v s) (hB : w.heap.size ≤ B) (hu : OwnR kE B W u l) : ∀ k, u.ownBlock = some k → ¬ HF g v k := fun k hk q => by
  have h1 := (hu.lt k hk).1
  have h2 := H.h.lt k q
  omega
theorem pushE_zero {s : St} {l : List Ev} (h : pushE s l = 0) : s.hi ≠ 1152921504606846976 ∧ ∀ e ∈ l, e.v = s.hi + 1 ∧ rightB e = true := by
  unfold pushE at h
  split at h
  · cases h
  · rename_i q
    refine ⟨fun e => q (.inl e), ?_⟩
    rcases Classical.em (∀ e ∈ l, e.v = s.hi + 1 ∧ rightB e = true) with c | c
    · exact c
    · exact absurd (.inr (.inr c)) q
/-- Push on a hub of the law's own. -/
theorem Hl.push {w0 w : World} {g : Nat} {v u : Value} {s : St} {l : List Ev} {m : Ev} (H : Hl w0 w g v s) (G : Gl m w0) (HL : Row kE w u l) (hap : ∀ k, u.ownBlock = some k → ¬ HF g v k) :
    Calls Tryd.prog 28 #[.pointer (some ⟨g, 0, none⟩), u] w fun e w' => e = .returned (.int .i64 (pushE s l)) ∧ ∃ v' s', Hl w0 w' g v' s' ∧ Kept (HF g v) w w' ∧ At v v' w ∧ (pushE s l ≠ 0 → s' = s) ∧ (pushE s l = 0 → Kp s l s') := by
  refine (push_any l u w g v s (G.hm.below H.be) H.h H.ok HL hap).mono ?_
  rintro e w' ⟨rfl, h1, h2⟩
  refine ⟨rfl, ?_⟩
  by_cases q : pushE s l = 0
  · obtain ⟨v', s', hk, hd⟩ := h2 q
    have hz := pushE_zero q
    refine ⟨v', s', ⟨hd.1, ?_, H.be.trans (hd.2.1.below H.be.size H.lo), hk.ok H.ok (by have := H.ok.b; omega) (fun e he => (hz.2 e he).1)⟩, hd.2.1, hd.2.2, fun c => absurd q c, fun _ => hk⟩
    intro k hk'
    rcases hk' with c | c
    · exact H.lo k (.inl c)
    · rcases hd.2.2 k c with d | d
      · exact H.lo k (.inr d)
      · have := H.be.size; omega
  · exact ⟨v, s, H.below (h1 q), Below.kept (h1 q) _, At.refl _ _, fun _ => rfl, fun c => absurd c q⟩
theorem Hl.new {w0 w : World} (hb : Below w0.heap.size w0 w) (x : Int) : Calls Tryd.prog 18 #[.int .i64 x] w fun e w' => e = .returned (.pointer (some ⟨w.heap.size, 0, none⟩)) ∧ Hl w0 w' w.heap.size (.slice none 0 0) ⟨min (max x 0) 1152921504606846976, min (max x 0) 1152921504606846976, []⟩ ∧ Below w.heap.size w w' := by
  refine (new_any x w).mono ?_
  rintro e w' ⟨rfl, h1, h2⟩
  refine ⟨rfl, ⟨h1, ?_, hb.trans (h2.mono hb.size), ⟨by simp only; omega, List.Pairwise.nil, (fun e he => by simp at he), by simp⟩⟩, h2⟩
  intro k hk
  rcases hk with q | q
  · rw [q]; exact hb.size
  · simp [Value.ownBlock] at q
/-- While all fits nothing is forgotten. -/
theorem Kp.small {s s' : St} {l : List Ev} (h : Kp s l s') (o : s.Ok) (hl : ∀ e ∈ l, e.v = s.hi + 1) (hn : s.es.length + l.length ≤ 128) : s' = ⟨s.lo, s.hi + 1, s.es ++ l⟩ := by
  obtain ⟨lo', hi', es'⟩ := s'
  have h1 := h.hi
  have h2 := h.m
  have h3 := h.es
  simp only at h1 h2 h3
  have e : lo' = s.lo := by
    rcases h2 with q | q
    · exact q
    · have := List.length_filter_le (gt (lo' - 1)) (s.es ++ l)
      rw [List.length_append] at this
      omega
  subst e
  rw [h1, h3]
  congr 1
  rw [List.filter_eq_self]
  intro e he
  rcases List.mem_append.1 he with q | q
  · simpa using (o.r e q).1
  · have := hl e q; have := o.b; simp; omega
end Wt
end Go.Proofs.YtfkoiehnkelpoaaDoor
