/-
  Nodes: lists of entries; a node in memory; isLeaf.
-/
import Derived.Test.YtmoghdpjemidgaaPgU
import Derived.Test.YtmoghdpjemidgaaPgD
namespace Go.Proofs.Ytmoghdpjemidgaa
open Go.RowKit Go.Maps
abbrev Ent := ByteArray × ByteArray
def encE (x : Ent) : List Value := [.string x.1, .string x.2]
theorem encE_one (x : Ent) : ∀ u ∈ encE x, u.oneCell' = true := by
  intro u hu; simp only [encE, List.mem_cons, List.not_mem_nil, or_false] at hu; rcases hu with rfl | rfl <;> rfl
/-- The slice v holds the entries xs. -/
def Ents (w : World) (v : Value) (xs : List Ent) : Prop :=
  ∃ a cap, v = .slice a xs.length cap ∧ xs.length ≤ cap ∧ cap ≤ maxLen ∧ (a = none → cap = 0) ∧ (∀ k, k < xs.length → ∃ b off, a = some ⟨b, off, none⟩ ∧ w.cell? ⟨b, off + k * 2, none⟩ = some (.string (xs.getD k (⟨#[]⟩, ⟨#[]⟩)).1) ∧ w.cell? ⟨b, off + k * 2 + 1, none⟩ = some (.string (xs.getD k (⟨#[]⟩, ⟨#[]⟩)).2))
theorem Ents.below {w w' : World} {v : Value} {xs : List Ent} (H : Ents w v xs) (hb : Below w.heap.size w w') : Ents w' v xs := by
  obtain ⟨a, cap, e, h1, h2, h0, h3⟩ := H
  refine ⟨a, cap, e, h1, h2, h0, fun k hk => ?_⟩
  obtain ⟨b, off, ea, c0, c1⟩ := h3 k hk
  exact ⟨b, off, ea, (hb.cell (block_lt_of_cell c0)).trans c0, (hb.cell (block_lt_of_cell c1)).trans c1⟩
theorem Ents.len {w : World} {v : Value} {xs : List Ent} (H : Ents w v xs) : ∃ a cap, v = .slice a xs.length cap ∧ xs.length ≤ cap ∧ cap ≤ maxLen := by
  obtain ⟨a, cap, h, h1, h2, _⟩ := H; exact ⟨a, cap, h, h1, h2⟩
theorem Ents.at {w : World} {a : Option Addr} {n cap : Nat} {xs : List Ent} (H : Ents w (.slice a n cap) xs) (k : Nat) (hk : k < xs.length) : ∃ b off, a = some ⟨b, off, none⟩ ∧ w.cell? ⟨b, off + k * 2, none⟩ = some (.string (xs.getD k (⟨#[]⟩, ⟨#[]⟩)).1) ∧ w.cell? ⟨b, off + k * 2 + 1, none⟩ = some (.string (xs.getD k (⟨#[]⟩, ⟨#[]⟩)).2) := by
  obtain ⟨a', cap', e', _, _, _, hc⟩ := H
  simp only [Value.slice.injEq] at e'
  obtain ⟨rfl, rfl, rfl⟩ := e'
  exact hc k hk
/-- The cells of a list. -/
def cellsE (xs : List Ent) : List Value := xs.flatMap encE
theorem cellsE_length (xs : List Ent) : (cellsE xs).length = xs.length * 2 := by
  induction xs with
  | nil => rfl
  | cons x r ih => rw [cellsE, List.flatMap_cons, ← cellsE, List.length_append, ih, List.length_cons]; simp [encE]; omega
theorem cellsE_at (xs : List Ent) (k : Nat) (h : k < xs.length) : (cellsE xs)[k * 2]? = some (.string (xs.getD k (⟨#[]⟩, ⟨#[]⟩)).1) ∧ (cellsE xs)[k * 2 + 1]? = some (.string (xs.getD k (⟨#[]⟩, ⟨#[]⟩)).2) := by
  induction xs generalizing k with
  | nil => simp at h
  | cons x r ih =>
    rw [cellsE, List.flatMap_cons, ← cellsE]
    cases k with
    | zero => exact ⟨rfl, rfl⟩
    | succ k =>
      have := ih k (by simp at h; omega)
      constructor
      · rw [show (k + 1) * 2 = 2 + k * 2 by omega, List.getElem?_append_right (by simp [encE])]
        simpa [encE] using this.1
      · rw [show (k + 1) * 2 + 1 = 2 + (k * 2 + 1) by omega, List.getElem?_append_right (by simp [encE])]
        simpa [encE] using this.2
theorem cellsE_one (xs : List Ent) : ∀ u ∈ cellsE xs, u.oneCell' = true := by
  intro u hu
  obtain ⟨x, _, hx⟩ := List.mem_flatMap.1 hu
  exact encE_one x u hx
theorem cellsE_app (xs ys : List Ent) : cellsE (xs ++ ys) = cellsE xs ++ cellsE ys := by simp [cellsE]
def OwnE (B : Nat) (w : World) (v : Value) (xs : List Ent) : Prop := w.ownsRow B 29 2 v xs.length (cellsE xs)
theorem OwnE.ents {B : Nat} {w : World} {v : Value} {xs : List Ent} (H : OwnE B w v xs) : Ents w v xs := by
  obtain ⟨_, ⟨hv, hn⟩ | ⟨g, cap, cur, hv, hb, hg, hn, hm, hs, ht⟩⟩ := H
  · exact ⟨none, 0, by rw [hv, hn], by omega, by decide, fun _ => rfl, fun k hk => by omega⟩
  · have hcell : ∀ j u, (cellsE xs)[j]? = some u → w.cell? ⟨g, 0 + j, none⟩ = some u := by
      intro j u hj
      rw [← ht, List.getElem?_take] at hj
      split at hj
      · simp [World.cell?, hg]
        simpa using hj
      · cases hj
    refine ⟨_, cap, hv, hn, hm, (fun h => by cases h), fun k hk => ⟨g, 0, rfl, hcell _ _ (cellsE_at xs k hk).1, ?_⟩⟩
    rw [Nat.add_assoc]
    exact hcell _ _ (cellsE_at xs k hk).2

/-- A node. -/
structure Nd where
  kind : Int
  ents : List Ent
  chs : List Int
  keys : List ByteArray
  kids : List Int
  next : Int
  data : ByteArray
/-- The slices of a node's lists. -/
structure Nv where
  e : Value
  c : Value
  k : Value
  h : Value
def Nd.arr (n : Nd) (v : Nv) : Array Value := #[.int .i64 n.kind, v.e, v.c, v.k, v.h, .int .i64 n.next, .string n.data]
/-- The slices v hold the lists of n. -/
structure Ls (w : World) (v : Nv) (n : Nd) : Prop where
  e : Ents w v.e n.ents
  c : Ints w v.c n.chs
  k : Strs w v.k n.keys
  h : Ints w v.h n.kids
theorem Ls.below {w w' : World} {v : Nv} {n : Nd} (H : Ls w v n) (hb : Below w.heap.size w w') : Ls w' v n := ⟨H.e.below hb, H.c.below hb, H.k.below hb, H.h.below hb⟩
/-- What is asked of a node's sizes. -/
structure Sz (n : Nd) : Prop where
  e : n.ents.length ≤ 8796093022208
  c : n.chs.length ≤ 17592186044416
  k : n.keys.length ≤ 8796093022208
  h : n.kids.length ≤ 17592186044416
  c6 : In64 n.chs
  h6 : In64 n.kids
def leafG : ByteArray → List Ent → List Int → Bool
  | _, [], _ => true
  | _, _ :: _, [] => false
  | l, e :: es, c :: cs => folB l e.1 && staB e.2 c && leafG e.1 es cs
def leafB (n : Nd) : Bool := decide (n.kind = 1) && (decide (n.ents.length ≠ 0) && (decide (n.chs.length = n.ents.length) && (decide (n.keys.length = 0) && (decide (n.kids.length = 0) && (decide (n.next = 0) && (decide (n.data.size = 0) && leafG ⟨#[]⟩ n.ents n.chs))))))
theorem leafG_at (l : ByteArray) (es : List Ent) (cs : List Int) (k : Nat) (h1 : k < es.length) (h2 : k < cs.length) : leafG l (es.drop k) (cs.drop k) = (folB l (es.getD k (⟨#[]⟩, ⟨#[]⟩)).1 && staB (es.getD k (⟨#[]⟩, ⟨#[]⟩)).2 (cs.getD k 0) && leafG (es.getD k (⟨#[]⟩, ⟨#[]⟩)).1 (es.drop (k + 1)) (cs.drop (k + 1))) := by
  have e1 : es.drop k = es.getD k (⟨#[]⟩, ⟨#[]⟩) :: es.drop (k + 1) := by rw [List.getD_eq_getElem?_getD, List.getElem?_eq_getElem h1]; simp
  have e2 : cs.drop k = cs.getD k 0 :: cs.drop (k + 1) := by rw [List.getD_eq_getElem?_getD, List.getElem?_eq_getElem h2]; simp
  rw [e1, e2, leafG]
theorem isEmpty_of (t : ByteArray) : t.toList.isEmpty = decide (t.size = 0) := by
  rw [ByteArray.toList_eq]
  obtain ⟨⟨l⟩⟩ := t
  cases l <;> simp [ByteArray.size]
set_option maxHeartbeats 8000000 in
set_option maxRecDepth 100000 in
theorem isLeaf_any (n : Nd) (v : Nv) (w : World) (hv : Ls w v n) (hz : Sz n) :
    Calls Try.prog 17 #[.agg (n.arr v)] w fun e w' => e = .returned (.bool (leafB n)) ∧ Below w.heap.size w w' := by
  have V := Lib.hid hv
  have Z := Lib.hid hz
  have FO := Lib.hid follows_any
  have ST := Lib.hid stands_any
  obtain ⟨r, hr⟩ : ∃ r, r = leafB n := ⟨_, rfl⟩
  rw [← hr]
  have RR := Lib.hid hr
  have BB : Hid (Below w.heap.size w (w.alloc (.cells (n.arr v) 27))) := Lib.hid ((Below.refl _ _).alloc (Nat.le_refl _) _)
  obtain ⟨kind, ents, chs, keys, kids, next, data⟩ := n
  obtain ⟨ve, vc, vk, vh⟩ := v
  unfold leafB at RR
  simp only at RR
  obtain ⟨ae, ce, he, hle, hme⟩ := hv.e.len
  obtain ⟨ac, cc, hc, hlc, hmc⟩ := hv.c.len
  obtain ⟨ak, ck, hk, hlk, hmk⟩ := hv.k.len
  obtain ⟨ah, ch, hh, hlh, hmh⟩ := hv.h.len
  simp only at he hc hk hh hle hlc hlk hlh
  subst he hc hk hh
  unfold maxLen at hme hmc hmk hmh
  unfold Nd.arr at BB ⊢
  simp only at BB ⊢
  obtain ⟨ne, hne⟩ : ∃ k, k = ents.length := ⟨_, rfl⟩
  obtain ⟨nc, hnc⟩ : ∃ k, k = chs.length := ⟨_, rfl⟩
  obtain ⟨nk, hnk⟩ : ∃ k, k = keys.length := ⟨_, rfl⟩
  obtain ⟨nh, hnh⟩ : ∃ k, k = kids.length := ⟨_, rfl⟩
  rw [← hne, ← hnc, ← hnk, ← hnh] at RR
  rw [← hne, ← hnc, ← hnk, ← hnh] at BB ⊢
  rw [← hne] at hle; rw [← hnc] at hlc; rw [← hnk] at hlk; rw [← hnh] at hlh
  have HE := Lib.hid hne; have HC := Lib.hid hnc; have HK := Lib.hid hnk; have HH := Lib.hid hnh
  clear hr hv hz hne hnc hnk hnh
  by_cases qk : kind = 1
  case neg =>
    have gk0 : (kind != 1) = true := by simp [qk]
    obtain rfl : r = false := by rw [RR.out, show decide (kind = 1) = false from decide_eq_false qk]; simp
    clear RR qk
    go_enter Try.func17, Try.ntmps17
    go_wp2_with fail
    go_ret
    exact ⟨rfl, BB.out⟩
  have gk0 : (kind != 1) = false := by simp [qk]
  by_cases qe : ne ≠ 0
  case neg =>
    have ge0 : ((ne : Int) == 0) = true := by rw [beq_iff_eq]; omega
    obtain rfl : r = false := by rw [RR.out, show decide (kind = 1) = true from decide_eq_true qk, show decide (ne ≠ 0) = false from decide_eq_false qe]; simp
    clear RR qk qe
    go_enter Try.func17, Try.ntmps17
    go_wp2_with fail
    go_ret
    exact ⟨rfl, BB.out⟩
  have ge0 : ((ne : Int) == 0) = false := by rw [beq_eq_false_iff_ne]; omega
  by_cases qc : nc = ne
  case neg =>
    have gc0 : ((nc : Int) != (ne : Int)) = true := by rw [bne_iff_ne]; omega
    obtain rfl : r = false := by rw [RR.out, show decide (kind = 1) = true from decide_eq_true qk, show decide (ne ≠ 0) = true from decide_eq_true qe, show decide (nc = ne) = false from decide_eq_false qc]; simp
    clear RR qk qe qc
    go_enter Try.func17, Try.ntmps17
    go_wp2_with fail
    go_ret
    exact ⟨rfl, BB.out⟩
  have gc0 : ((nc : Int) != (ne : Int)) = false := by rw [bne_eq_false_iff_eq]; omega
  by_cases qy : nk = 0
  case neg =>
    have gy0 : decide ((nk : Int) > 0) = true := decide_eq_true (by omega)
    have gy1 : decide (0 < nk) = true := decide_eq_true (by omega)
    obtain rfl : r = false := by rw [RR.out, show decide (kind = 1) = true from decide_eq_true qk, show decide (ne ≠ 0) = true from decide_eq_true qe, show decide (nc = ne) = true from decide_eq_true qc, show decide (nk = 0) = false from decide_eq_false qy]; simp
    clear RR qk qe qc qy
    go_enter Try.func17, Try.ntmps17
    go_wp2_with fail
    go_ret
    exact ⟨rfl, BB.out⟩
  have gy0 : decide ((nk : Int) > 0) = false := decide_eq_false (by omega)
  have gy1 : decide (0 < nk) = false := decide_eq_false (by omega)
  by_cases qh : nh = 0
  case neg =>
    have gh0 : decide ((nh : Int) > 0) = true := decide_eq_true (by omega)
    have gh1 : decide (0 < nh) = true := decide_eq_true (by omega)
    obtain rfl : r = false := by rw [RR.out, show decide (kind = 1) = true from decide_eq_true qk, show decide (ne ≠ 0) = true from decide_eq_true qe, show decide (nc = ne) = true from decide_eq_true qc, show decide (nk = 0) = true from decide_eq_true qy, show decide (nh = 0) = false from decide_eq_false qh]; simp
    clear RR qk qe qc qy qh
    go_enter Try.func17, Try.ntmps17
    go_wp2_with fail
    go_ret
    exact ⟨rfl, BB.out⟩
  have gh0 : decide ((nh : Int) > 0) = false := decide_eq_false (by omega)
  have gh1 : decide (0 < nh) = false := decide_eq_false (by omega)
  by_cases qn : next = 0
  case neg =>
    have gn0 : (next != 0) = true := by simp [qn]
    obtain rfl : r = false := by rw [RR.out, show decide (kind = 1) = true from decide_eq_true qk, show decide (ne ≠ 0) = true from decide_eq_true qe, show decide (nc = ne) = true from decide_eq_true qc, show decide (nk = 0) = true from decide_eq_true qy, show decide (nh = 0) = true from decide_eq_true qh, show decide (next = 0) = false from decide_eq_false qn]; simp
    clear RR qk qe qc qy qh qn
    go_enter Try.func17, Try.ntmps17
    go_wp2_with fail
    go_ret
    exact ⟨rfl, BB.out⟩
  have gn0 : (next != 0) = false := by simp [qn]
  by_cases qd : data.size = 0
  case neg =>
    have gd0 : data.toList.isEmpty = false := by rw [isEmpty_of]; exact decide_eq_false qd
    obtain rfl : r = false := by rw [RR.out, show decide (kind = 1) = true from decide_eq_true qk, show decide (ne ≠ 0) = true from decide_eq_true qe, show decide (nc = ne) = true from decide_eq_true qc, show decide (nk = 0) = true from decide_eq_true qy, show decide (nh = 0) = true from decide_eq_true qh, show decide (next = 0) = true from decide_eq_true qn, show decide (data.size = 0) = false from decide_eq_false qd]; simp
    clear RR qk qe qc qy qh qn qd
    go_enter Try.func17, Try.ntmps17
    go_wp2_with fail
    go_ret
    exact ⟨rfl, BB.out⟩
  have gd0 : data.toList.isEmpty = true := by rw [isEmpty_of]; exact decide_eq_true qd
  have RL : Hid (r = leafG ⟨#[]⟩ ents chs) := Lib.hid (by rw [RR.out, show decide (kind = 1) = true from decide_eq_true qk, show decide (ne ≠ 0) = true from decide_eq_true qe, show decide (nc = ne) = true from decide_eq_true qc, show decide (nk = 0) = true from decide_eq_true qy, show decide (nh = 0) = true from decide_eq_true qh, show decide (next = 0) = true from decide_eq_true qn, show decide (data.size = 0) = true from decide_eq_true qd]; simp)
  clear RR
  have QS := Lib.hid (And.intro qe qc)
  clear qk qe qc qy qh qn qd
  obtain ⟨gx, hgx⟩ : ∃ gx, gx = w.heap.size := ⟨_, rfl⟩
  obtain ⟨X, hX⟩ : ∃ X, X = w.alloc (.cells #[.int .i64 kind, .slice ae ne ce, .slice ac nc cc, .slice ak nk ck, .slice ah nh ch, .int .i64 next, .string data] 27) := ⟨_, rfl⟩
  have XG : Hid (X.heap[gx]? = some (.cells #[.int .i64 kind, .slice ae ne ce, .slice ac nc cc, .slice ak nk ck, .slice ah nh ch, .int .i64 next, .string data] 27 (0, 0))) := Lib.hid (by rw [hX, hgx]; exact heap_alloc_new _ _)
  have cX : ∀ k, X.cell? ⟨gx, k, none⟩ = (#[.int .i64 kind, .slice ae ne ce, .slice ac nc cc, .slice ak nk ck, .slice ah nh ch, .int .i64 next, .string data] : Array Value)[k]? := fun k => cell_of_row X gx k _ _ _ XG.out
  have cX0 := cX 0; have cX1 := cX 1; have cX2 := cX 2; have cX3 := cX 3; have cX4 := cX 4; have cX5 := cX 5; have cX6 := cX 6
  simp only [List.getElem?_toArray, List.getElem?_cons_zero, List.getElem?_cons_succ] at cX0 cX1 cX2 cX3 cX4 cX5 cX6
  have XX : Hid (Below w.heap.size w X ∧ w.heap.size ≤ gx ∧ gx < X.heap.size) := Lib.hid ⟨by rw [hX]; exact BB.out, by omega, by rw [hX, hgx]; simp⟩
  have hX' := hX.symm
  have hgx' := hgx.symm
  clear BB hX hgx cX
  go_enter Try.func17, Try.ntmps17
  go_wp2_with fail
  clear cX0 cX1 cX2 cX3 cX4 cX5 cX6 hX' hgx'
  go_loopg [3, 47] ne (fun g s3 si wr => ∃ (k : Nat) (l : ByteArray), k ≤ ne ∧ g = ne - k ∧ si = .int .i64 k ∧ s3 = .string l ∧ r = leafG l (ents.drop k) (chs.drop k) ∧ Below X.heap.size X wr)
  case atStart => exact ⟨0, _, Nat.zero_le _, rfl, rfl, rfl, RL.out, Below.refl _ _⟩
  case round =>
    obtain ⟨k, l, hk, hg, rfl, rfl, hl, hb⟩ := hrel
    have R : Aside (gk = ne - k ∧ r = leafG l (ents.drop k) (chs.drop k) ∧ Below X.heap.size X wr) := ⟨hg, hl, hb⟩
    clear hg hl hb
    by_cases hlt : k < ne
    · have W0 := Lib.hid (XX.out.1.trans (R.out.2.2.mono XX.out.1.size))
      obtain ⟨b, off, hae, c0, c1⟩ := (V.out.e.below W0.out).at k (by rw [← HE.out]; exact hlt)
      obtain ⟨b', off', hac, d0⟩ := (V.out.c.below W0.out).at k (by rw [← HC.out, QS.out.2]; exact hlt)
      simp only at hae hac c0 c1 d0
      have GT := Lib.hid (leafG_at l ents chs k (by rw [← HE.out]; exact hlt) (by rw [← HC.out, QS.out.2]; exact hlt))
      obtain ⟨x, hx⟩ : ∃ x, x = ents.getD k (⟨#[]⟩, ⟨#[]⟩) := ⟨_, rfl⟩
      obtain ⟨c, hc⟩ : ∃ c, c = chs.getD k 0 := ⟨_, rfl⟩
      rw [← hx] at c0 c1
      rw [← hc] at d0
      rw [← hx, ← hc] at GT
      obtain ⟨xk, xv⟩ := x
      simp only at c0 c1 GT
      clear hx hc
      subst hae hac
      have hlt' : (k : Int) < (ne : Int) := by omega
      have hltc : (k : Int) < (nc : Int) := by have := QS.out.2; omega
      have A0 : ∀ ob, (wr.alloc ob).cell? ⟨gx, 0, none⟩ = some (.int .i64 kind) := fun ob => by
        rw [cell_of_row (wr.alloc ob) gx 0 _ _ _ (by rw [Below.heap_alloc _ _ _ (by have := R.out.2.2.size; have := XX.out.2.2; omega), R.out.2.2.block _ XX.out.2.2]; exact XG.out)]; rfl
      have A2 : ∀ ob, (wr.alloc ob).cell? ⟨gx, 2, none⟩ = some (.slice (some ⟨b', off', none⟩) nc cc) := fun ob => by
        rw [cell_of_row (wr.alloc ob) gx 2 _ _ _ (by rw [Below.heap_alloc _ _ _ (by have := R.out.2.2.size; have := XX.out.2.2; omega), R.out.2.2.block _ XX.out.2.2]; exact XG.out)]; rfl
      have AD : ∀ ob, (wr.alloc ob).cell? ⟨b', off' + k, none⟩ = some (.int .i64 c) := fun ob => by
        rw [(((Below.refl wr.heap.size wr).alloc (Nat.le_refl _) ob)).cell (block_lt_of_cell d0)]; exact d0
      have BL : Hid (∀ ob n, Below w.heap.size w ((wr.alloc ob).drewN n) ∧ Below X.heap.size X ((wr.alloc ob).drewN n)) := Lib.hid (fun ob n => ⟨(W0.out.alloc W0.out.size ob).trans ((below_drawn _ n).mono (by have := W0.out.size; simp; omega)), (R.out.2.2.alloc R.out.2.2.size ob).trans ((below_drawn _ n).mono (by have := R.out.2.2.size; simp; omega))⟩)
      cases hf : folB l xk with
      | false =>
        have hA : Hid (r = false) := Lib.hid (by rw [R.out.2.1, GT.out, hf]; rfl)
        have F1 := Lib.hid (fun w => (hf ▸ follows_any l xk w : Calls Try.prog 28 #[.string l, .string xk] w fun e w' => e = .returned (.bool false) ∧ w' = w))
        go_wp2_with fail
        go_quiet (first | (go_at_call 28; refine Calls.quiet_of_same (F1.out _)))
        go_wp2_with fail
        go_ret
        exact ⟨by rw [hA.out]; rfl, (BL.out _ _).1⟩
      | true =>
        have F1 := Lib.hid (fun w => (hf ▸ follows_any l xk w : Calls Try.prog 28 #[.string l, .string xk] w fun e w' => e = .returned (.bool true) ∧ w' = w))
        cases hs : staB xv c with
        | false =>
          have hA : Hid (r = false) := Lib.hid (by rw [R.out.2.1, GT.out, hf, hs]; rfl)
          have F2 := Lib.hid (fun w => (hs ▸ stands_any xv c w : Calls Try.prog 29 #[.string xv, .int .i64 c] w fun e w' => e = .returned (.bool false) ∧ w' = w))
          go_wp2_with fail
          go_quiet (first | (go_at_call 28; refine Calls.quiet_of_same (F1.out _)) | (go_at_call 29; refine Calls.quiet_of_same (F2.out _)))
          go_wp2_with fail
          go_ret
          exact ⟨by rw [hA.out]; rfl, (BL.out _ _).1⟩
        | true =>
          have hA : Hid (r = leafG xk (ents.drop (k + 1)) (chs.drop (k + 1))) := Lib.hid (by rw [R.out.2.1, GT.out, hf, hs]; rfl)
          have F2 := Lib.hid (fun w => (hs ▸ stands_any xv c w : Calls Try.prog 29 #[.string xv, .int .i64 c] w fun e w' => e = .returned (.bool true) ∧ w' = w))
          go_wp2_with fail
          go_quiet (first | (go_at_call 28; refine Calls.quiet_of_same (F1.out _)) | (go_at_call 29; refine Calls.quiet_of_same (F2.out _)))
          go_wp2_with fail
          go_roundg (ne - (k + 1))
          case measure => have := R.out.1; omega
          case rel => exact ⟨k + 1, xk, by omega, rfl, by go_num, rfl, hA.out, (BL.out _ _).2⟩
    · have hA : Hid (r = true) := Lib.hid (by rw [R.out.2.1, List.drop_eq_nil_of_le (by rw [← HE.out]; omega)]; rfl)
      go_wp2_with fail
      go_ret
      exact ⟨by rw [hA.out]; rfl, XX.out.1.trans (R.out.2.2.mono XX.out.1.size)⟩
end Go.Proofs.Ytmoghdpjemidgaa
