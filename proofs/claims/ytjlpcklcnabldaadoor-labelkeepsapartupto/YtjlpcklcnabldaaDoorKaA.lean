/-
  Rows of texts that are turned; lists of terms that stay where other memory is written.
-/
import Derived.Test.YtjlpcklcnabldaaDoorNrE
import Derived.Test.YtjlpcklcnabldaaDoorLSameT
import Derived.Test.YtjlpcklcnabldaaDoorLPathA
import Derived.Test.YtjlpcklcnabldaaDoorLJoins
import Derived.ArgAppend
import Derived.Laws.AppendOwn
import Derived.Laws.Rows
import Derived.Laws.Tables
namespace Go.Proofs.YtjlpcklcnabldaaDoor
open Go.RowKit
section
variable {α : Type} {K : Kd α}
theorem OwnR.grownO {B : Nat} {w w' : World} {v : Value} {l : List α} {r : Option Nat} (H : OwnR K B w v l) (hg : w.grownBy w' r) (hne : ∀ k, v.ownBlock = some k → some k ≠ r) : OwnR K B w' v l := by
  obtain ⟨h1, h | ⟨g, cap, cur, hv, hB, hg', hr⟩⟩ := H
  · exact ⟨h1, .inl h⟩
  · have hlt : g < w.heap.size := by
      rcases Nat.lt_or_ge g w.heap.size with q | q
      · exact q
      · rw [Array.getElem?_eq_none q] at hg'; simp at hg'
    subst hv
    exact ⟨h1, .inr ⟨g, cap, cur, rfl, hB, by rw [hg.block g hlt (hne g rfl)]; exact hg', hr⟩⟩
theorem grown_row (w : World) (g : Nat) (cs : Array Value) : w.grownBy (w.setRow g cs) (some g) := ⟨rfl, rfl, rfl, by simp [World.setRow], fun k _ hn => setRow_other w g k cs (fun e => hn (by rw [e]))⟩
theorem app_moreK (ok : K.Ok) {ops : Array Oper} {rest : List Oper} {o : Oper} {a : Act} {Q : Exit → Act → World → Prop} (hgd : o.guard = none) (s y : Operand)
    (ho : o.op = .call { callee := .builtin .append, args := #[s, y], argTypes := #[K.s, K.s] })
    {B : Nat} {w0 : World} {g n cap : Nat} {xs : List α} (hs : a.eval s = .slice (some ⟨g, 0, none⟩) n cap) (hown : OwnR K B w0 (.slice (some ⟨g, 0, none⟩) n cap) xs) (hB : B ≤ w0.heap.size) (x : α) {gg : Nat} (hgg : gg = w0.heap.size) {cs : Array Value} (hcs : cs = (K.c x).toArray)
    (hy : a.eval y = .slice (some ⟨gg, 0, none⟩) 1 1) (hl : (xs.length + 1) * K.b ≤ 140737488355328)
    (h : ∀ v' w', OwnR K B w' (.slice (some ⟨g, 0, none⟩) n cap) xs → OwnR K B w' v' (xs ++ [x]) → w0.grownBy w' (some g) → wpList Tryd.prog ops Q rest (a.put o.dst v') w') :
    wpList Tryd.prog ops Q (o :: rest) a (w0.alloc (.cells cs K.t)) := by
  subst hgg hcs
  obtain ⟨zv, hinf, hzc⟩ := ok.inf
  obtain ⟨i0, hi, hz0, hz1, hz2⟩ := info_parts hinf
  have hb0 := ok.by0
  obtain ⟨cur, rfl, hbg, hg, hnc, hcm, hsz, ht⟩ := hown.parts
  have hlt : g < w0.heap.size := (Array.getElem?_eq_some_iff.1 hg).1
  have hg1 : (w0.alloc (.cells (K.c x).toArray K.t)).heap[g]? = some (.cells cur K.t (0, 0)) := by rw [Below.heap_alloc _ _ _ hlt]; exact hg
  have hnews : ∀ j u, (K.c x)[j]? = some u → (w0.alloc (.cells (K.c x).toArray K.t)).cell? ((⟨w0.heap.size, 0, none⟩ : Addr).add j) = some u := fun j u hj => by
    rw [add_plain, Nat.zero_add, World.cell?_alloc_new, ← Array.getElem?_toList]; exact hj
  have hlen1 : (K.c x).length = 1 * i0.size := by rw [ok.len, hz1, Nat.one_mul]
  have hxl : (cellsR K xs).length = xs.length * K.k := cellsR_length ok xs
  refine wpList_plain hgd fun K' hK' => ?_
  by_cases hroom : xs.length + 1 ≤ cap
  · have hfit : xs.length * i0.size + (K.c x).length ≤ cur.size := by
      rw [hz1, ok.len, hsz, ← Nat.succ_mul]; exact Nat.mul_le_mul_right _ hroom
    have hr := run_append_room (P := Tryd.prog) (w := w0.alloc (.cells (K.c x).toArray K.t)) K.s o.type K.t i0 ok.und hi g xs.length cap cur hg1 ⟨w0.heap.size, 0, none⟩ 1 1 (K.c x) hlen1 hnews (ok.one x) hroom hfit
    obtain ⟨row, hrow⟩ : ∃ row, row = (cur.toList.take (xs.length * i0.size) ++ K.c x ++ cur.toList.drop (xs.length * i0.size + (K.c x).length)).toArray := ⟨_, rfl⟩
    rw [← hrow] at hr
    unfold Oper.wp execOp
    simp only [ho, resolve, invoke, builtin, Sem.run_bind, Sem.run_pure, Result.andThen_ok, List.map_toArray, List.map_cons, List.map_nil, hs, hy, hr]
    have hg2 := setRow_heap _ g cur row K.t (0, 0) hg1
    have ht' : cur.toList.take (xs.length * i0.size) = cellsR K xs := by rw [hz1]; exact ht
    have hrl : row.toList = cellsR K xs ++ K.c x ++ cur.toList.drop (xs.length * i0.size + (K.c x).length) := by rw [hrow, ht']
    have hrs : row.size = cap * K.k := by
      have e : row.toList.length = (cellsR K xs).length + (K.c x).length + (cur.toList.length - (xs.length * i0.size + (K.c x).length)) := by rw [hrl, List.length_append, List.length_append, List.length_drop]
      have e1 : row.toList.length = row.size := Array.length_toList
      have e2 : cur.toList.length = cur.size := Array.length_toList
      rw [e1, e2, hxl, ok.len, hz1, hsz] at e
      rw [hz1, ok.len, hsz] at hfit
      omega
    have o1 : OwnR K B ((w0.alloc (.cells (K.c x).toArray K.t)).setRow g row) (.slice (some ⟨g, 0, none⟩) xs.length cap) xs := OwnR.ofParts ok hbg hg2 hnc hcm hrs (by rw [hrl, List.append_assoc, ← hxl, List.take_left])
    have o2 : OwnR K B ((w0.alloc (.cells (K.c x).toArray K.t)).setRow g row) (.slice (some ⟨g, 0, none⟩) (xs ++ [x]).length cap) (xs ++ [x]) := OwnR.ofParts ok hbg hg2 (by simpa using hroom) hcm hrs (by
      rw [hrl, cellsR_app, cellsR_single]
      have e : (xs ++ [x]).length * K.k = (cellsR K xs ++ K.c x).length := by rw [List.length_append, List.length_append, hxl, ok.len, List.length_singleton, Nat.succ_mul]
      rw [e, List.take_left])
    have g1 : w0.grownBy ((w0.alloc (.cells (K.c x).toArray K.t)).setRow g row) (some g) := (World.grownBy_alloc w0 _ (some g)).trans (grown_row _ g row)
    have e3 : (xs ++ [x]).length = xs.length + 1 := by simp
    rw [e3] at o2
    exact hK' _ _ (h _ _ o1 o2 g1)
  · have hcells : ∀ j u, (cellsR K xs)[j]? = some u → (w0.alloc (.cells (K.c x).toArray K.t)).cell? ((⟨g, 0, none⟩ : Addr).add j) = some u := fun j u hj => by
      have hjl : j < xs.length * K.k := by
        rcases Nat.lt_or_ge j (xs.length * K.k) with q | q
        · exact q
        · rw [List.getElem?_eq_none (by rw [hxl]; exact q)] at hj; simp at hj
      rw [add_plain, Nat.zero_add, cell_of_row _ _ _ _ _ _ hg1, ← Array.getElem?_toList, ← List.getElem?_take_of_lt hjl, ht]
      exact hj
    obtain ⟨v', w', hr, h2, h3⟩ := run_append_arg_grows (P := Tryd.prog) (w := w0.alloc (.cells (K.c x).toArray K.t)) K.s o.type K.t i0 zv K.k K.b ok.und hi hz0 hz1 hz2 hzc ok.pos ⟨g, 0, none⟩ xs.length cap (cellsR K xs) hxl hcells ⟨w0.heap.size, 0, none⟩ 1 1 (K.c x) (by rw [ok.len, Nat.one_mul]) hnews (by omega) (by have := Nat.le_mul_of_pos_right (xs.length + 1) hb0.1; unfold maxLen; omega) hl
    unfold Oper.wp execOp
    simp only [ho, resolve, invoke, builtin, Sem.run_bind, Sem.run_pure, Result.andThen_ok, List.map_toArray, List.map_cons, List.map_nil, hs, hy, hr]
    have g1 : w0.grownBy w' none := (World.grownBy_alloc w0 _ none).trans h3
    have o2 : OwnR K (w0.alloc (.cells (K.c x).toArray K.t)).heap.size w' v' (xs ++ [x]) := by
      show w'.ownsRow _ _ _ _ _ _
      rw [cellsR_app, cellsR_single, List.length_append]
      exact h2
    exact hK' _ _ (h _ _ (hown.grownO g1 (fun k _ q => by simp at q)) (o2.mono (by simp; omega)) (World.grownBy.but g1 _))
end
def kT : Kd ByteArray := ⟨fun t => [.string t], 1, 9, 23, 16, ⟨#[]⟩⟩
theorem okT : kT.Ok := ⟨fun _ => rfl, by decide, fun x u hu => by simp only [kT, List.mem_cons, List.not_mem_nil, or_false] at hu; subst hu; rfl, Tryd.underlying23, ⟨_, L.info_str, rfl⟩, by decide⟩
theorem cells_kT (ts : List ByteArray) : cellsR kT ts = L.cellsS ts := by
  induction ts with
  | nil => rfl
  | cons t r ih =>
    unfold cellsR at ih ⊢
    unfold L.cellsS at ih ⊢
    rw [List.flatMap_cons, ih]; rfl
theorem own_kT {B : Nat} {w : World} {v : Value} {ts : List ByteArray} : L.OwnS B w v ts ↔ OwnR kT B w v ts := by
  unfold L.OwnS
  show _ ↔ w.ownsRow B kT.t kT.k v ts.length (cellsR kT ts)
  rw [cells_kT]; exact Iff.rfl
theorem ownS_slice {B : Nat} {w : World} {v : Value} {ts : List ByteArray} (h : L.OwnS B w v ts) : ∃ a c, v = .slice a ts.length c := (own_kT.1 h).slice
theorem ownS_mono {B B' : Nat} {w : World} {v : Value} {ts : List ByteArray} (h : L.OwnS B w v ts) (hB : B' ≤ B) : L.OwnS B' w v ts := own_kT.2 ((own_kT.1 h).mono hB)
theorem ownS_nil (B : Nat) (w : World) : L.OwnS B w (.slice none 0 0) [] := own_kT.2 (OwnR.nil _ _ _)
/-- What lies from a bound on stays. -/
structure Hi (B : Nat) (w w' : World) : Prop where
  block : ∀ k, B ≤ k → k < w.heap.size → w'.heap[k]? = w.heap[k]?
  size : w.heap.size ≤ w'.heap.size
theorem Hi.refl (B : Nat) (w : World) : Hi B w w := ⟨fun _ _ _ => rfl, Nat.le_refl _⟩
theorem Hi.trans {B : Nat} {w x y : World} (h : Hi B w x) (h' : Hi B x y) : Hi B w y := ⟨fun k hk hl => (h'.block k hk (Nat.lt_of_lt_of_le hl h.size)).trans (h.block k hk hl), Nat.le_trans h.size h'.size⟩
theorem Hi.mono {B B' : Nat} {w x : World} (h : Hi B w x) (hB : B ≤ B') : Hi B' w x := ⟨fun k hk hl => h.block k (Nat.le_trans hB hk) hl, h.size⟩
theorem Hi.below {B : Nat} {w x : World} (h : Below w.heap.size w x) : Hi B w x := ⟨fun k _ hl => h.block k hl, h.size⟩
theorem Hi.set {B : Nat} (w : World) (p : Addr) (u : Value) (h : p.block < B) : Hi B w (w.setCell p u) := ⟨fun k hk _ => Below.heap_setCell _ _ _ _ (by omega), by simp [World.setCell]⟩
theorem Hi.grown {B : Nat} {w x : World} {r : Option Nat} (h : w.grownBy x r) (hr : ∀ k, r = some k → k < B) : Hi B w x := ⟨fun k hk hl => h.block k hl (fun e => by have := hr k e.symm; omega), h.size⟩
theorem ownS_hi {B : Nat} {w w' : World} {v : Value} {ts : List ByteArray} (h : L.OwnS B w v ts) (hh : Hi B w w') : L.OwnS B w' v ts := by
  obtain ⟨h1, q | ⟨g, cap, cur, hv, hB, hg, hr⟩⟩ := h
  · exact ⟨h1, .inl q⟩
  · exact ⟨h1, .inr ⟨g, cap, cur, hv, hB, (hh.block g hB (Array.getElem?_eq_some_iff.1 hg).1).trans hg, hr⟩⟩
theorem ownTs_hi {B : Nat} {w w' : World} {v : Value} {ys : List L.Trm} (h : L.OwnTs B w v ys) (hh : Hi B w w') : L.OwnTs B w' v ys := by
  obtain ⟨⟨g, rfl, hB, hrow, hy⟩, hp⟩ := h
  exact ⟨⟨g, rfl, hB, (hh.block g hB hrow.lt).trans hrow, fun y hm => ⟨ownS_hi (hy y hm).1 (hh.mono (by omega)), (hy y hm).2⟩⟩, hp⟩
theorem copied_hi {B : Nat} {w w' : World} {v : Value} {ys : List L.Trm} (h : L.Copied B w v ys) (hh : Hi B w w') : L.Copied B w' v ys := by
  refine ⟨?_, fun y hy => ⟨ownS_hi (h.2 y hy).1 hh, (h.2 y hy).2⟩⟩
  obtain ⟨h1, q | ⟨g, cap, cur, hv, hB, hg, hr⟩⟩ := h.1
  · exact ⟨h1, .inl q⟩
  · exact ⟨h1, .inr ⟨g, cap, cur, hv, hB, (hh.block g hB (Array.getElem?_eq_some_iff.1 hg).1).trans hg, hr⟩⟩
/-- A text of a row turned. -/
theorem ownS_set {B : Nat} {w : World} {g n cap : Nat} {ts : List ByteArray} (h : L.OwnS B w (.slice (some ⟨g, 0, none⟩) n cap) ts) (i : Nat) (hi : i < ts.length) (t : ByteArray) : L.OwnS B (w.setCell ⟨g, i, none⟩ (.string t)) (.slice (some ⟨g, 0, none⟩) n cap) (ts.set i t) := by
  have q := (own_kT.1 h).set okT i 0 hi (by decide) t (.string t) rfl
  have e : i * kT.k + 0 = i := by show i * 1 + 0 = i; omega
  rw [e] at q
  exact own_kT.2 q
theorem ownS_frz {B : Nat} {w : World} {g n cap : Nat} {ts : List ByteArray} (h : L.OwnS B w (.slice (some ⟨g, 0, none⟩) n cap) ts) (j : Nat) : w.frozen? ⟨g, j, none⟩ = false := by
  obtain ⟨cur, _, _, hg, _⟩ := (own_kT.1 h).parts
  exact frozen_row hg j
theorem ownS_at {B : Nat} {w : World} {g n cap : Nat} {ts : List ByteArray} (h : L.OwnS B w (.slice (some ⟨g, 0, none⟩) n cap) ts) (j : Nat) (hj : j < ts.length) : w.cell? ⟨g, j, none⟩ = some (.string (ts.getD j ⟨#[]⟩)) := by
  obtain ⟨b, off, e, hc⟩ := h.strs.at j hj
  simp only [Option.some.injEq, Addr.mk.injEq, and_true] at e
  obtain ⟨rfl, rfl⟩ := e
  rw [Nat.zero_add] at hc; exact hc
theorem ownS_some {B : Nat} {w : World} {a : Option Addr} {n c : Nat} {ts : List ByteArray} (h : L.OwnS B w (.slice a n c) ts) (hl : 0 < ts.length) : ∃ g, a = some ⟨g, 0, none⟩ ∧ n = ts.length ∧ B ≤ g ∧ g < w.heap.size := (own_kT.1 h).someOf hl
/-- One text behind a row: the row itself stays. -/
theorem app_keep {ops : Array Oper} {rest : List Oper} {o : Oper} {a : Act} {Q : Exit → Act → World → Prop} (hgd : o.guard = none) (s y : Operand)
    (ho : o.op = .call { callee := .builtin .append, args := #[s, y], argTypes := #[23, 23] })
    {B : Nat} {w0 : World} {va : Option Addr} {n c : Nat} {ts : List ByteArray} (hs : a.eval s = .slice va n c) (hown : L.OwnS B w0 (.slice va n c) ts) (hB : B ≤ w0.heap.size) (t : ByteArray) {gg : Nat} (hgg : gg = w0.heap.size)
    (hy : a.eval y = .slice (some ⟨gg, 0, none⟩) 1 1) (hl : (ts.length + 1) * 16 ≤ 140737488355328)
    (h : ∀ g2 m2 c2 w', Hid (L.OwnS B w' (.slice va n c) ts ∧ L.OwnS B w' (.slice (some ⟨g2, 0, none⟩) m2 c2) (ts ++ [t]) ∧ m2 = ts.length + 1 ∧ w0.grownBy w' (Value.slice va n c).ownBlock) → wpList Tryd.prog ops Q rest (a.put o.dst (.slice (some ⟨g2, 0, none⟩) m2 c2)) w') :
    wpList Tryd.prog ops Q (o :: rest) a (w0.alloc (.cells #[.string t] 9)) := by
  have key : ∀ v' w', OwnR kT B w' v' (ts ++ [t]) → ∃ g2 c2, v' = .slice (some ⟨g2, 0, none⟩) (ts.length + 1) c2 := fun v' w' q => by
    obtain ⟨a2, c2, e⟩ := q.slice
    subst e
    obtain ⟨g2, e2, _⟩ := q.someOf (by simp)
    exact ⟨g2, c2, by rw [e2, List.length_append]; rfl⟩
  obtain ⟨h1, ⟨hv, hn⟩ | ⟨g, cap, cur, hv, hbg, hg, hr⟩⟩ := hown
  · simp only [Value.slice.injEq] at hv
    obtain ⟨rfl, rfl, rfl⟩ := hv
    obtain rfl : ts = [] := by simpa using hn
    refine app_rowB okT hgd s y ho hs (own_kT.1 (ownS_nil B w0)) hB t hgg rfl hy hl ?_
    intro v' w' o2 g1
    obtain ⟨g2, c2, rfl⟩ := key v' w' o2
    exact h g2 _ c2 w' (Lib.hid ⟨ownS_nil _ _, own_kT.2 o2, rfl, g1⟩)
  · simp only [Value.slice.injEq] at hv
    obtain ⟨rfl, rfl, rfl⟩ := hv
    refine app_moreK okT hgd s y ho hs (own_kT.1 ⟨h1, .inr ⟨g, c, cur, rfl, hbg, hg, hr⟩⟩) hB t hgg rfl hy hl ?_
    intro v' w' o1 o2 g1
    obtain ⟨g2, c2, rfl⟩ := key v' w' o2
    exact h g2 _ c2 w' (Lib.hid ⟨own_kT.2 o1, own_kT.2 o2, rfl, g1⟩)
/-- Is each of them this text? -/
theorem all_yes (v : Value) (ts : List ByteArray) (s : ByteArray) (w : World) (hv : L.Strs w v ts) (h : ∀ t ∈ ts, t = s) :
    Calls Tryd.prog 7 #[v, .string s] w fun e w' => e = .returned (.bool true) ∧ w' = w := by
  have V := Lib.hid hv
  have H := Lib.hid h
  obtain ⟨va, vc, rfl, hlc, hcm⟩ := hv.len
  unfold maxLen at hcm
  obtain ⟨n, hn⟩ : ∃ n, n = ts.length := ⟨_, rfl⟩
  rw [← hn] at hlc V ⊢
  have HN := Lib.hid hn
  clear hv h hn
  go_enter Tryd.func7, Tryd.ntmps7
  go_wp2_with fail
  go_loopg [5] n (fun g si wr => ∃ k : Nat, g = n - k ∧ k ≤ n ∧ si = .int .i64 k ∧ wr = w)
  case atStart => exact ⟨0, rfl, Nat.zero_le _, rfl, rfl⟩
  case round =>
    obtain ⟨k, hg, hk, rfl, rfl⟩ := hrel
    have R := Lib.hid hg
    clear hg
    by_cases hlt : k < n
    · have hlt' : (k : Int) < (n : Int) := by omega
      obtain ⟨b, off, rfl, c0⟩ := V.out.at k (by rw [← HN.out]; exact hlt)
      have e := H.out _ (show ts.getD k ⟨#[]⟩ ∈ ts from by rw [List.getD_eq_getElem?_getD, List.getElem?_eq_getElem (by rw [← HN.out]; exact hlt)]; exact List.getElem_mem _)
      rw [e] at c0
      have ge : (s.toList == s.toList) = true := beq_self_eq_true _
      clear e
      go_wp2_with fail
      go_roundg (n - (k + 1))
      case measure => have := R.out; omega
      case rel => exact ⟨k + 1, rfl, by omega, by go_num, rfl⟩
    · have hge : decide ((k : Int) < (n : Int)) = false := decide_eq_false (by omega)
      go_wp2_with fail
      go_ret
      exact ⟨rfl, rfl⟩
end Go.Proofs.YtjlpcklcnabldaaDoor
