/-
  What the texts of page stand on: splices, numbers as bytes, sums, rows of numbers and of texts.
-/
import Derived.Test.YtmoghdpjemidgaaBase2
import Derived.Test.YtmoghdpjemidgaaSmC
import Derived.Laws.Bits64b
import Derived.Deep.MidRow
import Derived.Lib.Hide
import Derived.Laws.AppendOwnNone
import Derived.Maps.OwnSet
import Derived.Maps.OwnOps
import Derived.Maps.Own
import Derived.Maps.Views
namespace Go.Proofs.Ytmoghdpjemidgaa
open Go.RowKit Go.Maps
theorem splice_at {α : Type} (L : List α) (off : Nat) (cs : List α) (h : off + cs.length ≤ L.length) (k : Nat) : (splice L off cs)[k]? = if off ≤ k ∧ k < off + cs.length then cs[k - off]? else L[k]? := by
  unfold splice
  rw [List.getElem?_append, List.length_take, Nat.min_eq_left (by omega)]
  by_cases h1 : k < off
  · rw [if_pos h1, if_neg (by omega), List.getElem?_take_of_lt h1]
  · rw [if_neg h1, List.getElem?_append]
    by_cases h2 : k < off + cs.length
    · rw [if_pos (by omega), if_pos ⟨by omega, h2⟩]
    · rw [if_neg (by omega), if_neg (by omega), List.getElem?_drop]
      congr 1
      omega
theorem splice_map {α β : Type} (f : α → β) (L : List α) (off : Nat) (cs : List α) : (splice L off cs).map f = splice (L.map f) off (cs.map f) := by
  simp [splice, List.map_take, List.map_drop]
theorem splice_cells (L : List UInt8) (off : Nat) (cs : List UInt8) : splice (cells8 L) off (cells8 cs) = cells8 (splice L off cs) := by
  unfold cells8
  rw [splice_map]
/-- The n bytes of x, the lowest first. -/
def leB : Nat → Nat → List UInt8
  | 0, _ => []
  | n + 1, x => UInt8.ofNat (x % 256) :: leB n (x / 256)
/-- The number that bytes are. -/
def leN : List UInt8 → Nat
  | [] => 0
  | c :: l => c.toNat + 256 * leN l
theorem leB_length : ∀ n x, (leB n x).length = n
  | 0, _ => rfl
  | n + 1, x => by rw [leB, List.length_cons, leB_length n]
theorem leN_lt : ∀ l : List UInt8, leN l < 256 ^ l.length
  | [] => by simp [leN]
  | c :: l => by
    have h := leN_lt l
    have hc := c.toNat_lt
    rw [leN, List.length_cons, Nat.pow_succ]
    omega
theorem leN_leB : ∀ n x, x < 256 ^ n → leN (leB n x) = x
  | 0, x, h => by simp at h; subst h; rfl
  | n + 1, x, h => by
    rw [leB, leN, leN_leB n (x / 256) (by rw [Nat.pow_succ] at h; omega)]
    have : (UInt8.ofNat (x % 256)).toNat = x % 256 := by simp
    omega
theorem leB_leN : ∀ l : List UInt8, leB l.length (leN l) = l
  | [] => rfl
  | c :: l => by
    have hc := c.toNat_lt
    rw [List.length_cons, leB, leN]
    have h1 : (c.toNat + 256 * leN l) % 256 = c.toNat := by omega
    have h2 : (c.toNat + 256 * leN l) / 256 = leN l := by omega
    rw [h1, h2, leB_leN l]
    simp
theorem leB_snoc : ∀ n x, leB (n + 1) x = leB n x ++ [UInt8.ofNat (x / 256 ^ n % 256)]
  | 0, x => by simp [leB]
  | n + 1, x => by
    rw [leB, leB_snoc n (x / 256), leB, List.cons_append, Nat.div_div_eq_div_mul, Nat.pow_succ, Nat.mul_comm 256]
theorem leN_snoc : ∀ (l : List UInt8) (c : UInt8), leN (l ++ [c]) = leN l + c.toNat * 256 ^ l.length
  | [], c => by simp [leN]
  | d :: l, c => by
    rw [List.cons_append, leN, leN_snoc l c, leN, List.length_cons, Nat.pow_succ, Nat.mul_add]
    have : 256 * (c.toNat * 256 ^ l.length) = c.toNat * (256 ^ l.length * 256) := by rw [Nat.mul_left_comm, Nat.mul_comm 256]
    omega
theorem splice_snoc {α : Type} (L cs : List α) (x : α) (off : Nat) (h : off + cs.length < L.length) : (splice L off cs).set (off + cs.length) x = splice L off (cs ++ [x]) := by
  apply List.ext_getElem?
  intro j
  rw [splice_at _ _ _ (by rw [List.length_append]; simp; omega)]
  by_cases e : off + cs.length = j
  · subst e
    rw [List.getElem?_set_self (by rw [length_splice _ _ _ (by omega)]; exact h), if_pos (by simp)]
    simp
  · rw [List.getElem?_set_ne e, splice_at _ _ _ (by omega)]
    by_cases q : off ≤ j ∧ j < off + cs.length
    · rw [if_pos q, if_pos (by simp; omega), List.getElem?_append_left (by omega)]
    · rw [if_neg q, if_neg (by simp; omega)]
theorem txt_beq (l m : List UInt8) : ((txt l).toList == (txt m).toList) = decide (l = m) := by
  have h : ∀ x : List UInt8, (txt x).toList = x := fun x => by rw [ByteArray.toList_eq]; simp [txt]
  rw [h, h]
  by_cases e : l = m
  · simp [e]
  · rw [decide_eq_false e, beq_eq_false_iff_ne]; exact e
theorem own_of {B : Nat} {w : World} {g n : Nat} {l : List UInt8} (h : w.heap[g]? = some (.cells (cells8 l).toArray 5 (0, 0))) (hB : B ≤ g) (hn : l.length = n) (hm : n ≤ maxLen) : Own B w (.slice (some ⟨g, 0, none⟩) n n) l := by
  subst hn
  refine ⟨by rw [cells8_length, Nat.mul_one], .inr ⟨g, l.length, _, rfl, hB, h, Nat.le_refl _, hm, by simp [cells8_length], ?_⟩⟩
  rw [Nat.mul_one]
  exact List.take_of_length_le (by simp [cells8_length])
theorem made_zeros (n : Nat) : (madeCells #[Value.int .u8 0] n) = (cells8 (List.replicate n 0)).toArray := by
  apply Array.ext
  · simp [size_madeCells, cells8]
  · intro k h1 h2
    simp [madeCells, cells8, c8, Nat.mod_one]
theorem kept_setRow (w : World) (g : Nat) (cs : Array Value) : Kept (fun k => k = g) w (w.setRow g cs) := ⟨rfl, rfl, rfl, by simp [World.setRow], fun k _ hn => setRow_other w g k cs hn⟩
theorem src_row {w : World} {g off : Nat} {cur cs : List Value} {t : TypeId} {fr : Nat × Nat} (hg : w.heap[g]? = some (.cells cur.toArray t fr)) (h : ∀ j, j < cs.length → cur[off + j]? = cs[j]?) : ∀ j v, cs[j]? = some v → w.cell? ((⟨g, off, none⟩ : Addr).add j) = some v := by
  intro j v hv
  have hj : j < cs.length := (List.getElem?_eq_some_iff.1 hv).1
  rw [add_plain, cell_of_row w g _ _ _ _ hg, List.getElem?_toArray, h j hj, hv]
/-- The sum of bytes. -/
def crc (l : List UInt8) : Nat := (Sm.upd 0#32 (l.map (·.toBitVec))).toNat
theorem crc_lt (l : List UInt8) : crc l < 4294967296 := by unfold crc; exact BitVec.isLt _
theorem sm_bytes {w : World} {v : Value} {l : List UInt8} (h : Bytes w v l) : Sm.Bytes w v (l.map (·.toBitVec)) := by
  obtain ⟨a, cap, e, h1, h2, h3, h4⟩ := h
  refine ⟨a, cap, by rw [List.length_map]; exact e, by rw [List.length_map]; exact h1, h2, h3, fun k hk => ?_⟩
  rw [List.length_map] at hk
  obtain ⟨b, off, ea, hc⟩ := h4 k hk
  refine ⟨b, off, ea, ?_⟩
  rw [hc]
  congr 2
  unfold c8 Sm.c8
  rw [List.getD_eq_getElem?_getD, List.getD_eq_getElem?_getD, List.getElem?_map, List.getElem?_eq_getElem hk]
  rfl
theorem parts2_any (g : Nat) (v1 v2 : Value) (l1 l2 : List UInt8) (w : World) (h1 : Bytes w v1 l1) (h2 : Bytes w v2 l2) (c1 : w.cell? ⟨g, 0, none⟩ = some v1) (c2 : w.cell? ⟨g, 1, none⟩ = some v2) :
    Calls Try.prog 25 #[.slice (some ⟨g, 0, none⟩) 2 2] w fun e w' => e = .returned (.int .u32 (crc (l1 ++ l2) : Int)) ∧ Below w.heap.size w w' := by
  refine (Sm.parts_any _ [l1.map (·.toBitVec), l2.map (·.toBitVec)] w ⟨_, 2, rfl, by simp, by decide, fun k hk => ?_⟩).mono ?_
  · have hk2 : k < 2 := hk
    rcases Nat.lt_or_ge k 1 with q | q
    · obtain rfl : k = 0 := by omega
      exact ⟨g, 0, v1, rfl, c1, sm_bytes h1⟩
    · obtain rfl : k = 1 := by omega
      exact ⟨g, 0, v2, rfl, c2, sm_bytes h2⟩
  · rintro e w' ⟨r, rfl, hr, hb⟩
    refine ⟨?_, hb⟩
    rw [hr.out]
    unfold crc Sm.u
    simp
theorem sp0 {α : Type} (X C Y : List α) (h : X.length = Y.length) : splice (X ++ C) 0 Y = Y ++ C := by
  unfold splice
  rw [List.take_zero, List.nil_append, Nat.zero_add, List.drop_append_of_le_length (by omega), List.drop_eq_nil_of_le (by omega), List.nil_append]
theorem spA {α : Type} (A R Y : List α) (n k : Nat) (h : n = A.length + k) : splice (A ++ R) n Y = A ++ splice R k Y := by
  unfold splice
  subst h
  rw [List.take_length_add_append, show A.length + k + Y.length = A.length + (k + Y.length) by omega, List.drop_length_add_append]
  simp [List.append_assoc]
theorem wrap_in {x : Int} (h1 : -9223372036854775808 ≤ x) (h2 : x ≤ 9223372036854775807) : IntKind.i64.wrap x = x := by
  first | exact IntKind.wrap_of_inRange (by simp [IntKind.inRange]; omega) | (unfold IntKind.wrap; simp [IntKind.bits, IntKind.signed]; omega) | (simp [IntKind.wrap]; omega)
theorem Bytes.cut {w : World} {b off cap : Nat} {l : List UInt8} (H : Bytes w (.slice (some ⟨b, off, none⟩) l.length cap) l) (m : Nat) (hm : m ≤ l.length) : Bytes w (.slice (if cap = m then some ⟨b, off, none⟩ else some ⟨b, off + m, none⟩) (l.length - m) (cap - m)) (l.drop m) := by
  split
  · rename_i e
    subst e
    have h := H.drop_all hm
    rw [Nat.sub_self]
    exact h
  · have h := H.drop m hm
    simpa only [Option.map_some, add_plain] using h
def cellsI (l : List Int) : List Value := l.map (.int .i64 ·)
theorem cellsI_length (l : List Int) : (cellsI l).length = l.length := by simp [cellsI]
theorem cellsI_app (l m : List Int) : cellsI (l ++ m) = cellsI l ++ cellsI m := by simp [cellsI]
theorem cellsI_one (l : List Int) : ∀ v ∈ cellsI l, v.oneCell' = true := by
  intro v hv; simp only [cellsI, List.mem_map] at hv; obtain ⟨c, _, rfl⟩ := hv; rfl
theorem info_int : (Try.prog.info? 3).map (fun i => (i.zero, i.size, i.bytes)) = some (some (.int .i64 0), 1, 8) := by kernel_rfl
theorem lt_of_heap {w : World} {k : Nat} {o : Obj} (h : w.heap[k]? = some o) : k < w.heap.size := (Array.getElem?_eq_some_iff.1 h).1
/-- The slice v is the call's own and holds the numbers l. -/
def OwnI (B : Nat) (w : World) (v : Value) (l : List Int) : Prop := w.ownsRow B 3 1 v l.length (cellsI l)
/-- The slice v holds the numbers l. -/
def Ints (w : World) (v : Value) (l : List Int) : Prop :=
  ∃ a cap, v = .slice a l.length cap ∧ l.length ≤ cap ∧ cap ≤ maxLen ∧ (a = none → cap = 0) ∧ ∀ k, k < l.length → ∃ b off, a = some ⟨b, off, none⟩ ∧ w.cell? ⟨b, off + k, none⟩ = some (.int .i64 (l.getD k 0))
theorem OwnI.ints {B : Nat} {w : World} {v : Value} {l : List Int} (H : OwnI B w v l) : Ints w v l := by
  obtain ⟨_, ⟨hv, hn⟩ | ⟨g, cap, cur, hv, hb, hg, hn, hm, hs, ht⟩⟩ := H
  · exact ⟨none, 0, by rw [hv, hn], by omega, by decide, fun _ => rfl, fun k hk => by omega⟩
  · refine ⟨_, cap, hv, hn, hm, fun h => by simp at h, fun k hk => ⟨g, 0, rfl, ?_⟩⟩
    rw [cell_of_row w g (0 + k) cur _ _ hg, Nat.zero_add, ← Array.getElem?_toList]
    have h1 : (cur.toList.take (l.length * 1))[k]? = cur.toList[k]? := by rw [List.getElem?_take_of_lt (by omega)]
    rw [← h1, ht]
    simp [cellsI, hk]
theorem Ints.below {w w' : World} {v : Value} {l : List Int} (H : Ints w v l) (hb : Below w.heap.size w w') : Ints w' v l := by
  obtain ⟨a, cap, e, h1, h2, h0, h3⟩ := H
  refine ⟨a, cap, e, h1, h2, h0, fun k hk => ?_⟩
  obtain ⟨b, off, ea, hc⟩ := h3 k hk
  exact ⟨b, off, ea, by rw [hb.cell (p := ⟨b, off + k, none⟩) (block_lt_of_cell hc)]; exact hc⟩
theorem OwnI.lt {B : Nat} {w : World} {v : Value} {l : List Int} (h : OwnI B w v l) : ∀ k, v.ownBlock = some k → B ≤ k ∧ k < w.heap.size := World.ownsRow.lt h
theorem OwnI.kept {B : Nat} {F : Nat → Prop} {w w' : World} {v : Value} {l : List Int} (H : OwnI B w v l) (hk : Kept F w w') (hF : ∀ k, v.ownBlock = some k → ¬ F k) : OwnI B w' v l := by
  obtain ⟨h1, h | ⟨g, cap, cur, hv, hB, hg, hr⟩⟩ := H
  · exact ⟨h1, .inl h⟩
  · subst hv
    exact ⟨h1, .inr ⟨g, cap, cur, rfl, hB, by rw [hk.block g (lt_of_heap hg) (hF g rfl)]; exact hg, hr⟩⟩
theorem OwnI.below {B : Nat} {w w' : World} {v : Value} {l : List Int} (H : OwnI B w v l) (hb : Below w.heap.size w w') : OwnI B w' v l :=
  H.kept (Below.kept hb (fun _ => False)) fun _ _ h => h
theorem OwnI.mono {B B' : Nat} {w : World} {v : Value} {l : List Int} (H : OwnI B w v l) (h : B' ≤ B) : OwnI B' w v l := by
  obtain ⟨h1, h2 | ⟨g, cap, cur, hv, hB, hr⟩⟩ := H
  · exact ⟨h1, .inl h2⟩
  · exact ⟨h1, .inr ⟨g, cap, cur, hv, Nat.le_trans h hB, hr⟩⟩
theorem OwnI.nil (B : Nat) (w : World) : OwnI B w (.slice none 0 0) [] := World.ownsRow_nil _ _ _ _
theorem OwnI.row {B : Nat} {w : World} {v : Value} {l : List Int} (h : OwnI B w v l) {g : Nat} (hg : v.ownBlock = some g) : ∃ cur, w.heap[g]? = some (.cells cur 3 (0, 0)) := by
  obtain ⟨_, ⟨hv, _⟩ | ⟨g', cap, cur, hv, _, hh, _⟩⟩ := h
  · rw [hv] at hg; cases hg
  · rw [hv] at hg
    have e1 : g' = g := by injection hg
    subst e1
    exact ⟨cur, hh⟩
theorem OwnI.len {B : Nat} {w : World} {v : Value} {l : List Int} (h : OwnI B w v l) : ∃ a cap, v = .slice a l.length cap ∧ l.length ≤ cap ∧ cap ≤ 9223372036854775807 := by
  obtain ⟨a, cap, h1, h2, h3, _⟩ := h.ints
  exact ⟨a, cap, h1, h2, by unfold maxLen at h3; omega⟩
theorem newsI {w : World} {a : Addr} {l : List Int}
    (h : ∀ k, k < l.length → ∃ b off, some a = some (⟨b, off, none⟩ : Addr) ∧ w.cell? ⟨b, off + k, none⟩ = some (.int .i64 (l.getD k 0))) :
    ∀ j v, (cellsI l)[j]? = some v → w.cell? (a.add j) = some v := by
  intro j v hv
  have hj : j < l.length := by
    rcases Nat.lt_or_ge j l.length with q | q
    · exact q
    · rw [List.getElem?_eq_none (by rw [cellsI_length]; exact q)] at hv; simp at hv
  obtain ⟨b, off, ha, hc⟩ := h j hj
  obtain rfl : a = ⟨b, off, none⟩ := by simpa using ha
  have e : (cellsI l)[j]? = some (.int .i64 (l.getD j 0)) := by simp [cellsI, hj]
  rw [e] at hv
  rw [add_plain, hc]; exact hv
theorem own_ints {B : Nat} {w : World} {g n : Nat} {l : List Int} (h : w.heap[g]? = some (.cells (cellsI l).toArray 3 (0, 0))) (hB : B ≤ g) (hn : l.length = n) (hm : n ≤ maxLen) : OwnI B w (.slice (some ⟨g, 0, none⟩) n n) l := by
  subst hn
  refine ⟨by rw [cellsI_length, Nat.mul_one], .inr ⟨g, l.length, _, rfl, hB, h, Nat.le_refl _, hm, by simp [cellsI_length], ?_⟩⟩
  rw [Nat.mul_one]
  exact List.take_of_length_le (by simp [cellsI_length])
/-- Numbers behind a row of the call's own. -/
theorem app_ints {ops : Array Oper} {rest : List Oper} {o : Oper} {a : Act} {Q : Exit → Act → World → Prop} (hgd : o.guard = none) (s x : Operand)
    (ho : o.op = .call { callee := .builtin .append, args := #[s, x], argTypes := #[23, 23] })
    {B : Nat} {w : World} {v u : Value} {l m : List Int} (hs : a.eval s = v) (hown : OwnI B w v l) (hB : B ≤ w.heap.size) (hx : a.eval x = u) (hu : Ints w u m) (hl : l.length + m.length ≤ 17592186040320)
    (h : ∀ v' w', OwnI B w' v' (l ++ m) → w.grownBy w' v.ownBlock → At v v' w → wpList Try.prog ops Q rest (a.put o.dst v') w') :
    wpList Try.prog ops Q (o :: rest) a w := by
  obtain ⟨i0, hi, hz0, hz1, hz2⟩ := info_parts info_int
  obtain ⟨ad, cap, rfl, hlc, hcm, hn, hc⟩ := hu
  cases ad with
  | none =>
    obtain rfl := hn rfl
    obtain rfl : m = [] := by simpa using hlc
    refine wpList_append_own_none hgd s x 23 ho B 3 i0 1 Try.underlying23 hi v l.length (cellsI l) hs hown hx ?_
    exact h v w (by simpa using hown) ⟨rfl, rfl, rfl, Nat.le_refl _, fun _ _ _ => rfl⟩ (At.refl _ _)
  | some ad =>
    refine wpList_append_own_at w hgd s x 23 ho B 3 i0 (.int .i64 0) 1 8 Try.underlying23 hi hz0 hz1 hz2 rfl (by decide) v l.length (cellsI l) hs hown ad m.length cap (cellsI m) hx (by rw [cellsI_length]; omega) (newsI hc) (cellsI_one m) (by unfold maxLen; omega) (by omega) hB ?_
    intro v' w' h1 h2 _ h3
    refine h v' w' ?_ h2 (at_of h3 (Nat.le_refl _))
    show w'.ownsRow _ _ _ _ _ _
    rw [cellsI_app, List.length_append]; exact h1
theorem new_ints (w : World) (m : List Int) (hm : m.length ≤ maxLen) : Ints (w.alloc (.cells (cellsI m).toArray 3)) (.slice (some ⟨w.heap.size, 0, none⟩) m.length m.length) m := by
  refine ⟨_, _, rfl, Nat.le_refl _, hm, fun h => by simp at h, fun k hk => ⟨w.heap.size, 0, rfl, ?_⟩⟩
  rw [Nat.zero_add, World.cell?_alloc_new]
  simp [cellsI, hk]
/-- Numbers that were just laid, behind a row. -/
theorem app_new {ops : Array Oper} {rest : List Oper} {o : Oper} {a : Act} {Q : Exit → Act → World → Prop} (hgd : o.guard = none) (s x : Operand)
    (ho : o.op = .call { callee := .builtin .append, args := #[s, x], argTypes := #[23, 23] })
    {B : Nat} {w0 W : World} {v u : Value} {l m : List Int} (hW : W = w0.alloc (.cells (cellsI m).toArray 3)) (hs : a.eval s = v) (hown : OwnI B w0 v l) (hB : B ≤ w0.heap.size) (hx : a.eval x = u) (hu : u = .slice (some ⟨w0.heap.size, 0, none⟩) m.length m.length) (hl : l.length + m.length ≤ 17592186040320)
    (h : ∀ v' w', OwnI B w' v' (l ++ m) → w0.grownBy w' v.ownBlock → At v v' w0 → wpList Try.prog ops Q rest (a.put o.dst v') w') :
    wpList Try.prog ops Q (o :: rest) a W := by
  subst hu hW
  refine app_ints hgd s x ho hs (hown.below ((Below.refl _ _).alloc (Nat.le_refl _) _)) (by simp; omega) hx (new_ints w0 m (by unfold maxLen; omega)) hl ?_
  intro v' w' h1 h2 h3
  refine h v' w' h1 (grown_alloc h2) fun k hk => ?_
  rcases h3 k hk with q | q
  · exact Or.inl q
  · exact Or.inr (by simp at q; omega)
/-- The slice v holds the texts ts. -/
def Strs (w : World) (v : Value) (ts : List ByteArray) : Prop :=
  ∃ a cap, v = .slice a ts.length cap ∧ ts.length ≤ cap ∧ cap ≤ maxLen ∧ (a = none → cap = 0) ∧ (∀ k, k < ts.length → ∃ b off, a = some ⟨b, off, none⟩ ∧ w.cell? ⟨b, off + k, none⟩ = some (.string (ts.getD k ⟨#[]⟩)))
theorem Strs.below {w w' : World} {v : Value} {ts : List ByteArray} (H : Strs w v ts) (hb : Below w.heap.size w w') : Strs w' v ts := by
  obtain ⟨a, cap, e, h1, h2, h0, h3⟩ := H
  refine ⟨a, cap, e, h1, h2, h0, fun k hk => ?_⟩
  obtain ⟨b, off, ea, hc⟩ := h3 k hk
  exact ⟨b, off, ea, by rw [hb.cell (p := ⟨b, off + k, none⟩) (block_lt_of_cell hc)]; exact hc⟩
theorem Strs.len {w : World} {v : Value} {ts : List ByteArray} (H : Strs w v ts) : ∃ a cap, v = .slice a ts.length cap ∧ ts.length ≤ cap ∧ cap ≤ maxLen := by
  obtain ⟨a, cap, h, h1, h2, _⟩ := H; exact ⟨a, cap, h, h1, h2⟩
theorem Strs.at {w : World} {a : Option Addr} {n cap : Nat} {ts : List ByteArray} (H : Strs w (.slice a n cap) ts) (k : Nat) (hk : k < ts.length) : ∃ b off, a = some ⟨b, off, none⟩ ∧ w.cell? ⟨b, off + k, none⟩ = some (.string (ts.getD k ⟨#[]⟩)) := by
  obtain ⟨a', cap', e', _, _, _, hc⟩ := H
  simp only [Value.slice.injEq] at e'
  obtain ⟨rfl, rfl, rfl⟩ := e'
  exact hc k hk
theorem info_str : (Try.prog.info? 9).map (fun i => (i.zero, i.size, i.bytes)) = some (some (.string ⟨#[]⟩), 1, 16) := by kernel_rfl
def cellsS (ts : List ByteArray) : List Value := ts.map .string
theorem cellsS_at (ts : List ByteArray) (k : Nat) (h : k < ts.length) : (cellsS ts)[k]? = some (.string (ts.getD k ⟨#[]⟩)) := by simp [cellsS, h]
/-- The slice v belongs to the call alone and holds the texts ts. -/
def OwnS (B : Nat) (w : World) (v : Value) (ts : List ByteArray) : Prop := w.ownsRow B 9 1 v ts.length (cellsS ts)
theorem OwnS.strs {B : Nat} {w : World} {v : Value} {ts : List ByteArray} (H : OwnS B w v ts) : Strs w v ts := by
  obtain ⟨_, ⟨hv, hn⟩ | ⟨g, cap, cur, hv, hb, hg, hn, hm, hs, ht⟩⟩ := H
  · exact ⟨none, 0, by rw [hv, hn], by omega, by decide, fun _ => rfl, fun k hk => by omega⟩
  · refine ⟨_, cap, hv, hn, hm, (fun h => by cases h), fun k hk => ⟨g, 0, rfl, ?_⟩⟩
    rw [cell_of_row w g _ cur _ _ hg, Nat.zero_add, ← Array.getElem?_toList]
    have h1 : (cur.toList.take (ts.length * 1))[k]? = cur.toList[k]? := by rw [List.getElem?_take_of_lt (by omega)]
    rw [← h1, ht, cellsS_at ts k hk]
theorem OwnS.below {B : Nat} {w w' : World} {v : Value} {ts : List ByteArray} (H : OwnS B w v ts) (hb : Below w.heap.size w w') : OwnS B w' v ts := by
  obtain ⟨h1, h | ⟨g, cap, cur, hv, hB, hg, hr⟩⟩ := H
  · exact ⟨h1, .inl h⟩
  · have hlt : g < w.heap.size := by
      rcases Nat.lt_or_ge g w.heap.size with h | h
      · exact h
      · rw [Array.getElem?_eq_none h] at hg; simp at hg
    exact ⟨h1, .inr ⟨g, cap, cur, hv, hB, by rw [hb.block g hlt]; exact hg, hr⟩⟩
theorem OwnS.lt {B : Nat} {w : World} {v : Value} {l : List ByteArray} (h : OwnS B w v l) : ∀ k, v.ownBlock = some k → B ≤ k ∧ k < w.heap.size := World.ownsRow.lt h
theorem app_txt {ops : Array Oper} {rest : List Oper} {o : Oper} {a : Act} {Q : Exit → Act → World → Prop} (hgd : o.guard = none) (s y : Operand)
    (ho : o.op = .call { callee := .builtin .append, args := #[s, y], argTypes := #[22, 22] })
    {B : Nat} {w0 : World} {v : Value} {ts : List ByteArray} (hs : a.eval s = v) (hown : OwnS B w0 v ts) (hB : B ≤ w0.heap.size) (t : ByteArray)
    (hy : a.eval y = .slice (some ⟨w0.heap.size, 0, none⟩) 1 1) (hl : (ts.length + 1) * 16 ≤ 140737488355328)
    (h : ∀ v' w', OwnS B w' v' (ts ++ [t]) → w0.grownBy w' v.ownBlock → wpList Try.prog ops Q rest (a.put o.dst v') w') :
    wpList Try.prog ops Q (o :: rest) a (w0.alloc (.cells #[.string t] 9)) := by
  obtain ⟨i0, hi, hz0, hz1, hz2⟩ := info_parts info_str
  refine wpList_append_own_at _ hgd s y 22 ho B 9 i0 _ 1 16 Try.underlying22 hi hz0 hz1 hz2 rfl (by decide) v ts.length (cellsS ts) hs (World.ownsRow.alloc hown _) ⟨w0.heap.size, 0, none⟩ 1 1 [.string t] hy rfl ?_ ?_ (by unfold maxLen; omega) (by omega) (by simp; omega) ?_
  · intro j u hj
    rw [add_plain, Nat.zero_add, World.cell?_alloc_new, ← Array.getElem?_toList]; exact hj
  · intro v hv; simp only [List.mem_cons, List.not_mem_nil, or_false] at hv; rw [hv]; rfl
  · intro v' w' h1 h2 _ _
    refine h v' w' ?_ (grown_alloc h2)
    show w'.ownsRow _ _ _ _ _ _
    have e : cellsS (ts ++ [t]) = cellsS ts ++ [.string t] := by simp [cellsS]
    rw [e, List.length_append]; exact h1

end Go.Proofs.Ytmoghdpjemidgaa
