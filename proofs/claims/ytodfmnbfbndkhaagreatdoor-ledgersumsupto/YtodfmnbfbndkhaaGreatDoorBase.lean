/-
  BYTES: slices that hold them, slices of the calls own; small laws.
-/
import Derived.Test.YtodfmnbfbndkhaaGreatDoorRows
import Derived.Test.YtodfmnbfbndkhaaGreatDoorMath
import Derived.WalkKit
import Derived.WalkSpells
import Derived.WalkLawsBesides
import Derived.Deep.LoopGhost
import Derived.Laws.Rows
import Derived.Lib.SlBytesConst
import Derived.Deep.WholeRow
import Derived.OwnWalk
import Derived.Laws.AppendOwnNone
import Derived.Laws.BytesArg
import Derived.Laws.CopyOwn
import Derived.Laws.MakeOwn
import Derived.Lib.AppendStr
import Derived.Deep.QuietTactic
import Derived.BigQuiet
import Derived.Deep.RegionLaw
import Derived.RegionTactic
import Derived.OneCell
namespace Go.Proofs.YtodfmnbfbndkhaaGreatDoor
open Go.RowKit

theorem ret_int {k : IntKind} {a b : Int} (h : a = b) : Ending.returned (.int k a) = .returned (.int k b) := by rw [h]
/-- The slice v holds the bytes l in w. -/
def Bytes (w : World) (v : Value) (l : List UInt8) : Prop :=
  ∃ a cap, v = .slice a l.length cap ∧ l.length ≤ cap ∧ cap ≤ maxLen ∧ (a = none → cap = 0) ∧ (∀ k, k < l.length → ∃ b off, a = some ⟨b, off, none⟩ ∧ w.cell? ⟨b, off + k, none⟩ = some (.int .u8 (c8 (l.getD k 0))))

theorem Bytes.below {w w' : World} {v : Value} {l : List UInt8} (H : Bytes w v l) (hb : Below w.heap.size w w') : Bytes w' v l := by
  obtain ⟨a, cap, e, h1, h2, h0, h3⟩ := H
  refine ⟨a, cap, e, h1, h2, h0, fun k hk => ?_⟩
  obtain ⟨b, off, ea, hc⟩ := h3 k hk
  exact ⟨b, off, ea, by rw [hb.cell (p := ⟨b, off + k, none⟩) (block_lt_of_cell hc)]; exact hc⟩

theorem info_byte : (Tryz.prog.info? 5).map (fun i => (i.zero, i.size, i.bytes)) = some (some (.int .u8 0), 1, 1) := by kernel_rfl
/-- The cells of bytes. -/
def cells8 (l : List UInt8) : List Value := l.map fun c => .int .u8 (c8 c)
theorem cells8_length (l : List UInt8) : (cells8 l).length = l.length := by simp [cells8]
theorem cells8_at {l : List UInt8} {k : Nat} (h : k < l.length) : (cells8 l)[k]? = some (.int .u8 (c8 (l.getD k 0))) := by
  simp [cells8, h]
theorem cells8_one (l : List UInt8) : ∀ v ∈ cells8 l, v.oneCell' = true := by
  intro v hv; simp only [cells8, List.mem_map] at hv; obtain ⟨c, _, rfl⟩ := hv; rfl
theorem cells8_app (l m : List UInt8) : cells8 (l ++ m) = cells8 l ++ cells8 m := by simp [cells8]
/-- The slice v belongs to the call alone (its block is at B or above) and holds the bytes l. -/
def Own (B : Nat) (w : World) (v : Value) (l : List UInt8) : Prop := w.ownsRow B 5 1 v l.length (cells8 l)
theorem Own.bytes {B : Nat} {w : World} {v : Value} {l : List UInt8} (H : Own B w v l) : Bytes w v l := by
  obtain ⟨_, ⟨hv, hn⟩ | ⟨g, cap, cur, hv, hb, hg, hn, hm, hs, ht⟩⟩ := H
  · refine ⟨none, 0, by rw [hv, hn], by omega, by decide, fun _ => rfl, fun k hk => by omega⟩
  · refine ⟨_, cap, hv, hn, hm, fun h => by simp at h, fun k hk => ⟨g, 0, rfl, ?_⟩⟩
    rw [cell_of_row w g (0 + k) cur _ _ hg, Nat.zero_add, ← Array.getElem?_toList]
    have h1 : (cur.toList.take (l.length * 1))[k]? = cur.toList[k]? := by rw [List.getElem?_take_of_lt (by omega)]
    rw [← h1, ht, cells8_at hk]
theorem Own.below {B : Nat} {w w' : World} {v : Value} {l : List UInt8} (H : Own B w v l) (hb : Below w.heap.size w w') : Own B w' v l := by
  obtain ⟨h1, h | ⟨g, cap, cur, hv, hB, hg, hr⟩⟩ := H
  · exact ⟨h1, .inl h⟩
  · have hlt : g < w.heap.size := by
      rcases Nat.lt_or_ge g w.heap.size with h | h
      · exact h
      · rw [Array.getElem?_eq_none h] at hg; simp at hg
    exact ⟨h1, .inr ⟨g, cap, cur, hv, hB, by rw [hb.block g hlt]; exact hg, hr⟩⟩
theorem Own.mono {B B' : Nat} {w : World} {v : Value} {l : List UInt8} (H : Own B w v l) (h : B' ≤ B) : Own B' w v l := by
  obtain ⟨h1, h2 | ⟨g, cap, cur, hv, hB, hr⟩⟩ := H
  · exact ⟨h1, .inl h2⟩
  · exact ⟨h1, .inr ⟨g, cap, cur, hv, by omega, hr⟩⟩
theorem add_plain (b off j : Nat) : (⟨b, off, none⟩ : Addr).add j = ⟨b, off + j, none⟩ := by unfold Addr.add; split <;> simp_all
theorem Bytes.take {w : World} {a : Option Addr} {cap : Nat} {l : List UInt8} (H : Bytes w (.slice a l.length cap) l) (k : Nat) (hk : k ≤ l.length) : Bytes w (.slice a k cap) (l.take k) := by
  obtain ⟨a', cap', e, h1, h2, h0, hc⟩ := H
  simp only [Value.slice.injEq, true_and] at e
  obtain ⟨rfl, rfl⟩ := e
  refine ⟨a, cap, by rw [List.length_take, Nat.min_eq_left hk], by rw [List.length_take]; omega, h2, h0, fun j hj => ?_⟩
  rw [List.length_take] at hj
  obtain ⟨b, off, ea, h⟩ := hc j (by omega)
  refine ⟨b, off, ea, ?_⟩
  rw [h]
  simp only [List.getD, List.getElem?_take_of_lt (show j < k by omega)]
theorem Bytes.drop {w : World} {a : Option Addr} {cap : Nat} {l : List UInt8} (H : Bytes w (.slice a l.length cap) l) (m : Nat) (_hm : m ≤ l.length) : Bytes w (.slice (Option.map (fun x => x.add m) a) (l.length - m) (cap - m)) (l.drop m) := by
  obtain ⟨a', cap', e, h1, h2, h0, hc⟩ := H
  simp only [Value.slice.injEq, true_and] at e
  obtain ⟨rfl, rfl⟩ := e
  refine ⟨_, cap - m, by rw [List.length_drop], by rw [List.length_drop]; omega, by omega, fun h => ?_, fun j hj => ?_⟩
  · cases a with
    | none => have := h0 rfl; omega
    | some a => simp at h
  · rw [List.length_drop] at hj
    obtain ⟨b, off, rfl, h⟩ := hc (m + j) (by omega)
    refine ⟨b, off + m, by simp [add_plain], ?_⟩
    rw [Nat.add_assoc, h]
    simp [List.getD, List.getElem?_drop]
theorem Bytes.drop_all {w : World} {a : Option Addr} {m : Nat} {l : List UInt8} (H : Bytes w (.slice a l.length m) l) (_hm : m ≤ l.length) : Bytes w (.slice a (l.length - m) 0) (l.drop m) := by
  obtain ⟨a', cap', e, h1, h2, h0, hc⟩ := H
  simp only [Value.slice.injEq, true_and] at e
  obtain ⟨rfl, rfl⟩ := e
  have e : l.length - m = 0 := by omega
  have e2 : l.drop m = [] := List.drop_eq_nil_of_le (by omega)
  rw [e, e2]
  exact ⟨a, 0, rfl, by simp, by decide, fun _ => rfl, fun j hj => by simp at hj⟩
theorem Bytes.zero (w : World) (a : Option Addr) {l : List UInt8} (h : l = []) : Bytes w (.slice a 0 0) l := by
  rw [h]; exact ⟨a, 0, rfl, by simp, by decide, fun _ => rfl, fun j hj => by simp at hj⟩
theorem Bytes.nil (w : World) : Bytes w (.slice none 0 0) [] := ⟨none, 0, rfl, by simp, by decide, fun _ => rfl, fun k hk => by simp at hk⟩
theorem news8 {w : World} {a : Addr} {l : List UInt8}
    (h : ∀ k, k < l.length → ∃ b off, some a = some (⟨b, off, none⟩ : Addr) ∧ w.cell? ⟨b, off + k, none⟩ = some (.int .u8 (c8 (l.getD k 0)))) :
    ∀ j v, (cells8 l)[j]? = some v → w.cell? (a.add j) = some v := by
  intro j v hv
  have hj : j < l.length := by
    rcases Nat.lt_or_ge j l.length with q | q
    · exact q
    · rw [List.getElem?_eq_none (by rw [cells8_length]; exact q)] at hv; simp at hv
  obtain ⟨b, off, ha, hc⟩ := h j hj
  obtain rfl : a = ⟨b, off, none⟩ := by simpa using ha
  rw [cells8_at hj] at hv
  rw [add_plain, hc]; exact hv

def str8 (l : List UInt8) : ByteArray := strOfNums (l.map c8)
theorem getD8 (l : List UInt8) (i : Nat) : (l.map c8).getD i 0 = c8 (l.getD i 0) := by
  simp only [List.getD, List.getElem?_map]; cases l[i]? <;> rfl
theorem conv8 {w : World} {v : Value} {l : List UInt8} (hv : Bytes w v l) : (convert 193 9 v).run Tryz.prog w = .ok (.string (str8 l)) w := by
  obtain ⟨a, cap, rfl, hlc, hcm, hn, hc⟩ := hv
  cases l with
  | nil =>
    rw [run_convert_bytes_string w 193 9 5 a _ cap Tryz.underlying193 Tryz.underlying5 Tryz.underlying9]
    cases a with
    | none => simp [Conv.bytesToString]; rfl
    | some a => exact (run_bytesToString w a 0 cap [] (by rfl))
  | cons c l =>
    obtain ⟨b, off, rfl, _⟩ := hc 0 (by simp)
    refine run_convert_bytes_arg w 193 5 Tryz.underlying193 Tryz.underlying5 b off _ cap ((c :: l).map c8) (by simp) (fun i hi => ?_) 9 Tryz.underlying9
    obtain ⟨b', off', e, h⟩ := hc i hi
    simp only [Option.some.injEq, Addr.mk.injEq] at e
    obtain ⟨rfl, rfl, _⟩ := e
    rw [h, getD8]

theorem size_byte : (Tryz.prog.info? 5).map (·.size) = some 1 := by kernel_rfl
theorem splice_take {α : Type} (L cs : List α) : (splice L 0 cs).take cs.length = cs := by simp [splice]

theorem make_bytes (w : World) {a b : Int} (len cap : Nat) (ha : a = len) (hb : b = cap) (h : len ≤ cap) (hc : cap ≤ 140737488355328) :
    (Instr.makeSlice 193 (.int .i64 a) (.int .i64 b)).run Tryz.prog w = .ok (.slice (some ⟨w.heap.size, 0, none⟩) len cap) (w.alloc (.cells (madeCells #[.int .u8 0] cap) 5)) := by
  subst ha hb
  obtain ⟨i0, hi, hz0, hz1, hz2⟩ := info_parts info_byte
  have h := run_make (P := Tryz.prog) w 193 5 i0 (.int .u8 0) Tryz.underlying193 hi hz0 .i64 .i64 (len : Int) (cap : Int) (by omega) (by omega) (by rw [hz2]; omega) (by omega)
  simpa [hz1, Value.cells] using h
theorem made_heap (w : World) (cap : Nat) : (w.alloc (.cells (madeCells #[.int .u8 0] cap) 5)).heap[w.heap.size]? = some (.cells (madeCells #[.int .u8 0] cap).toList.toArray 5 (0, 0)) := by
  rw [heap_alloc_new]
theorem made_length (cap : Nat) : (madeCells #[.int .u8 0] cap).toList.length = cap := by rw [Array.length_toList, size_madeCells]

/-- A source of a copy. -/
theorem Bytes.src {w : World} {a : Option Addr} {cap : Nat} {l m : List UInt8} (H : Bytes w (.slice a l.length cap) l) (hm : ∀ k, k < m.length → k < l.length ∧ l.getD k 0 = m.getD k 0) :
    0 < (cells8 m).length → ∃ ad, a = some ad ∧ ∀ j v, (cells8 m)[j]? = some v → w.cell? (ad.add j) = some v := by
  intro hp
  rw [cells8_length] at hp
  obtain ⟨a', cap', e, _, _, _, hc⟩ := H
  simp only [Value.slice.injEq, true_and] at e
  obtain ⟨rfl, rfl⟩ := e
  obtain ⟨b, off, rfl, _⟩ := hc 0 (hm 0 hp).1
  refine ⟨_, rfl, news8 fun k hk => ?_⟩
  obtain ⟨b', off', e, h⟩ := hc k (hm k hk).1
  exact ⟨b', off', e, by rw [h, (hm k hk).2]⟩

theorem new_cells (w : World) (xs : Array Value) : ∀ j v, xs.toList[j]? = some v → (w.alloc (.cells xs 5)).cell? ((⟨w.heap.size, 0, none⟩ : Addr).add j) = some v := by
  intro j v hv
  rw [add_plain, Nat.zero_add, World.cell?_alloc_new, ← Array.getElem?_toList]; exact hv
theorem own_made {w1 : World} {g n cap : Nat} {l : List UInt8} {z : Array Value} (H : w1.heap[g]? = some (.cells (splice (madeCells z cap).toList 0 (cells8 l)).toArray 5 (0, 0))) (hn : l.length ≤ cap ∧ l.length = n ∧ cap ≤ maxLen) :
    w1.ownsRow g 5 1 (.slice (some ⟨g, 0, none⟩) n cap) n (cells8 l) := by
  obtain ⟨h1, rfl, h2⟩ := hn
  have hm : (madeCells z cap).toList.length = cap := by simp [size_madeCells]
  refine ⟨by rw [cells8_length, Nat.mul_one], .inr ⟨g, cap, _, rfl, Nat.le_refl _, H, h1, h2, ?_, ?_⟩⟩
  · rw [List.size_toArray, length_splice _ _ _ (by rw [cells8_length, hm, Nat.zero_add]; exact h1), hm, Nat.mul_one]
  · rw [Nat.mul_one]; have := splice_take (madeCells z cap).toList (cells8 l); rw [cells8_length] at this; exact this
theorem owns_below {B e k n : Nat} {w w' : World} {v : Value} {xs : List Value} (H : w.ownsRow B e k v n xs) (hb : Below w.heap.size w w') : w'.ownsRow B e k v n xs := by
  obtain ⟨h1, h | ⟨g, cap, cur, hv, hB, hg, hr⟩⟩ := H
  · exact ⟨h1, .inl h⟩
  · have hlt : g < w.heap.size := by
      rcases Nat.lt_or_ge g w.heap.size with h | h
      · exact h
      · rw [Array.getElem?_eq_none h] at hg; simp at hg
    exact ⟨h1, .inr ⟨g, cap, cur, hv, hB, by rw [hb.block g hlt]; exact hg, hr⟩⟩

theorem Bytes.drewN {w : World} {v : Value} {l : List UInt8} (H : Bytes w v l) (n : Nat) : Bytes (w.drewN n) v l := by
  obtain ⟨a, cap, e, h1, h2, h0, h3⟩ := H
  refine ⟨a, cap, e, h1, h2, h0, fun k hk => ?_⟩
  obtain ⟨b, off, ea, hc⟩ := h3 k hk
  exact ⟨b, off, ea, by rw [World.cell?_drewN]; exact hc⟩
theorem below_drawn (w : World) (n : Nat) : Below w.heap.size w (w.drewN n) := ⟨rfl, rfl, rfl, Nat.le_refl _, fun _ _ => rfl⟩

/-- An append onto a row of the call alone, as one step of a region that draws its order. -/
theorem step_append_own {P : Program} {ops : Array Oper} {o : Oper} {a : Act} {w : World} {K : Act → World → Prop} {Q : Exit → Act → World → Prop} {E : Prop}
    (hgd : o.guard = none) (s x : Operand) (t : TypeId) (ho : o.op = .call { callee := .builtin .append, args := #[s, x], argTypes := #[t, t] })
    (base : Nat) (e : TypeId) (i : TypeInfo) (z : Value) (size bytes : Nat) (ht : P.underlying t = some (.slice e)) (hi : P.info? e = some i) (hz : i.zero = some z)
    (hsize : i.size = size) (hby : i.bytes = bytes) (hzs : z.cells.size = size) (hsz : 0 < size)
    (v : Value) (n : Nat) (xs : List Value) (hs : a.eval s = v) (hown : w.ownsRow base e size v n xs)
    (ad : Addr) (m c : Nat) (news : List Value) (hx : a.eval x = .slice (some ad) m c) (hl : news.length = m * size) (hnews : ∀ j u, news[j]? = some u → w.cell? (ad.add j) = some u) (h1 : ∀ u ∈ news, u.oneCell' = true)
    (h63 : n + m ≤ maxLen) (hbytes : (n + m) * bytes ≤ 140737488355328) (hbase : base ≤ w.heap.size)
    (h : ∀ v' w', w'.ownsRow base e size v' (n + m) (xs ++ news) → w.grownBy w' v.ownBlock → K (a.put o.dst v') w') :
    if Region.wanted o (yielded ops a.tmps) = true then Oper.wp P o a w K Q else E := by
  have hw : Region.wanted o (yielded ops a.tmps) = true := by simp [Region.wanted, hgd]
  rw [if_pos hw]
  exact wp_append_own w s x t ho base e i z size bytes ht hi hz hsize hby hzs hsz v n xs hs hown ad m c news hx hl hnews h1 h63 hbytes hbase fun v' w' h2 h3 _ => h v' w' h2 h3

/-- One byte more on a slice of the call alone. -/
theorem own_more {B : Nat} {w' : World} {v' : Value} {l : List UInt8} {c : UInt8} (h : w'.ownsRow B 5 1 v' (l.length + 1) (cells8 l ++ [.int .u8 (c8 c)])) : Own B w' v' (l ++ [c]) := by
  have e : cells8 (l ++ [c]) = cells8 l ++ [.int .u8 (c8 c)] := by simp [cells8]
  show w'.ownsRow _ _ _ _ _ _
  rw [e, List.length_append]; exact h
theorem below_more {B : Nat} {w0 w w' : World} {v : Value} {l : List UInt8} {o : Obj} (hb : Below B w0 w) (ho : Own B w v l) (hB : B ≤ w.heap.size) (hg : (w.alloc o).grownBy w' v.ownBlock) : Below B w0 w' :=
  (hb.alloc hB o).grown hg (by simp; omega) (fun k hk => (World.ownsRow.lt ho k hk).1)
theorem one_cell {w : World} {x : Value} : ∀ j v, [x][j]? = some v → (w.alloc (.cells #[x] 5)).cell? ((⟨w.heap.size, 0, none⟩ : Addr).add j) = some v := fun j v h => new_cells w #[x] j v h


end Go.Proofs.YtodfmnbfbndkhaaGreatDoor
