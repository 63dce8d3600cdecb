/-
  BYTES: slices that hold them; a text as bytes and back; one byte more.
-/
import Derived.Test.YtofjicjoohphcaaDoorKStrs
import Derived.Lib.SlBytesConst
import Derived.Laws.BytesArg
import Derived.Laws.IdiomStrings
import Derived.Laws.Rows
import Derived.ArgAppend
namespace Go.Proofs.YtofjicjoohphcaaDoor.K
open Go.RowKit
/-- A byte as a number. -/
def c8 (x : UInt8) : Int := (x.toNat : Int)
theorem c8_lo (x : UInt8) : 0 ≤ c8 x := by unfold c8; omega
theorem c8_hi (x : UInt8) : c8 x < 256 := by unfold c8; have := x.toNat_lt; omega
theorem c8_nat (x : UInt8) : (c8 x).toNat = x.toNat := by unfold c8; omega
theorem c8_inj {x y : UInt8} (h : c8 x = c8 y) : x = y := by
  unfold c8 at h; exact UInt8.toNat_inj.1 (by omega)
/-- The slice v holds the bytes l in w. -/
def Bytes (w : World) (v : Value) (l : List UInt8) : Prop :=
  ∃ a cap, v = .slice a l.length cap ∧ l.length ≤ cap ∧ cap ≤ maxLen ∧ (a = none → cap = 0) ∧ (∀ k, k < l.length → ∃ b off, a = some ⟨b, off, none⟩ ∧ w.cell? ⟨b, off + k, none⟩ = some (.int .u8 (c8 (l.getD k 0))))
theorem Bytes.below {w w' : World} {v : Value} {l : List UInt8} (H : Bytes w v l) (hb : Below w.heap.size w w') : Bytes w' v l := by
  obtain ⟨a, cap, e, h1, h2, h0, h3⟩ := H
  refine ⟨a, cap, e, h1, h2, h0, fun k hk => ?_⟩
  obtain ⟨b, off, ea, hc⟩ := h3 k hk
  exact ⟨b, off, ea, by rw [hb.cell (p := ⟨b, off + k, none⟩) (block_lt_of_cell hc)]; exact hc⟩
theorem info_byte : (Tryd.prog.info? 5).map (fun i => (i.zero, i.size, i.bytes)) = some (some (.int .u8 0), 1, 1) := by kernel_rfl
/-- The cells of bytes. -/
def cells8 (l : List UInt8) : List Value := l.map fun c => .int .u8 (c8 c)
theorem cells8_length (l : List UInt8) : (cells8 l).length = l.length := by simp [cells8]
theorem cells8_at {l : List UInt8} {k : Nat} (h : k < l.length) : (cells8 l)[k]? = some (.int .u8 (c8 (l.getD k 0))) := by
  simp [cells8, h]
theorem cells8_one (l : List UInt8) : ∀ v ∈ cells8 l, v.oneCell' = true := by
  intro v hv; simp only [cells8, List.mem_map] at hv; obtain ⟨c, _, rfl⟩ := hv; rfl
theorem cells8_app (l m : List UInt8) : cells8 (l ++ m) = cells8 l ++ cells8 m := by simp [cells8]
/-- The slice v belongs to the call alone (its block is at B or above) and holds the bytes l. -/
def Own (B : Nat) (w : World) (v : Value) (l : List UInt8) : Prop := w.ownsRow B 5 1 v l.length (cells8 l)
theorem Own.bytes {B : Nat} {w : World} {v : Value} {l : List UInt8} (H : Own B w v l) : Bytes w v l := by
  obtain ⟨_, ⟨hv, hn⟩ | ⟨g, cap, cur, hv, hb, hg, hn, hm, hs, ht⟩⟩ := H
  · refine ⟨none, 0, by rw [hv, hn], by omega, by decide, fun _ => rfl, fun k hk => by omega⟩
  · refine ⟨_, cap, hv, hn, hm, fun h => by simp at h, fun k hk => ⟨g, 0, rfl, ?_⟩⟩
    rw [cell_of_row w g (0 + k) cur _ _ hg, Nat.zero_add, ← Array.getElem?_toList]
    have h1 : (cur.toList.take (l.length * 1))[k]? = cur.toList[k]? := by rw [List.getElem?_take_of_lt (by omega)]
    rw [← h1, ht, cells8_at hk]
theorem Own.below {B : Nat} {w w' : World} {v : Value} {l : List UInt8} (H : Own B w v l) (hb : Below w.heap.size w w') : Own B w' v l := by
  obtain ⟨h1, h | ⟨g, cap, cur, hv, hB, hg, hr⟩⟩ := H
  · exact ⟨h1, .inl h⟩
  · have hlt : g < w.heap.size := by
      rcases Nat.lt_or_ge g w.heap.size with h | h
      · exact h
      · rw [Array.getElem?_eq_none h] at hg; simp at hg
    exact ⟨h1, .inr ⟨g, cap, cur, hv, hB, by rw [hb.block g hlt]; exact hg, hr⟩⟩
theorem Own.mono {B B' : Nat} {w : World} {v : Value} {l : List UInt8} (H : Own B w v l) (h : B' ≤ B) : Own B' w v l := by
  obtain ⟨h1, h2 | ⟨g, cap, cur, hv, hB, hr⟩⟩ := H
  · exact ⟨h1, .inl h2⟩
  · exact ⟨h1, .inr ⟨g, cap, cur, hv, by omega, hr⟩⟩
theorem news8 {w : World} {a : Addr} {l : List UInt8}
    (h : ∀ k, k < l.length → ∃ b off, some a = some (⟨b, off, none⟩ : Addr) ∧ w.cell? ⟨b, off + k, none⟩ = some (.int .u8 (c8 (l.getD k 0)))) :
    ∀ j v, (cells8 l)[j]? = some v → w.cell? (a.add j) = some v := by
  intro j v hv
  have hj : j < l.length := by
    rcases Nat.lt_or_ge j l.length with q | q
    · exact q
    · rw [List.getElem?_eq_none (by rw [cells8_length]; exact q)] at hv; simp at hv
  obtain ⟨b, off, ha, hc⟩ := h j hj
  obtain rfl : a = ⟨b, off, none⟩ := by simpa using ha
  rw [cells8_at hj] at hv
  rw [add_plain, hc]; exact hv
def str8 (l : List UInt8) : ByteArray := strOfNums (l.map c8)
theorem getD8 (l : List UInt8) (i : Nat) : (l.map c8).getD i 0 = c8 (l.getD i 0) := by
  simp only [List.getD, List.getElem?_map]; cases l[i]? <;> rfl
theorem conv8 {w : World} {v : Value} {l : List UInt8} (hv : Bytes w v l) : (convert 50 9 v).run Tryd.prog w = .ok (.string (str8 l)) w := by
  obtain ⟨a, cap, rfl, hlc, hcm, hn, hc⟩ := hv
  cases l with
  | nil =>
    rw [run_convert_bytes_string w 50 9 5 a _ cap Tryd.underlying50 Tryd.underlying5 Tryd.underlying9]
    cases a with
    | none => simp [Conv.bytesToString]; rfl
    | some a => exact (run_bytesToString w a 0 cap [] (by rfl))
  | cons c l =>
    obtain ⟨b, off, rfl, _⟩ := hc 0 (by simp)
    refine run_convert_bytes_arg w 50 5 Tryd.underlying50 Tryd.underlying5 b off _ cap ((c :: l).map c8) (by simp) (fun i hi => ?_) 9 Tryd.underlying9
    obtain ⟨b', off', e, h⟩ := hc i hi
    simp only [Option.some.injEq, Addr.mk.injEq] at e
    obtain ⟨rfl, rfl, _⟩ := e
    rw [h, getD8]
theorem new_cells (w : World) (xs : Array Value) : ∀ j v, xs.toList[j]? = some v → (w.alloc (.cells xs 5)).cell? ((⟨w.heap.size, 0, none⟩ : Addr).add j) = some v := by
  intro j v hv
  rw [add_plain, Nat.zero_add, World.cell?_alloc_new, ← Array.getElem?_toList]; exact hv
/-- One byte more on a slice of the call alone. -/
theorem own_more {B : Nat} {w' : World} {v' : Value} {l : List UInt8} {c : UInt8} (h : w'.ownsRow B 5 1 v' (l.length + 1) (cells8 l ++ [.int .u8 (c8 c)])) : Own B w' v' (l ++ [c]) := by
  have e : cells8 (l ++ [c]) = cells8 l ++ [.int .u8 (c8 c)] := by simp [cells8]
  show w'.ownsRow _ _ _ _ _ _
  rw [e, List.length_append]; exact h
theorem one_cell {w : World} {x : Value} : ∀ j v, [x][j]? = some v → (w.alloc (.cells #[x] 5)).cell? ((⟨w.heap.size, 0, none⟩ : Addr).add j) = some v := fun j v h => new_cells w #[x] j v h
theorem Own.lt {B : Nat} {w : World} {v : Value} {l : List UInt8} (h : Own B w v l) : ∀ k, v.ownBlock = some k → B ≤ k ∧ k < w.heap.size := World.ownsRow.lt h
theorem Bytes.len {w : World} {v : Value} {l : List UInt8} (H : Bytes w v l) : ∃ a cap, v = .slice a l.length cap ∧ l.length ≤ cap ∧ cap ≤ maxLen := by
  obtain ⟨a, cap, h, h1, h2, _⟩ := H; exact ⟨a, cap, h, h1, h2⟩
theorem grown_below {B : Nat} {w w' : World} {v : Value} {l : List UInt8} (h : w.grownBy w' v.ownBlock) (ho : Own B w v l) (hB : B ≤ w.heap.size) : Below B w w' :=
  (Below.refl B w).grown h hB (fun k hk => (ho.lt k hk).1)
/-- The text of bytes. -/
def txt (l : List UInt8) : ByteArray := ⟨l.toArray⟩
theorem txt_size (l : List UInt8) : (txt l).size = l.length := by simp [txt, ByteArray.size]
theorem txt_list (l : List UInt8) : (txt l).data.toList = l := by simp [txt]
theorem list_txt (s : ByteArray) : txt s.data.toList = s := by simp [txt]
theorem str8_txt (l : List UInt8) : str8 l = txt l := by
  have h : (str8 l).data = (txt l).data := by
    apply Array.toList_inj.1
    simp only [str8, strOfNums_data, txt, List.map_map]
    have : ((fun n : Int => UInt8.ofNat n.toNat) ∘ c8) = id := by
      funext c; simp [c8_nat]
    rw [this]; simp
  cases hs : str8 l; cases ht : txt l; rw [hs, ht] at h; simp_all
theorem convT {w : World} {v : Value} {l : List UInt8} (hv : Bytes w v l) : (convert 50 9 v).run Tryd.prog w = .ok (.string (txt l)) w := by
  rw [← str8_txt]; exact conv8 hv
theorem app_byte {ops : Array Oper} {rest : List Oper} {o : Oper} {a : Act} {Q : Exit → Act → World → Prop} (hgd : o.guard = none) (s x : Operand)
    (ho : o.op = .call { callee := .builtin .append, args := #[s, x], argTypes := #[50, 50] })
    {B : Nat} {w0 : World} {v : Value} {l : List UInt8} (hs : a.eval s = v) (hown : Own B w0 v l) (hB : B ≤ w0.heap.size) (n : Int) (c : UInt8) (hn : n = c8 c)
    (hx : a.eval x = .slice (some ⟨w0.heap.size, 0, none⟩) 1 1) (hl : l.length < 140737488355328)
    (h : ∀ v' w', Own B w' v' (l ++ [c]) → w0.grownBy w' v.ownBlock → wpList Tryd.prog ops Q rest (a.put o.dst v') w') :
    wpList Tryd.prog ops Q (o :: rest) a (w0.alloc (.cells #[.int .u8 n] 5)) := by
  subst hn
  obtain ⟨i0, hi, hz0, hz1, hz2⟩ := info_parts info_byte
  refine wpList_append_own_at _ hgd s x 50 ho B 5 i0 (.int .u8 0) 1 1 Tryd.underlying50 hi hz0 hz1 hz2 rfl (by decide) v l.length (cells8 l) hs (World.ownsRow.alloc hown _) ⟨w0.heap.size, 0, none⟩ 1 1 [.int .u8 (c8 c)] hx rfl one_cell ?_ (by unfold maxLen; omega) (by omega) (by simp; omega) ?_
  · intro v hv; simp only [List.mem_cons, List.not_mem_nil, or_false] at hv; rw [hv]; rfl
  · intro v' w' h1 h2 _ _
    exact h v' w' (own_more h1) (grown_alloc h2)
/-- A text as bytes. -/
theorem conv_text (w : World) (s : ByteArray) : ∃ cap w', (convert 9 50 (.string s)).run Tryd.prog w = .ok (.slice (some ⟨w.heap.size, 0, none⟩) s.size cap) w' ∧ Below w.heap.size w w' ∧ w.heap.size < w'.heap.size ∧
    (∀ k v, (cells8 s.data.toList)[k]? = some v → w'.cell? ⟨w.heap.size, k, none⟩ = some v) ∧ (∀ k, k < cap → (w'.cell? ⟨w.heap.size, k, none⟩).isSome = true ∧ w'.frozen? ⟨w.heap.size, k, none⟩ = false) := by
  refine ⟨_, _, run_bytes_of_string w 9 50 5 s Tryd.underlying9 Tryd.underlying50 Tryd.underlying5, ?_, ?_, fun k v hv => ?_, fun k hk => ?_⟩
  · exact ((⟨rfl, rfl, rfl, Nat.le_refl _, fun _ _ => rfl⟩ : Below w.heap.size w w.drew)).alloc (Nat.le_refl _) _
  · show w.heap.size < (w.heap.push _).size
    simp
  · show (w.drew.alloc _).cell? ⟨w.drew.heap.size, k, none⟩ = some v
    rw [World.cell?_alloc_mark]
    have hk : k < s.data.size := by
      rcases Nat.lt_or_ge k s.data.size with h | h
      · exact h
      · rw [List.getElem?_eq_none (by simpa [cells8] using h)] at hv; simp at hv
    rw [bytesRow_at s _ k hk, ← hv, cells8, List.getElem?_map, List.getElem?_eq_getElem (by simpa using hk)]
    rfl
  · constructor
    · show ((w.drew.alloc _).cell? ⟨w.drew.heap.size, k, none⟩).isSome = true
      rw [World.cell?_alloc_mark]
      have : k < (bytesRow s (grownCap w s.size 0 5)).size := by
        unfold bytesRow
        simp only [Array.size_append, Array.size_map, Array.size_replicate]
        have : s.data.size = s.size := rfl
        omega
      rw [Array.getElem?_eq_getElem this]
      rfl
    · show (w.drew.alloc _).frozen? ⟨w.drew.heap.size, k, none⟩ = false
      rw [World.frozen?_alloc_mark]
      have : k < (bytesRow s (grownCap w s.size 0 5)).size := by
        unfold bytesRow
        simp only [Array.size_append, Array.size_map, Array.size_replicate]
        have : s.data.size = s.size := rfl
        omega
      rw [decide_eq_false (by omega)]
      rfl
end Go.Proofs.YtofjicjoohphcaaDoor.K
