/-
  KBts, KRefMake, KRefSplit, LUnderA, LRefName, LRefJoin, LRefPath, LRefSplit, LRefLine, ObRz, ObRk, LawKeys, joined.
-/
import Derived.Test.YtofjicjoohphcaaGreatDoorKStrs
import Derived.Lib.SlBytesConst
import Derived.Laws.BytesArg
import Derived.Laws.IdiomStrings
import Derived.Laws.Rows
import Derived.ArgAppend
import Derived.Test.YtofjicjoohphcaaGreatDoorKMake
import Derived.Test.YtofjicjoohphcaaGreatDoorKSplA
import Derived.Test.YtofjicjoohphcaaGreatDoorLPathA
import Derived.Test.YtofjicjoohphcaaGreatDoorLJoinsM
import Derived.Test.YtofjicjoohphcaaGreatDoorObK
import Derived.Test.YtofjicjoohphcaaGreatDoorObFx
import Derived.Test.YtofjicjoohphcaaGreatDoorObHb
section S0
namespace Go.Proofs.YtofjicjoohphcaaGreatDoor.K
open Go.RowKit
/-- A byte as a number. -/
def c8 (x : UInt8) : Int := (x.toNat : Int)
theorem c8_lo (x : UInt8) : 0 ≤ c8 x := by unfold c8; omega
theorem c8_hi (x : UInt8) : c8 x < 256 := by unfold c8; have := x.toNat_lt; omega
theorem c8_nat (x : UInt8) : (c8 x).toNat = x.toNat := by unfold c8; omega
theorem c8_inj {x y : UInt8} (h : c8 x = c8 y) : x = y := by
  unfold c8 at h; exact UInt8.toNat_inj.1 (by omega)
/-- The slice v holds the bytes l in w. -/
def Bytes (w : World) (v : Value) (l : List UInt8) : Prop :=
  ∃ a cap, v = .slice a l.length cap ∧ l.length ≤ cap ∧ cap ≤ maxLen ∧ (a = none → cap = 0) ∧ (∀ k, k < l.length → ∃ b off, a = some ⟨b, off, none⟩ ∧ w.cell? ⟨b, off + k, none⟩ = some (.int .u8 (c8 (l.getD k 0))))
theorem Bytes.below {w w' : World} {v : Value} {l : List UInt8} (H : Bytes w v l) (hb : Below w.heap.size w w') : Bytes w' v l := by
  obtain ⟨a, cap, e, h1, h2, h0, h3⟩ := H
  refine ⟨a, cap, e, h1, h2, h0, fun k hk => ?_⟩
  obtain ⟨b, off, ea, hc⟩ := h3 k hk
  exact ⟨b, off, ea, by rw [hb.cell (p := ⟨b, off + k, none⟩) (block_lt_of_cell hc)]; exact hc⟩
theorem info_byte : (Tryz.prog.info? 5).map (fun i => (i.zero, i.size, i.bytes)) = some (some (.int .u8 0), 1, 1) := by kernel_rfl
/-- The cells of bytes. -/
def cells8 (l : List UInt8) : List Value := l.map fun c => .int .u8 (c8 c)
theorem cells8_length (l : List UInt8) : (cells8 l).length = l.length := by simp [cells8]
theorem cells8_at {l : List UInt8} {k : Nat} (h : k < l.length) : (cells8 l)[k]? = some (.int .u8 (c8 (l.getD k 0))) := by
  simp [cells8, h]
theorem cells8_one (l : List UInt8) : ∀ v ∈ cells8 l, v.oneCell' = true := by
  intro v hv; simp only [cells8, List.mem_map] at hv; obtain ⟨c, _, rfl⟩ := hv; rfl
theorem cells8_app (l m : List UInt8) : cells8 (l ++ m) = cells8 l ++ cells8 m := by simp [cells8]
/-- The slice v belongs to the call alone (its block is at B or above) and holds the bytes l. -/
def Own (B : Nat) (w : World) (v : Value) (l : List UInt8) : Prop := w.ownsRow B 5 1 v l.length (cells8 l)
theorem Own.bytes {B : Nat} {w : World} {v : Value} {l : List UInt8} (H : Own B w v l) : Bytes w v l := by
  obtain ⟨_, ⟨hv, hn⟩ | ⟨g, cap, cur, hv, hb, hg, hn, hm, hs, ht⟩⟩ := H
  · refine ⟨none, 0, by rw [hv, hn], by omega, by decide, fun _ => rfl, fun k hk => by omega⟩
  · refine ⟨_, cap, hv, hn, hm, fun h => by simp at h, fun k hk => ⟨g, 0, rfl, ?_⟩⟩
    rw [cell_of_row w g (0 + k) cur _ _ hg, Nat.zero_add, ← Array.getElem?_toList]
    have h1 : (cur.toList.take (l.length * 1))[k]? = cur.toList[k]? := by rw [List.getElem?_take_of_lt (by omega)]
    rw [← h1, ht, cells8_at hk]
theorem Own.below {B : Nat} {w w' : World} {v : Value} {l : List UInt8} (H : Own B w v l) (hb : Below w.heap.size w w') : Own B w' v l := by
  obtain ⟨h1, h | ⟨g, cap, cur, hv, hB, hg, hr⟩⟩ := H
  · exact ⟨h1, .inl h⟩
  · have hlt : g < w.heap.size := by
      rcases Nat.lt_or_ge g w.heap.size with h | h
      · exact h
      · rw [Array.getElem?_eq_none h] at hg; simp at hg
    exact ⟨h1, .inr ⟨g, cap, cur, hv, hB, by rw [hb.block g hlt]; exact hg, hr⟩⟩
theorem Own.mono {B B' : Nat} {w : World} {v : Value} {l : List UInt8} (H : Own B w v l) (h : B' ≤ B) : Own B' w v l := by
  obtain ⟨h1, h2 | ⟨g, cap, cur, hv, hB, hr⟩⟩ := H
  · exact ⟨h1, .inl h2⟩
  · exact ⟨h1, .inr ⟨g, cap, cur, hv, by omega, hr⟩⟩
theorem news8 {w : World} {a : Addr} {l : List UInt8}
    (h : ∀ k, k < l.length → ∃ b off, some a = some (⟨b, off, none⟩ : Addr) ∧ w.cell? ⟨b, off + k, none⟩ = some (.int .u8 (c8 (l.getD k 0)))) :
    ∀ j v, (cells8 l)[j]? = some v → w.cell? (a.add j) = some v := by
  intro j v hv
  have hj : j < l.length := by
    rcases Nat.lt_or_ge j l.length with q | q
    · exact q
    · rw [List.getElem?_eq_none (by rw [cells8_length]; exact q)] at hv; simp at hv
  obtain ⟨b, off, ha, hc⟩ := h j hj
  obtain rfl : a = ⟨b, off, none⟩ := by simpa using ha
  rw [cells8_at hj] at hv
  rw [add_plain, hc]; exact hv
def str8 (l : List UInt8) : ByteArray := strOfNums (l.map c8)
theorem getD8 (l : List UInt8) (i : Nat) : (l.map c8).getD i 0 = c8 (l.getD i 0) := by
  simp only [List.getD, List.getElem?_map]; cases l[i]? <;> rfl
theorem conv8 {w : World} {v : Value} {l : List UInt8} (hv : Bytes w v l) : (convert 121 9 v).run Tryz.prog w = .ok (.string (str8 l)) w := by
  obtain ⟨a, cap, rfl, hlc, hcm, hn, hc⟩ := hv
  cases l with
  | nil =>
    rw [run_convert_bytes_string w 121 9 5 a _ cap Tryz.underlying121 Tryz.underlying5 Tryz.underlying9]
    cases a with
    | none => simp [Conv.bytesToString]; rfl
    | some a => exact (run_bytesToString w a 0 cap [] (by rfl))
  | cons c l =>
    obtain ⟨b, off, rfl, _⟩ := hc 0 (by simp)
    refine run_convert_bytes_arg w 121 5 Tryz.underlying121 Tryz.underlying5 b off _ cap ((c :: l).map c8) (by simp) (fun i hi => ?_) 9 Tryz.underlying9
    obtain ⟨b', off', e, h⟩ := hc i hi
    simp only [Option.some.injEq, Addr.mk.injEq] at e
    obtain ⟨rfl, rfl, _⟩ := e
    rw [h, getD8]
theorem new_cells (w : World) (xs : Array Value) : ∀ j v, xs.toList[j]? = some v → (w.alloc (.cells xs 5)).cell? ((⟨w.heap.size, 0, none⟩ : Addr).add j) = some v := by
  intro j v hv
  rw [add_plain, Nat.zero_add, World.cell?_alloc_new, ← Array.getElem?_toList]; exact hv
/-- One byte more on a slice of the call alone. -/
theorem own_more {B : Nat} {w' : World} {v' : Value} {l : List UInt8} {c : UInt8} (h : w'.ownsRow B 5 1 v' (l.length + 1) (cells8 l ++ [.int .u8 (c8 c)])) : Own B w' v' (l ++ [c]) := by
  have e : cells8 (l ++ [c]) = cells8 l ++ [.int .u8 (c8 c)] := by simp [cells8]
  show w'.ownsRow _ _ _ _ _ _
  rw [e, List.length_append]; exact h
theorem one_cell {w : World} {x : Value} : ∀ j v, [x][j]? = some v → (w.alloc (.cells #[x] 5)).cell? ((⟨w.heap.size, 0, none⟩ : Addr).add j) = some v := fun j v h => new_cells w #[x] j v h
theorem Own.lt {B : Nat} {w : World} {v : Value} {l : List UInt8} (h : Own B w v l) : ∀ k, v.ownBlock = some k → B ≤ k ∧ k < w.heap.size := World.ownsRow.lt h
theorem Bytes.len {w : World} {v : Value} {l : List UInt8} (H : Bytes w v l) : ∃ a cap, v = .slice a l.length cap ∧ l.length ≤ cap ∧ cap ≤ maxLen := by
  obtain ⟨a, cap, h, h1, h2, _⟩ := H; exact ⟨a, cap, h, h1, h2⟩
theorem grown_below {B : Nat} {w w' : World} {v : Value} {l : List UInt8} (h : w.grownBy w' v.ownBlock) (ho : Own B w v l) (hB : B ≤ w.heap.size) : Below B w w' :=
  (Below.refl B w).grown h hB (fun k hk => (ho.lt k hk).1)
/-- The text of bytes. -/
def txt (l : List UInt8) : ByteArray := ⟨l.toArray⟩
theorem txt_size (l : List UInt8) : (txt l).size = l.length := by simp [txt, ByteArray.size]
theorem txt_list (l : List UInt8) : (txt l).data.toList = l := by simp [txt]
theorem list_txt (s : ByteArray) : txt s.data.toList = s := by simp [txt]
theorem str8_txt (l : List UInt8) : str8 l = txt l := by
  have h : (str8 l).data = (txt l).data := by
    apply Array.toList_inj.1
    simp only [str8, strOfNums_data, txt, List.map_map]
    have : ((fun n : Int => UInt8.ofNat n.toNat) ∘ c8) = id := by
      funext c; simp [c8_nat]
    rw [this]; simp
  cases hs : str8 l; cases ht : txt l; rw [hs, ht] at h; simp_all
theorem convT {w : World} {v : Value} {l : List UInt8} (hv : Bytes w v l) : (convert 121 9 v).run Tryz.prog w = .ok (.string (txt l)) w := by
  rw [← str8_txt]; exact conv8 hv
theorem app_byte {ops : Array Oper} {rest : List Oper} {o : Oper} {a : Act} {Q : Exit → Act → World → Prop} (hgd : o.guard = none) (s x : Operand)
    (ho : o.op = .call { callee := .builtin .append, args := #[s, x], argTypes := #[121, 121] })
    {B : Nat} {w0 : World} {v : Value} {l : List UInt8} (hs : a.eval s = v) (hown : Own B w0 v l) (hB : B ≤ w0.heap.size) (n : Int) (c : UInt8) (hn : n = c8 c)
    (hx : a.eval x = .slice (some ⟨w0.heap.size, 0, none⟩) 1 1) (hl : l.length < 140737488355328)
    (h : ∀ v' w', Own B w' v' (l ++ [c]) → w0.grownBy w' v.ownBlock → wpList Tryz.prog ops Q rest (a.put o.dst v') w') :
    wpList Tryz.prog ops Q (o :: rest) a (w0.alloc (.cells #[.int .u8 n] 5)) := by
  subst hn
  obtain ⟨i0, hi, hz0, hz1, hz2⟩ := info_parts info_byte
  refine wpList_append_own_at _ hgd s x 121 ho B 5 i0 (.int .u8 0) 1 1 Tryz.underlying121 hi hz0 hz1 hz2 rfl (by decide) v l.length (cells8 l) hs (World.ownsRow.alloc hown _) ⟨w0.heap.size, 0, none⟩ 1 1 [.int .u8 (c8 c)] hx rfl one_cell ?_ (by unfold maxLen; omega) (by omega) (by simp; omega) ?_
  · intro v hv; simp only [List.mem_cons, List.not_mem_nil, or_false] at hv; rw [hv]; rfl
  · intro v' w' h1 h2 _ _
    exact h v' w' (own_more h1) (grown_alloc h2)
/-- A text as bytes. -/
theorem conv_text (w : World) (s : ByteArray) : ∃ cap w', (convert 9 121 (.string s)).run Tryz.prog w = .ok (.slice (some ⟨w.heap.size, 0, none⟩) s.size cap) w' ∧ Below w.heap.size w w' ∧ w.heap.size < w'.heap.size ∧
    (∀ k v, (cells8 s.data.toList)[k]? = some v → w'.cell? ⟨w.heap.size, k, none⟩ = some v) ∧ (∀ k, k < cap → (w'.cell? ⟨w.heap.size, k, none⟩).isSome = true ∧ w'.frozen? ⟨w.heap.size, k, none⟩ = false) := by
  refine ⟨_, _, run_bytes_of_string w 9 121 5 s Tryz.underlying9 Tryz.underlying121 Tryz.underlying5, ?_, ?_, fun k v hv => ?_, fun k hk => ?_⟩
  · exact ((⟨rfl, rfl, rfl, Nat.le_refl _, fun _ _ => rfl⟩ : Below w.heap.size w w.drew)).alloc (Nat.le_refl _) _
  · show w.heap.size < (w.heap.push _).size
    simp
  · show (w.drew.alloc _).cell? ⟨w.drew.heap.size, k, none⟩ = some v
    rw [World.cell?_alloc_mark]
    have hk : k < s.data.size := by
      rcases Nat.lt_or_ge k s.data.size with h | h
      · exact h
      · rw [List.getElem?_eq_none (by simpa [cells8] using h)] at hv; simp at hv
    rw [bytesRow_at s _ k hk, ← hv, cells8, List.getElem?_map, List.getElem?_eq_getElem (by simpa using hk)]
    rfl
  · constructor
    · show ((w.drew.alloc _).cell? ⟨w.drew.heap.size, k, none⟩).isSome = true
      rw [World.cell?_alloc_mark]
      have : k < (bytesRow s (grownCap w s.size 0 5)).size := by
        unfold bytesRow
        simp only [Array.size_append, Array.size_map, Array.size_replicate]
        have : s.data.size = s.size := rfl
        omega
      rw [Array.getElem?_eq_getElem this]
      rfl
    · show (w.drew.alloc _).frozen? ⟨w.drew.heap.size, k, none⟩ = false
      rw [World.frozen?_alloc_mark]
      have : k < (bytesRow s (grownCap w s.size 0 5)).size := by
        unfold bytesRow
        simp only [Array.size_append, Array.size_map, Array.size_replicate]
        have : s.data.size = s.size := rfl
        omega
      rw [decide_eq_false (by omega)]
      rfl
end Go.Proofs.YtofjicjoohphcaaGreatDoor.K
end S0

section S1
namespace Go.Proofs.YtofjicjoohphcaaGreatDoor.K
open Go.RowKit
theorem two_cells (w : World) (x y : Value) : ∀ j v, [x, y][j]? = some v → (w.alloc (.cells #[x, y] 5)).cell? ((⟨w.heap.size, 0, none⟩ : Addr).add j) = some v := fun j v h => new_cells w #[x, y] j v h
theorem app_two {ops : Array Oper} {rest : List Oper} {o : Oper} {a : Act} {Q : Exit → Act → World → Prop} (hgd : o.guard = none) (s x : Operand)
    (ho : o.op = .call { callee := .builtin .append, args := #[s, x], argTypes := #[121, 121] })
    {B : Nat} {w0 : World} {v : Value} {l : List UInt8} (hs : a.eval s = v) (hown : Own B w0 v l) (hB : B ≤ w0.heap.size) (m n : Int) (c d : UInt8) (hm : m = c8 c) (hn : n = c8 d)
    (hx : a.eval x = .slice (some ⟨w0.heap.size, 0, none⟩) 2 2) (hl : l.length + 2 ≤ 140737488355328)
    (h : ∀ v' w', Own B w' v' (l ++ [c, d]) → w0.grownBy w' v.ownBlock → wpList Tryz.prog ops Q rest (a.put o.dst v') w') :
    wpList Tryz.prog ops Q (o :: rest) a (w0.alloc (.cells #[.int .u8 m, .int .u8 n] 5)) := by
  subst hm hn
  obtain ⟨i0, hi, hz0, hz1, hz2⟩ := info_parts info_byte
  refine wpList_append_own_at _ hgd s x 121 ho B 5 i0 (.int .u8 0) 1 1 Tryz.underlying121 hi hz0 hz1 hz2 rfl (by decide) v l.length (cells8 l) hs (World.ownsRow.alloc hown _) ⟨w0.heap.size, 0, none⟩ 2 2 [.int .u8 (c8 c), .int .u8 (c8 d)] hx rfl (two_cells w0 _ _) ?_ (by unfold maxLen; omega) (by omega) (by simp; omega) ?_
  · intro v hv; simp only [List.mem_cons, List.not_mem_nil, or_false] at hv; rcases hv with rfl | rfl <;> rfl
  · intro v' w' h1 h2 _ _
    refine h v' w' ?_ (grown_alloc h2)
    show w'.ownsRow _ _ _ _ _ _
    rw [cells8_app, List.length_append]
    exact h1
theorem enc_take (l : List UInt8) (k : Nat) (h : k < l.length) : enc (l.take (k + 1)) = enc (l.take k) ++ enc [l.getD k 0] := by
  rw [take_one l k 0 h, enc_app]
theorem enc_len2 (l : List UInt8) : (enc l).length ≤ 2 * l.length := by
  rw [enc_length]
  have := List.count_le_length (a := (0 : UInt8)) (l := l)
  omega
set_option maxHeartbeats 8000000 in
set_option maxRecDepth 100000 in
theorem refMake_any (v : Value) (ts : List ByteArray) (w : World) (hv : Strs w v ts) (hs : ∀ t ∈ ts, t.size ≤ 1048577) :
    Calls Tryz.prog 43 #[v] w fun e w' => e = .returned (.tuple #[.string (makeR ts).1, .int .i64 (makeR ts).2]) ∧ Below w.heap.size w w' := by
  have V : Hid (Strs w v ts) := hv
  have HS := Lib.hid hs
  obtain ⟨a, cap, rfl, hlc, hcm⟩ := hv.len
  unfold maxLen at hcm
  clear hv hs
  by_cases h0 : ts.length = 0
  · have g0 : decide ((ts.length : Int) < 1) = true := decide_eq_true (by omega)
    have hr : Hid (makeR ts = (⟨#[]⟩, 1)) := Lib.hid (by unfold makeR; rw [if_pos (.inl h0)])
    clear h0
    go_enter Tryz.func43, Tryz.ntmps43
    go_wp2_with fail
    go_ret2
    exact ⟨by rw [hr.out]; rfl, Below.refl _ _⟩
  have g0 : decide ((ts.length : Int) < 1) = false := decide_eq_false (by omega)
  by_cases h9 : 8 < ts.length
  · have g8 : decide ((ts.length : Int) > 8) = true := decide_eq_true (by omega)
    have hr : Hid (makeR ts = (⟨#[]⟩, 1)) := Lib.hid (by unfold makeR; rw [if_pos (.inr (by omega))])
    go_enter Tryz.func43, Tryz.ntmps43
    go_wp2_with fail
    go_ret2
    exact ⟨by rw [hr.out]; rfl, Below.refl _ _⟩
  have h8 : ts.length ≤ 8 := by omega
  have g8 : decide ((ts.length : Int) > 8) = false := decide_eq_false (by omega)
  have KB : Hid (∀ k, k ≤ ts.length → (keyL (ts.take k)).length ≤ 16777248) := Lib.hid fun k hk => by
    have := key_bound ts 1048577 HS.out k hk
    have h2 := Nat.mul_le_mul_right (2 * 1048577 + 2) (show k ≤ 8 by omega)
    omega
  go_enter Tryz.func43, Tryz.ntmps43
  go_wp2_with fail
  clear g0 g8
  go_loopg [4, 5] ts.length (fun g sb si wr => ∃ (k : Nat), k ≤ ts.length ∧ g = ts.length - k ∧ si = .int .i64 k ∧ Own w.heap.size wr sb (keyL (ts.take k)) ∧ Below w.heap.size w wr)
  case atStart => exact ⟨0, Nat.zero_le _, rfl, rfl, World.ownsRow_nil _ _ _ _, Below.refl _ _⟩
  case round =>
    obtain ⟨k, hk, hg, rfl, ho, hb⟩ := hrel
    have R : Hid (gk = ts.length - k ∧ Own w.heap.size wr u4 (keyL (ts.take k)) ∧ Below w.heap.size w wr) := ⟨hg, ho, hb⟩
    clear hg ho hb
    by_cases hlt : k < ts.length
    · obtain ⟨t, ht⟩ : ∃ t, t = ts.getD k ⟨#[]⟩ := ⟨_, rfl⟩
      have ts0 : t.size ≤ 1048577 := HS.out _ (by rw [ht]; exact mem_getD hlt)
      have C := Lib.hid ht
      have hlt' : (k : Int) < (ts.length : Int) := by omega
      clear ht
      go_wp2_with fail
      go_loopg [4, 6] t.size (fun g sb sj w2 => ∃ (j : Nat), j ≤ t.size ∧ g = t.size - j ∧ sj = .int .i64 j ∧ Own w.heap.size w2 sb (keyL (ts.take k) ++ enc (t.data.toList.take j)) ∧ Below w.heap.size w w2)
      case atStart => exact ⟨0, Nat.zero_le _, rfl, rfl, by simpa [enc] using R.out.2.1, R.out.2.2⟩
      case round =>
        obtain ⟨j, hj, hg, rfl, ho, hb⟩ := hrel
        have R2 : Hid (gk = t.size - j ∧ Own w.heap.size wr u4 (keyL (ts.take k) ++ enc (t.data.toList.take j)) ∧ Below w.heap.size w wr) := ⟨hg, ho, hb⟩
        have LN : Hid ((keyL (ts.take k) ++ enc (t.data.toList.take j)).length ≤ 18874402) := Lib.hid (by
          have h1 := KB.out k hk
          have h2 := enc_len2 (t.data.toList.take j)
          rw [List.length_take] at h2
          have h3 : t.data.toList.length = t.size := by simp
          rw [List.length_append]
          omega)
        clear hg ho
        obtain ⟨b0, off0, ea, p0⟩ := (V.out.below hb).at k hlt
        subst ea
        rw [← C.out] at p0
        by_cases hlj : j < t.size
        · have hlj' : (j : Int) < (t.size : Int) := by omega
          obtain ⟨c, hc⟩ : ∃ c, c = t[j]'hlj := ⟨_, rfl⟩
          have E1 : Hid (enc (t.data.toList.take (j + 1)) = enc (t.data.toList.take j) ++ enc [c]) := Lib.hid (by
            rw [enc_take _ j (by simpa using hlj), hc]
            congr 2
            have hl : j < t.data.toList.length := by simpa using hlj
            rw [List.getD_eq_getElem?_getD, List.getElem?_eq_getElem hl]
            simp [ByteArray.getElem_eq_getElem_data])
          have fc : ((t[j]'hlj).toNat : Int) = c8 c := by rw [hc]; rfl
          by_cases hz : c = 0
          · have g0 : (c8 c == 0) = true := by rw [hz]; rfl
            have e0 : Hid (enc [c] = [c, 255]) := Lib.hid (by rw [hz]; rfl)
            clear hz hc hb
            go_wp2_with (at_builtin; refine app_byte rfl _ _ rfl rfl R2.out.2.1 R2.out.2.2.size _ c rfl rfl (by have := LN.out; omega) ?_)
            intro v' w' o1 h1
            have O1 := Lib.hid o1
            have B1 := Lib.hid (R2.out.2.2.grown h1 R2.out.2.2.size (fun k hk => (R2.out.2.1.lt k hk).1))
            clear o1 h1
            obtain ⟨b1, off1, e1, p1⟩ := (V.out.below B1.out).at k hlt
            cases e1
            rw [← C.out] at p1
            go_wp2_with (at_builtin; refine app_byte rfl _ _ rfl rfl O1.out B1.out.size _ 255 rfl rfl (by have h := LN.out; simp only [List.length_append, List.length_cons, List.length_nil] at h ⊢; omega) ?_)
            intro v'' w'' o2 h2
            have O2 : Hid (Own w.heap.size w'' v'' (keyL (ts.take k) ++ enc (t.data.toList.take (j + 1)))) := Lib.hid (by
              rw [E1.out, e0.out]
              simpa using o2)
            have B2 := Lib.hid (B1.out.grown h2 B1.out.size (fun k hk => (O1.out.lt k hk).1))
            clear o2 h2
            go_wp2_with fail
            go_roundg (t.size - (j + 1))
            case measure => have := R2.out.1; omega
            case rel => exact ⟨j + 1, by omega, rfl, by go_num, O2.out, B2.out⟩
          · have g0 : (c8 c == 0) = false := by
              rw [beq_eq_false_iff_ne]
              intro e
              exact hz (c8_inj e)
            have e0 : Hid (enc [c] = [c]) := Lib.hid (enc_ne c [] hz)
            clear hz hc hb
            go_wp2_with (at_builtin; refine app_byte rfl _ _ rfl rfl R2.out.2.1 R2.out.2.2.size _ c rfl rfl (by have := LN.out; omega) ?_)
            intro v' w' o1 h1
            have O1 : Hid (Own w.heap.size w' v' (keyL (ts.take k) ++ enc (t.data.toList.take (j + 1)))) := Lib.hid (by
              rw [E1.out, e0.out]
              simpa using o1)
            have B1 := Lib.hid (R2.out.2.2.grown h1 R2.out.2.2.size (fun k hk => (R2.out.2.1.lt k hk).1))
            clear o1 h1
            obtain ⟨b1, off1, e1, p1⟩ := (V.out.below B1.out).at k hlt
            cases e1
            rw [← C.out] at p1
            go_wp2_with fail
            go_roundg (t.size - (j + 1))
            case measure => have := R2.out.1; omega
            case rel => exact ⟨j + 1, by omega, rfl, by go_num, O1.out, B1.out⟩
        · have ej : t.data.toList.take j = t.data.toList := List.take_of_length_le (by have : t.data.toList.length = t.size := by simp
                                                                                       omega)
          have O1 : Hid (Own w.heap.size wr u4 (keyL (ts.take k) ++ enc t.data.toList)) := Lib.hid (by have := R2.out.2.1; rw [ej] at this; exact this)
          have KK : Hid (keyL (ts.take (k + 1)) = (keyL (ts.take k) ++ enc t.data.toList) ++ [0, 1]) := Lib.hid (by rw [take_one ts k ⟨#[]⟩ hlt, keyL_app, ← C.out]; simp [keyL])
          have LN2 : Hid ((keyL (ts.take k) ++ enc t.data.toList).length ≤ 18874402) := Lib.hid (by have := LN.out; rw [ej] at this; exact this)
          clear ej hb
          go_wp2_with (at_builtin; refine app_two rfl _ _ rfl rfl O1.out R2.out.2.2.size _ _ 0 1 rfl rfl rfl (by have := LN2.out; omega) ?_)
          intro v' w' o1 h1
          have O2 : Hid (Own w.heap.size w' v' (keyL (ts.take (k + 1)))) := Lib.hid (by rw [KK.out]; simpa using o1)
          have B1 := Lib.hid (R2.out.2.2.grown h1 R2.out.2.2.size (fun k hk => (O1.out.lt k hk).1))
          clear o1 h1
          go_wp2_with fail
          go_roundg (ts.length - (k + 1))
          case measure => have := R.out.1; omega
          case rel => exact ⟨k + 1, by omega, rfl, by go_num, O2.out, B1.out⟩
    · have e : ts.take k = ts := List.take_of_length_le (by omega)
      have O1 : Hid (Own w.heap.size wr u4 (keyL ts)) := Lib.hid (by have := R.out.2.1; rw [e] at this; exact this)
      clear e
      obtain ⟨ab, cb, eb, _, _⟩ := O1.out.bytes.len
      subst eb
      obtain ⟨n, hn⟩ : ∃ n, n = (keyL ts).length := ⟨_, rfl⟩
      rw [← hn] at O1 R ⊢
      by_cases h120 : 120 < n
      · have g120 : decide ((n : Int) > 120) = true := decide_eq_true (by omega)
        have hr : Hid (makeR ts = (⟨#[]⟩, 23)) := Lib.hid (by unfold makeR; rw [if_neg (by omega), if_pos (by omega)])
        clear hn
        go_wp2_with fail
        go_ret2
        exact ⟨by rw [hr.out]; rfl, R.out.2.2⟩
      · have g120 : decide ((n : Int) > 120) = false := decide_eq_false (by omega)
        have hr : Hid (makeR ts = (txt (keyL ts), 0)) := Lib.hid (by unfold makeR; rw [if_neg (by omega), if_neg (by omega)]; rfl)
        have hcv := convT O1.out.bytes
        clear hn
        go_wp2_with fail
        go_ret2
        exact ⟨by rw [hr.out]; rfl, R.out.2.2⟩
end Go.Proofs.YtofjicjoohphcaaGreatDoor.K
end S1

section S2
namespace Go.Proofs.YtofjicjoohphcaaGreatDoor.K
open Go.RowKit
def refGo : List UInt8 → List UInt8 → List ByteArray → List ByteArray
  | [], _, ps => ps
  | [_], _, ps => ps
  | b :: c :: l, p, ps => if b = 0 then (if c = 1 then refGo l [] (ps ++ [txt p]) else refGo l (p ++ [0]) ps) else refGo (c :: l) (p ++ [b]) ps
theorem refGo_ne (b : UInt8) (l p : List UInt8) (ps : List ByteArray) (h : b ≠ 0) : refGo (b :: l) p ps = refGo l (p ++ [b]) ps := by
  cases l with
  | nil => rfl
  | cons c l => rw [refGo, if_neg h]
theorem refGo_one (l p : List UInt8) (ps : List ByteArray) : refGo (0 :: 1 :: l) p ps = refGo l [] (ps ++ [txt p]) := by
  rw [refGo, if_pos rfl, if_pos rfl]
theorem refGo_zero (c : UInt8) (l p : List UInt8) (ps : List ByteArray) (h : c ≠ 1) : refGo (0 :: c :: l) p ps = refGo l (p ++ [0]) ps := by
  rw [refGo, if_pos rfl, if_neg h]
theorem refGo_enc (t r p : List UInt8) (ps : List ByteArray) : refGo (enc t ++ 0 :: 1 :: r) p ps = refGo r [] (ps ++ [txt (p ++ t)]) := by
  induction t generalizing p with
  | nil =>
    show refGo (0 :: 1 :: r) p ps = _
    rw [refGo_one, List.append_nil]
  | cons b t ih =>
    by_cases hb : b = 0
    · subst hb
      rw [enc_zero]
      show refGo (0 :: 255 :: (enc t ++ 0 :: 1 :: r)) p ps = _
      rw [refGo_zero _ _ _ _ (by decide), ih]
      simp
    · rw [enc_ne b t hb]
      show refGo (b :: (enc t ++ 0 :: 1 :: r)) p ps = _
      rw [refGo_ne _ _ _ _ hb, ih]
      simp
theorem refGo_key (ts ps : List ByteArray) : refGo (keyL ts) [] ps = ps ++ ts := by
  induction ts generalizing ps with
  | nil => simp [keyL, refGo]
  | cons t r ih =>
    rw [keyL, refGo_enc, ih, List.nil_append, list_txt]
    simp
def refP (k : ByteArray) : List ByteArray := refGo k.data.toList [] []
theorem refP_ok (k : ByteArray) (h : makeR (refP k) = (k, 0)) : splitE k = 0 ∧ splitT k = refP k := by
  unfold splitE splitT
  rw [split_make h]
  exact ⟨rfl, rfl⟩
theorem refP_bad (k : ByteArray) (h : ¬ makeR (refP k) = (k, 0)) : splitE k = 2 ∧ splitT k = [] := by
  have : splitO k = none := by
    cases hs : splitO k with
    | none => rfl
    | some ts =>
      exfalso
      have hm := make_split hs
      apply h
      have e : refP k = ts := by
        unfold refP
        rw [(make_ok hm).2.2.2, data_bytesOf, refGo_key]
        rfl
      rw [e]
      exact hm
  unfold splitE splitT
  rw [this]
  exact ⟨rfl, rfl⟩
theorem own_kinds {B B' : Nat} {w : World} {v u : Value} {l : List ByteArray} {m : List UInt8} (h : OwnS B w v l) (h' : Own B' w u m) : v.ownBlock = none ∨ v.ownBlock ≠ u.ownBlock := by
  obtain ⟨_, ⟨hv, _⟩ | ⟨g, cap, cur, hv, _, hg, _⟩⟩ := h
  · exact .inl (by rw [hv]; rfl)
  · right
    obtain ⟨_, ⟨hu, _⟩ | ⟨g', cap', cur', hu, _, hg', _⟩⟩ := h'
    · rw [hv, hu]
      intro e
      cases e
    · rw [hv, hu]
      intro e
      simp only [Value.ownBlock, Option.some.injEq] at e
      subst e
      rw [hg] at hg'
      simp only [Option.some.injEq, Obj.cells.injEq] at hg'
      exact absurd hg'.2.1 (by decide)
theorem own_kinds' {B B' : Nat} {w : World} {v u : Value} {l : List ByteArray} {m : List UInt8} (h : OwnS B w v l) (h' : Own B' w u m) : u.ownBlock = none ∨ u.ownBlock ≠ v.ownBlock := by
  have hk := own_kinds h h'
  obtain ⟨_, ⟨hu, _⟩ | ⟨g', cap', cur', hu, _⟩⟩ := h'
  · exact .inl (by rw [hu]; rfl)
  · rcases hk with e | e
    · right
      rw [e, hu]
      intro x
      cases x
    · exact .inr (Ne.symm e)
theorem Own.grown {B : Nat} {w w' : World} {v : Value} {l : List UInt8} (h : Own B w v l) : ∀ r, w.grownBy w' r → (v.ownBlock = none ∨ v.ownBlock ≠ r) → Own B w' v l := fun _ hg hr => World.ownsRow.kept h hg hr
/-- The two lists of the loop. -/
structure Two (B : Nat) (w0 w : World) (vp vq : Value) (ps : List ByteArray) (q : List UInt8) : Prop where
  p : OwnS B w vp ps
  q : Own B w vq q
  low : Below w0.heap.size w0 w
  up : w0.heap.size = B
theorem Two.byte {B : Nat} {w0 w w' : World} {vp vq vq' : Value} {ps : List ByteArray} {q q' : List UInt8} (H : Two B w0 w vp vq ps q) (h1 : Own B w' vq' q') (h2 : w.grownBy w' vq.ownBlock) : Two B w0 w' vp vq' ps q' :=
  ⟨H.p.grown _ h2 (own_kinds H.p H.q), h1, H.low.grown h2 H.low.size (fun k hk => by have := (H.q.lt k hk).1; have := H.up; omega), H.up⟩
theorem Two.text {B : Nat} {w0 w w' : World} {vp vp' vq : Value} {ps ps' : List ByteArray} {q : List UInt8} (H : Two B w0 w vp vq ps q) (h1 : OwnS B w' vp' ps') (h2 : w.grownBy w' vp.ownBlock) : Two B w0 w' vp' (.slice none 0 0) ps' [] :=
  ⟨h1, World.ownsRow_nil _ _ _ _, H.low.grown h2 H.low.size (fun k hk => by have := (H.p.lt k hk).1; have := H.up; omega), H.up⟩
theorem Two.room {B : Nat} {w0 w : World} {vp vq : Value} {ps : List ByteArray} {q : List UInt8} (H : Two B w0 w vp vq ps q) : B ≤ w.heap.size := by
  have := H.low.size
  have := H.up
  omega
theorem drop_two (l : List UInt8) (k : Nat) (h : k + 1 < l.length) : l.drop k = l.getD k 0 :: l.getD (k + 1) 0 :: l.drop (k + 2) := by
  rw [List.drop_eq_getElem_cons (by omega), List.drop_eq_getElem_cons h]
  simp [List.getD_eq_getElem?_getD, h, show k < l.length by omega]
theorem drop_one (l : List UInt8) (k : Nat) (h : k < l.length) : l.drop k = l.getD k 0 :: l.drop (k + 1) := by
  rw [List.drop_eq_getElem_cons h]
  simp [List.getD_eq_getElem?_getD, h]
theorem byte_at (s : ByteArray) (k : Nat) (h : k < s.size) : s.data.toList.getD k 0 = s[k]'h := by
  have hl : k < s.data.toList.length := by simpa using h
  rw [List.getD_eq_getElem?_getD, List.getElem?_eq_getElem hl]
  simp [ByteArray.getElem_eq_getElem_data]
set_option maxHeartbeats 8000000 in
set_option maxRecDepth 100000 in
theorem refSplit_any (s : ByteArray) (w : World) (hs : s.size ≤ 1048576) :
    Calls Tryz.prog 46 #[.string s] w fun e w' => ∃ v, e = .returned (.tuple #[v, .int .i64 (splitE s)]) ∧ OwnS w.heap.size w' v (splitT s) ∧ Below w.heap.size w w' := by
  have sl : s.data.toList.length = s.size := by simp
  have SL := Lib.hid sl
  clear sl
  go_enter Tryz.func46, Tryz.ntmps46
  go_wp2_with fail
  go_loopg [4, 5, 6] (s.size + 1) (fun g sp sq si wr => ∃ (k : Nat) (ps : List ByteArray) (q : List UInt8), k ≤ s.size + 1 ∧ g = s.size + 1 - k ∧ si = .int .i64 k ∧ Two w.heap.size w wr sp sq ps q ∧ refGo (s.data.toList.drop k) q ps = refP s ∧ ps.length ≤ k ∧ q.length ≤ k ∧ (∀ t ∈ ps, t.size ≤ 1048577))
  case atStart => exact ⟨0, [], [], by omega, rfl, rfl, ⟨World.ownsRow_nil _ _ _ _, World.ownsRow_nil _ _ _ _, Below.refl _ _, rfl⟩, rfl, by simp, by simp, by simp⟩
  case round =>
    obtain ⟨k, ps, q, hk, hg, rfl, ht, hgo, hpl, hql, hsz⟩ := hrel
    have R : Hid (gk = s.size + 1 - k ∧ Two w.heap.size w wr u4 u5 ps q ∧ refGo (s.data.toList.drop k) q ps = refP s ∧ (∀ t ∈ ps, t.size ≤ 1048577)) := ⟨hg, ht, hgo, hsz⟩
    clear hg ht hgo hsz
    by_cases hlt : k < s.size
    · have hlt' : (k : Int) < (s.size : Int) := by omega
      obtain ⟨c, hc⟩ : ∃ c, c = s[k]'hlt := ⟨_, rfl⟩
      have fc : ((s[k]'hlt).toNat : Int) = c8 c := by rw [hc]; rfl
      have D1 : Hid (s.data.toList.drop k = c :: s.data.toList.drop (k + 1)) := Lib.hid (by rw [drop_one _ k (by rw [SL.out]; exact hlt), byte_at s k hlt, hc])
      clear hc
      by_cases hz : c = 0
      · subst hz
        have g0 : (c8 0 != 0) = false := rfl
        by_cases hl2 : k + 1 < s.size
        · have hl2' : (k : Int) + 1 < (s.size : Int) := by omega
          have g2 : decide ((k : Int) + 1 < (s.size : Int)) = true := decide_eq_true hl2'
          obtain ⟨d, hd⟩ : ∃ d, d = s[k + 1]'hl2 := ⟨_, rfl⟩
          have fd : ((s[k + 1]'hl2).toNat : Int) = c8 d := by rw [hd]; rfl
          have D2 : Hid (s.data.toList.drop k = 0 :: d :: s.data.toList.drop (k + 2)) := Lib.hid (by rw [D1.out, drop_one _ (k + 1) (by rw [SL.out]; exact hl2), byte_at s (k + 1) hl2, hd])
          clear hd
          by_cases h1 : d = 1
          · subst h1
            have g1 : (c8 1 == 1) = true := rfl
            have hcv := convT R.out.2.1.q.bytes
            go_wp2_with (at_builtin; refine app_txt rfl _ _ rfl rfl R.out.2.1.p R.out.2.1.room (txt q) rfl (by omega) ?_)
            intro v' w' o1 h1
            have T2 := Lib.hid (R.out.2.1.text o1 h1)
            clear o1 h1
            go_wp2_with fail
            go_roundg (s.size + 1 - (k + 2))
            case measure => have := R.out.1; omega
            case rel =>
              refine ⟨k + 2, ps ++ [txt q], [], by omega, rfl, by go_num, T2.out, ?_, by rw [List.length_append]; simp; omega, by simp, ?_⟩
              · have h := R.out.2.2.1
                rw [D2.out, refGo_one] at h
                exact h
              · intro t ht
                rcases List.mem_append.1 ht with ht | ht
                · exact R.out.2.2.2 t ht
                · rw [List.mem_singleton] at ht
                  rw [ht, txt_size]; omega
          · have g1 : (c8 d == 1) = false := by
              rw [beq_eq_false_iff_ne]
              intro e
              exact h1 (c8_inj e)
            go_wp2_with (at_builtin; refine app_byte rfl _ _ rfl rfl R.out.2.1.q R.out.2.1.room _ 0 rfl rfl (by omega) ?_)
            intro v' w' o1 h2
            have T2 := Lib.hid (R.out.2.1.byte o1 h2)
            clear o1 h2
            go_wp2_with fail
            go_roundg (s.size + 1 - (k + 2))
            case measure => have := R.out.1; omega
            case rel =>
              refine ⟨k + 2, ps, q ++ [0], by omega, rfl, by go_num, T2.out, ?_, by omega, by rw [List.length_append]; simp; omega, R.out.2.2.2⟩
              have h := R.out.2.2.1
              rw [D2.out, refGo_zero _ _ _ _ h1] at h
              exact h
        · have g2 : decide ((k : Int) + 1 < (s.size : Int)) = false := decide_eq_false (by omega)
          go_wp2_with (at_builtin; refine app_byte rfl _ _ rfl rfl R.out.2.1.q R.out.2.1.room _ 0 rfl rfl (by omega) ?_)
          intro v' w' o1 h2
          have T2 := Lib.hid (R.out.2.1.byte o1 h2)
          clear o1 h2
          go_wp2_with fail
          go_roundg (s.size + 1 - (k + 2))
          case measure => have := R.out.1; omega
          case rel =>
            refine ⟨k + 2, ps, q ++ [0], by omega, rfl, by go_num, T2.out, ?_, by omega, by rw [List.length_append]; simp; omega, R.out.2.2.2⟩
            have h := R.out.2.2.1
            rw [D1.out, List.drop_eq_nil_of_le (by rw [SL.out]; omega)] at h
            rw [List.drop_eq_nil_of_le (by rw [SL.out]; omega)]
            exact h
      · have g0 : (c8 c != 0) = true := by
          rw [bne_iff_ne]
          intro e
          exact hz (c8_inj e)
        go_wp2_with (at_builtin; refine app_byte rfl _ _ rfl rfl R.out.2.1.q R.out.2.1.room _ c rfl rfl (by omega) ?_)
        intro v' w' o1 h2
        have T2 := Lib.hid (R.out.2.1.byte o1 h2)
        clear o1 h2
        go_wp2_with fail
        go_roundg (s.size + 1 - (k + 1))
        case measure => have := R.out.1; omega
        case rel =>
          refine ⟨k + 1, ps, q ++ [c], by omega, rfl, by go_num, T2.out, ?_, by omega, by rw [List.length_append]; simp; omega, R.out.2.2.2⟩
          have h := R.out.2.2.1
          rw [D1.out, refGo_ne _ _ _ _ hz] at h
          exact h
    · have ep : ps = refP s := by
        have h := R.out.2.2.1
        rw [List.drop_eq_nil_of_le (by rw [SL.out]; omega)] at h
        exact h
      have MK := Lib.hid (refMake_any u4 ps wr R.out.2.1.p.strs R.out.2.2.2)
      obtain ⟨⟨x, f⟩, hr⟩ : ∃ r, r = makeR ps := ⟨_, rfl⟩
      rw [← hr] at MK
      have OK : Hid (x = s → f = 0 → splitE s = 0 ∧ splitT s = ps) := Lib.hid fun h1 h2 => by
        rw [ep]
        exact refP_ok s (by rw [← ep, ← hr, h1, h2])
      have NO : Hid (¬ (x = s ∧ f = 0) → splitE s = 2 ∧ splitT s = []) := Lib.hid fun h => refP_bad s (by
        rw [← ep, ← hr]
        intro e
        exact h ⟨congrArg Prod.fst e, congrArg Prod.snd e⟩)
      clear ep hr
      by_cases e2 : f = 0
      · subst e2
        by_cases e1 : x = s
        · have q1 := eqB x s e1
          have hA := Lib.hid (OK.out e1 rfl)
          clear e1
          go_wp2_with fail
          refine MK.out.mono ?_
          rintro r w3 ⟨rfl, hb⟩
          have B3 := Lib.hid (R.out.2.1.low.trans (hb.mono R.out.2.1.low.size))
          have O4 := Lib.hid (R.out.2.1.p.below hb)
          clear hb
          go_wp2_with fail
          go_ret2
          exact ⟨_, by rw [hA.out.1]; rfl, by rw [hA.out.2]; exact O4.out, B3.out⟩
        · have q1 := neB x s e1
          have hA := Lib.hid (NO.out (fun h => e1 h.1))
          clear e1
          go_wp2_with fail
          refine MK.out.mono ?_
          rintro r w3 ⟨rfl, hb⟩
          have B3 := Lib.hid (R.out.2.1.low.trans (hb.mono R.out.2.1.low.size))
          clear hb
          go_wp2_with fail
          go_ret2
          exact ⟨.slice none 0 0, by rw [hA.out.1]; rfl, by rw [hA.out.2]; exact World.ownsRow_nil _ _ _ _, B3.out⟩
      · have q2 : (f != 0) = true := bne_iff_ne.2 e2
        have hA := Lib.hid (NO.out (fun h => e2 h.2))
        clear e2
        go_wp2_with fail
        refine MK.out.mono ?_
        rintro r w3 ⟨rfl, hb⟩
        have B3 := Lib.hid (R.out.2.1.low.trans (hb.mono R.out.2.1.low.size))
        clear hb
        go_wp2_with fail
        go_ret2
        exact ⟨.slice none 0 0, by rw [hA.out.1]; rfl, by rw [hA.out.2]; exact World.ownsRow_nil _ _ _ _, B3.out⟩
end Go.Proofs.YtofjicjoohphcaaGreatDoor.K
end S2

section S3
namespace Go.Proofs.YtofjicjoohphcaaGreatDoor.L
open Go.RowKit
theorem splitE_none {p : ByteArray} (h : splitO p = none) : splitE p = 41 := by unfold splitE; rw [h]; rfl
theorem splitE_some {p : ByteArray} {ts : List ByteArray} (h : splitO p = some ts) : splitE p = 0 := by unfold splitE; rw [h]; rfl
theorem splitT_none {p : ByteArray} (h : splitO p = none) : splitT p = [] := by unfold splitT; rw [h]; rfl
theorem splitT_some {p : ByteArray} {ts : List ByteArray} (h : splitO p = some ts) : splitT p = ts := by unfold splitT; rw [h]; rfl
end Go.Proofs.YtofjicjoohphcaaGreatDoor.L
end S3

section S4
namespace Go.Proofs.YtofjicjoohphcaaGreatDoor.L
open Go.RowKit
set_option maxHeartbeats 4000000 in
set_option maxRecDepth 100000 in
theorem refName_any (s : ByteArray) (w : World) : Calls Tryz.prog 42 #[.string s] w fun e w' => e = .returned (.bool (nameB s)) ∧ w' = w := by
  go_enter Tryz.func42, Tryz.ntmps42
  by_cases h0 : s.size = 0
  · have g0 : decide ((s.size : Int) < 1) = true := decide_eq_true (by omega)
    have hA : Hid (nameB s = false) := Lib.hid (by unfold nameB; rw [decide_eq_false (show ¬ 0 < s.size by omega)]; rfl)
    go_wp2
    go_ret
    exact ⟨by rw [hA.out]; rfl, rfl⟩
  have g0 : decide ((s.size : Int) < 1) = false := decide_eq_false (by omega)
  by_cases h1 : 32 < s.size
  · have g1 : decide ((s.size : Int) > 32) = true := decide_eq_true (by omega)
    have hA : Hid (nameB s = false) := Lib.hid (by unfold nameB; rw [decide_eq_false (show ¬ s.size ≤ 32 by omega), Bool.and_false, Bool.false_and])
    go_wp2
    go_ret
    exact ⟨by rw [hA.out]; rfl, rfl⟩
  have g1 : decide ((s.size : Int) > 32) = false := decide_eq_false (by omega)
  have w1 : wrap64 ((s.size : Int) - 1) = (s.size : Int) - 1 := by unfold wrap64; omega
  have hp : 0 < s.size := by omega
  have hl : s.size - 1 < s.size := by omega
  by_cases hf : (s[0]'hp).toNat = 45
  · have f0 : (((s[0]'hp).toNat : Int) == 45) = true := by rw [beq_iff_eq]; omega
    have hA : Hid (nameB s = false) := Lib.hid (nameB_false hp (by
      unfold okAt
      rw [get_lit s 0 hp, hf]
      rfl))
    go_wp2
    go_ret
    exact ⟨by rw [hA.out]; rfl, rfl⟩
  have f0 : (((s[0]'hp).toNat : Int) == 45) = false := by rw [beq_eq_false_iff_ne]; omega
  by_cases he : (s[s.size - 1]'hl).toNat = 45
  · have f1 : (((s[s.size - 1]'hl).toNat : Int) == 45) = true := by rw [beq_iff_eq]; omega
    have hA : Hid (nameB s = false) := Lib.hid (nameB_false hl (by
      unfold okAt
      rw [get_lit s _ hl, he, decide_eq_false (show ¬ s.size - 1 + 1 < s.size by omega), Bool.and_false]
      rfl))
    go_wp2
    go_ret
    exact ⟨by rw [hA.out]; rfl, rfl⟩
  have f1 : (((s[s.size - 1]'hl).toNat : Int) == 45) = false := by rw [beq_eq_false_iff_ne]; omega
  have F0 := Lib.hid hf
  have F1 := Lib.hid he
  clear hf he
  go_wp2
  clear f0 f1
  go_loopg [3] s.size (fun g si wr => ∃ (k : Nat), k ≤ s.size ∧ g = s.size - k ∧ si = .int .i64 k ∧ (∀ i, i < k → i < s.size → okAt s i = true) ∧ wr = w)
  case atStart => exact ⟨0, Nat.zero_le _, rfl, rfl, fun i h => by omega, rfl⟩
  case round =>
    obtain ⟨k, hk, hg, rfl, hok, rfl⟩ := hrel
    have R : Aside (gk = s.size - k ∧ ∀ i, i < k → i < s.size → okAt s i = true) := ⟨hg, hok⟩
    clear hg hok
    by_cases hlt : k < s.size
    · have hlt' : (k : Int) < (s.size : Int) := by omega
      obtain ⟨c, hc⟩ : ∃ c, c = (s[k]'hlt).toNat := ⟨_, rfl⟩
      have hc' : (s.get! k).toNat = c := by rw [get_lit s k hlt]; exact hc.symm
      have C : Hid ((s.get! k).toNat = c) := hc'
      have fc : ((s[k]'hlt).toNat : Int) = (c : Int) := by rw [hc]
      clear hc hc'
      rcases (by omega : (c = 45) ∨ (c < 48 ∧ c ≠ 45) ∨ (48 ≤ c ∧ c ≤ 57) ∨ (58 ≤ c ∧ c ≤ 96) ∨ (97 ≤ c ∧ c ≤ 122) ∨ (122 < c)) with hx | hx | hx | hx | hx | hx
      · have gge97 : decide ((c : Int) ≥ 97) = false := decide_eq_false (by omega)
        have gge48 : decide ((c : Int) ≥ 48) = false := decide_eq_false (by omega)
        have gne45 : ((c : Int) != 45) = false := by rw [bne_eq_false_iff_eq]; omega
        have gq : ((c : Int) == 45) = true := by rw [beq_iff_eq]; omega
        have hA : Hid (okAt s k = true) := Lib.hid (by
          have n0 : 0 < k := by
            rcases Nat.eq_zero_or_pos k with e | e
            · subst e
              exact absurd ((get_lit s 0 hp).symm ▸ hx ▸ C.out : (s[0]'hp).toNat = 45) F0.out
            · exact e
          have n1 : k + 1 < s.size := by
            rcases Nat.lt_or_ge (k + 1) s.size with e | e
            · exact e
            · have ek : k = s.size - 1 := by omega
              subst ek
              have h1 := C.out
              rw [get_lit s _ hl, hx] at h1
              exact absurd h1 F1.out
          unfold okAt
          rw [C.out, decide_eq_true n0, decide_eq_true n1, decide_eq_true hx, Bool.and_self, Bool.and_self, Bool.or_true])
        clear hx
        go_wp2
        go_roundg (s.size - (k + 1))
        case measure => have := R.out.1; omega
        case rel => exact ⟨k + 1, by omega, rfl, by go_num, grow_ok R.out.2 hA.out, rfl⟩
      · have gge97 : decide ((c : Int) ≥ 97) = false := decide_eq_false (by omega)
        have gge48 : decide ((c : Int) ≥ 48) = false := decide_eq_false (by omega)
        have gne45 : ((c : Int) != 45) = true := by rw [bne_iff_ne]; omega
        have gq : ((c : Int) == 45) = false := by rw [beq_eq_false_iff_ne]; omega
        have hA : Hid (nameB s = false) := Lib.hid (nameB_false hlt (by
          unfold okAt plainN
          rw [C.out, decide_eq_false (show ¬ c = 45 by omega), Bool.and_false, Bool.or_false]
          simp
          omega))
        clear hx
        go_wp2
        go_ret
        exact ⟨by rw [hA.out]; rfl, rfl⟩
      · have gge97 : decide ((c : Int) ≥ 97) = false := decide_eq_false (by omega)
        have gge48 : decide ((c : Int) ≥ 48) = true := decide_eq_true (by omega)
        have gle57 : decide ((c : Int) ≤ 57) = true := decide_eq_true (by omega)
        have hA : Hid (okAt s k = true) := Lib.hid (by unfold okAt plainN; rw [C.out]; simp [hx])
        clear hx
        go_wp2
        go_roundg (s.size - (k + 1))
        case measure => have := R.out.1; omega
        case rel => exact ⟨k + 1, by omega, rfl, by go_num, grow_ok R.out.2 hA.out, rfl⟩
      · have gge97 : decide ((c : Int) ≥ 97) = false := decide_eq_false (by omega)
        have gge48 : decide ((c : Int) ≥ 48) = true := decide_eq_true (by omega)
        have gle57 : decide ((c : Int) ≤ 57) = false := decide_eq_false (by omega)
        have gne45 : ((c : Int) != 45) = true := by rw [bne_iff_ne]; omega
        have gq : ((c : Int) == 45) = false := by rw [beq_eq_false_iff_ne]; omega
        have hA : Hid (nameB s = false) := Lib.hid (nameB_false hlt (by
          unfold okAt plainN
          rw [C.out, decide_eq_false (show ¬ c = 45 by omega), Bool.and_false, Bool.or_false]
          simp
          omega))
        clear hx
        go_wp2
        go_ret
        exact ⟨by rw [hA.out]; rfl, rfl⟩
      · have gge97 : decide ((c : Int) ≥ 97) = true := decide_eq_true (by omega)
        have gle122 : decide ((c : Int) ≤ 122) = true := decide_eq_true (by omega)
        have hA : Hid (okAt s k = true) := Lib.hid (by unfold okAt plainN; rw [C.out]; simp [hx])
        clear hx
        go_wp2
        go_roundg (s.size - (k + 1))
        case measure => have := R.out.1; omega
        case rel => exact ⟨k + 1, by omega, rfl, by go_num, grow_ok R.out.2 hA.out, rfl⟩
      · have gge97 : decide ((c : Int) ≥ 97) = true := decide_eq_true (by omega)
        have gle122 : decide ((c : Int) ≤ 122) = false := decide_eq_false (by omega)
        have gge48 : decide ((c : Int) ≥ 48) = true := decide_eq_true (by omega)
        have gle57 : decide ((c : Int) ≤ 57) = false := decide_eq_false (by omega)
        have gne45 : ((c : Int) != 45) = true := by rw [bne_iff_ne]; omega
        have gq : ((c : Int) == 45) = false := by rw [beq_eq_false_iff_ne]; omega
        have hA : Hid (nameB s = false) := Lib.hid (nameB_false hlt (by
          unfold okAt plainN
          rw [C.out, decide_eq_false (show ¬ c = 45 by omega), Bool.and_false, Bool.or_false]
          simp
          omega))
        clear hx
        go_wp2
        go_ret
        exact ⟨by rw [hA.out]; rfl, rfl⟩
    · have hA : Hid (nameB s = true) := Lib.hid (nameB_true hp (by omega) fun i hi => R.out.2 i (by omega) hi)
      go_wp2
      go_ret
      exact ⟨by rw [hA.out]; rfl, rfl⟩
end Go.Proofs.YtofjicjoohphcaaGreatDoor.L
end S4

section S5
namespace Go.Proofs.YtofjicjoohphcaaGreatDoor.L
open Go.RowKit
theorem pathOf_take (ts : List ByteArray) (k : Nat) (h : k < ts.length) : pathOf (ts.take (k + 1)) = pathOf (ts.take k) ++ (47 :: (ts.getD k ⟨#[]⟩).data.toList) := by
  rw [take_one ts k ⟨#[]⟩ h, pathOf, List.flatMap_append, ← pathOf]
  simp
theorem bytes_size (l : List UInt8) : (⟨l.toArray⟩ : ByteArray).size = l.length := by simp [ByteArray.size]
theorem bytes_app (l m : List UInt8) : (⟨l.toArray⟩ : ByteArray) ++ ⟨m.toArray⟩ = ⟨(l ++ m).toArray⟩ := by
  apply ByteArray.ext
  simp
end Go.Proofs.YtofjicjoohphcaaGreatDoor.L
end S5

section S6
namespace Go.Proofs.YtofjicjoohphcaaGreatDoor.L
open Go.RowKit
theorem Strs.tail {w : World} {g n cap : Nat} {ts : List ByteArray} (h : Strs w (.slice (some ⟨g, 0, none⟩) n cap) ts) (hn : 0 < ts.length) : Strs w (.slice (some ⟨g, 1, none⟩) (n - 1) (cap - 1)) ts.tail := by
  obtain ⟨a, c, e, h1, h2, _, h3⟩ := h
  simp only [Value.slice.injEq] at e
  obtain ⟨rfl, rfl, rfl⟩ := e
  refine ⟨_, cap - 1, by rw [List.length_tail], by rw [List.length_tail]; omega, by unfold maxLen at h2 ⊢; omega, (fun h => by cases h), fun k hk => ⟨g, 1, rfl, ?_⟩⟩
  rw [List.length_tail] at hk
  obtain ⟨b, off, e, hc⟩ := h3 (k + 1) (by omega)
  cases e
  rw [show 1 + k = 0 + (k + 1) by omega, hc]
  congr 2
  cases ts with
  | nil => simp at hn
  | cons t r => simp
theorem Strs.take {w : World} {a : Option Addr} {n cap : Nat} {ts : List ByteArray} (h : Strs w (.slice a n cap) ts) (k : Nat) (hk : k ≤ ts.length) : Strs w (.slice a k cap) (ts.take k) := by
  obtain ⟨a', c, e, h1, h2, h0, h3⟩ := h
  simp only [Value.slice.injEq] at e
  obtain ⟨rfl, rfl, rfl⟩ := e
  have hl : (ts.take k).length = k := by rw [List.length_take]; omega
  refine ⟨a, cap, by rw [hl], by rw [hl]; omega, h2, h0, fun j hj => ?_⟩
  rw [hl] at hj
  obtain ⟨b, off, e, hc⟩ := h3 j (by omega)
  refine ⟨b, off, e, ?_⟩
  rw [hc]
  congr 2
  rw [List.getD_eq_getElem?_getD, List.getD_eq_getElem?_getD, List.getElem?_take_of_lt hj]
theorem extract_bytes (s : ByteArray) (f k : Nat) : s.extract f k = bytesOf ((s.data.toList.drop f).take (k - f)) := by
  apply data_inj
  rw [Lib.extract_data]
  show _ = ((s.data.toList.drop f).take (k - f)).toArray.toList
  rw [List.toList_toArray]
/-- Where the cutting stands. -/
def Cutting (s : List UInt8) (f k : Nat) (done : List (List UInt8)) : Prop := f ≤ k ∧ done.length ≤ f ∧ pieces 47 s = done ++ pieces 47 (s.drop f) ∧ 47 ∉ (s.drop f).take (k - f)
theorem cutting_start (s : List UInt8) : Cutting s 0 0 [] := ⟨Nat.le_refl _, Nat.le_refl _, rfl, by simp⟩
theorem drop_split (s : List UInt8) {f k : Nat} (hf : f ≤ k) (hk : k < s.length) : s.drop f = (s.drop f).take (k - f) ++ s[k] :: s.drop (k + 1) := by
  have h1 : s.drop f = (s.drop f).take (k - f) ++ (s.drop f).drop (k - f) := (List.take_append_drop _ _).symm
  rw [List.drop_drop, show f + (k - f) = k by omega, List.drop_eq_getElem_cons hk] at h1
  exact h1
theorem Cutting.go {s : List UInt8} {f k : Nat} {done : List (List UInt8)} (h : Cutting s f k done) (hk : k < s.length) (hc : s[k] ≠ 47) : Cutting s f (k + 1) done := by
  obtain ⟨h1, h2, h3, h4⟩ := h
  refine ⟨by omega, h2, h3, ?_⟩
  rw [show k + 1 - f = (k - f) + 1 by omega, List.take_add_one, List.mem_append, not_or]
  refine ⟨h4, ?_⟩
  rw [List.getElem?_drop, show f + (k - f) = k by omega, List.getElem?_eq_getElem hk]
  simp only [Option.toList_some, List.mem_singleton]
  exact fun e => hc e.symm
theorem Cutting.cut {s : List UInt8} {f k : Nat} {done : List (List UInt8)} (h : Cutting s f k done) (hk : k < s.length) (hc : s[k] = 47) : Cutting s (k + 1) (k + 1) (done ++ [(s.drop f).take (k - f)]) := by
  obtain ⟨h1, h2, h3, h4⟩ := h
  refine ⟨Nat.le_refl _, by rw [List.length_append, List.length_singleton]; omega, ?_, by simp⟩
  have hd := drop_split s h1 hk
  rw [hc] at hd
  rw [h3, List.append_assoc]
  congr 1
  conv => lhs; rw [hd]
  rw [pieces_app _ _ _ h4]
  rfl
theorem Cutting.done {s : List UInt8} {f : Nat} {done : List (List UInt8)} (h : Cutting s f s.length done) : pieces 47 s = done ++ [(s.drop f).take (s.length - f)] := by
  obtain ⟨h1, h2, h3, h4⟩ := h
  have e : (s.drop f).take (s.length - f) = s.drop f := List.take_of_length_le (by rw [List.length_drop]; omega)
  rw [e] at h4 ⊢
  rw [h3, pieces_free _ _ h4]
set_option maxHeartbeats 8000000 in
set_option maxRecDepth 100000 in
theorem refPieces_any (s : ByteArray) (w : World) (hs : s.size ≤ 1048576) :
    Calls Tryz.prog 135 #[.string s, .int .u8 47] w fun e w' => ∃ v, e = .returned v ∧ OwnS w.heap.size w' v ((pieces 47 s.data.toList).map bytesOf) ∧ Below w.heap.size w w' := by
  have sl : s.data.toList.length = s.size := by simp
  go_enter Tryz.func135, Tryz.ntmps135
  go_wp2_with fail
  go_loopg [5, 6, 7] (s.size + 1) (fun g so sf si wr => ∃ (k f : Nat) (vo : Value), g = s.size + 1 - k ∧ si = .int .i64 k ∧ sf = .int .i64 f ∧ so = vo ∧ f ≤ s.size + 1 ∧ Below w.heap.size w wr ∧
    ((k ≤ s.size ∧ ∃ done, Cutting s.data.toList f k done ∧ OwnS w.heap.size wr vo (done.map bytesOf)) ∨ (k = s.size + 1 ∧ OwnS w.heap.size wr vo ((pieces 47 s.data.toList).map bytesOf))))
  case atStart => exact ⟨0, 0, _, rfl, rfl, rfl, rfl, by omega, Below.refl _ _, Or.inl ⟨Nat.zero_le _, [], cutting_start _, World.ownsRow_nil _ _ _ _⟩⟩
  case round =>
    obtain ⟨k, f, vo, hg, rfl, rfl, rfl, hf, hb, hst⟩ := hrel
    have GK := Lib.hid hg
    have HB := Lib.hid hb
    have S0 := Lib.hid hb.size
    clear hg hb
    rcases hst with ⟨hk, done, hC, hO⟩ | ⟨hk, hO⟩
    · have O := Lib.hid hO
      have C := Lib.hid hC
      have hfk := hC.1
      have L : Hid (((done.map bytesOf).length + 1) * 16 ≤ 140737488355328) := Lib.hid (by rw [List.length_map]; have := hC.2.1; omega)
      clear hO hC
      have hk' : decide ((k : Int) ≤ (s.size : Int)) = true := decide_eq_true (by omega)
      have ex := Lib.hid (extract_bytes s f k)
      by_cases hlt : k < s.size
      · have ge : ((k : Int) == (s.size : Int)) = false := by rw [beq_eq_false_iff_ne]; omega
        have hlt' : (k : Int) < (s.size : Int) := by omega
        have hcs : s.data.toList[k]'(by omega) = s[k]'hlt := by simp [ByteArray.getElem_eq_getElem_data]
        by_cases hc : s[k]'hlt = 47
        · have gc : (((s[k]'hlt).toNat : Int) == 47) = true := by rw [hc]; rfl
          go_wp2_with (at_builtin; refine app_txt rfl _ _ rfl rfl O.out S0.out (s.extract f k) rfl L.out ?_)
          intro v' w' h1 h2
          have B2 := Lib.hid (HB.out.trans ((Below.refl _ _).grown h2 S0.out (fun k hk => (O.out.lt k hk).1)))
          have O2 : Hid (OwnS w.heap.size w' v' ((done ++ [(s.data.toList.drop f).take (k - f)]).map bytesOf)) := Lib.hid (by
            rw [List.map_append, List.map_singleton, ← ex.out]
            exact h1)
          have C2 := Lib.hid (C.out.cut (by omega) (hcs.trans hc))
          clear h1 h2 O C L
          go_wp2_with fail
          go_roundg (s.size + 1 - (k + 1))
          case measure => have := GK.out; omega
          case rel => exact ⟨k + 1, k + 1, _, rfl, by go_num, by go_num, rfl, by omega, B2.out, Or.inl ⟨by omega, _, C2.out, O2.out⟩⟩
        · have gc : (((s[k]'hlt).toNat : Int) == 47) = false := by
            rw [beq_eq_false_iff_ne]
            intro h
            have h9 : (s[k]'hlt).toNat = 47 := by omega
            exact hc (UInt8.toNat_inj.1 (h9.trans rfl))
          have C2 := Lib.hid (C.out.go (by omega) (fun h => hc (hcs.symm.trans h)))
          go_wp2_with fail
          go_roundg (s.size + 1 - (k + 1))
          case measure => have := GK.out; omega
          case rel => exact ⟨k + 1, f, _, rfl, by go_num, rfl, rfl, hf, HB.out, Or.inl ⟨by omega, _, C2.out, O.out⟩⟩
      · have ge : ((k : Int) == (s.size : Int)) = true := by rw [beq_iff_eq]; omega
        have EK : Hid (k = s.size) := Lib.hid (by omega)
        go_wp2_with (at_builtin; refine app_txt rfl _ _ rfl rfl O.out S0.out (s.extract f k) rfl L.out ?_)
        intro v' w' h1 h2
        have B2 := Lib.hid (HB.out.trans ((Below.refl _ _).grown h2 S0.out (fun k hk => (O.out.lt k hk).1)))
        have O2 : Hid (OwnS w.heap.size w' v' ((pieces 47 s.data.toList).map bytesOf)) := Lib.hid (by
          have hd : Cutting s.data.toList f s.data.toList.length done := by rw [sl, ← EK.out]; exact C.out
          rw [hd.done, List.map_append, List.map_singleton, sl, ← EK.out, ← ex.out]
          exact h1)
        clear h1 h2 O C L
        go_wp2_with fail
        go_roundg (s.size + 1 - (k + 1))
        case measure => have := GK.out; omega
        case rel => exact ⟨k + 1, k + 1, _, rfl, by go_num, by go_num, rfl, by omega, B2.out, Or.inr ⟨by omega, O2.out⟩⟩
    · subst hk
      have hk' : decide (((s.size : Int) + 1) ≤ (s.size : Int)) = false := decide_eq_false (by omega)
      have O := Lib.hid hO
      clear hO
      go_wp2_with fail
      go_ret
      exact ⟨_, rfl, O.out, HB.out⟩
end Go.Proofs.YtofjicjoohphcaaGreatDoor.L
end S6

section S7
namespace Go.Proofs.YtofjicjoohphcaaGreatDoor.L
open Go.RowKit
theorem pieces_head_ne {p : List UInt8} (h : Lib.hasPrefix p [47] = false) : (pieces 47 p).length < 2 ∨ ∃ x r, (pieces 47 p) = x :: r ∧ x ≠ [] := by
  cases p with
  | nil => exact Or.inl (by decide)
  | cons b l =>
    have hb : b ≠ 47 := by
      intro e
      subst e
      simp [Lib.hasPrefix] at h
    rw [pieces_cons, if_neg hb]
    exact Or.inr ⟨_, _, rfl, by simp⟩
theorem pieces_slash {p : List UInt8} (h : Lib.hasPrefix p [47] = true) : pieces 47 p = [] :: pieces 47 p.tail := by
  cases p with
  | nil => cases h
  | cons b l =>
    have : b = 47 := by simp [Lib.hasPrefix] at h; exact h.symm
    rw [pieces_cons, if_pos this]
    rfl
theorem pieces_pos (c : UInt8) (l : List UInt8) : 1 ≤ (pieces c l).length := List.length_pos_iff.2 (pieces_ne c l)
set_option maxHeartbeats 8000000 in
set_option maxRecDepth 100000 in
theorem refSplit_any (p : ByteArray) (w : World) (hs : p.size ≤ 1048576) :
    Calls Tryz.prog 86 #[.string p] w fun e w' => ∃ v, e = .returned (.tuple #[v, .int .i64 (splitE p)]) ∧ Strs w' v (splitT p) ∧ Below w.heap.size w w' := by
  have nilS : ∀ W, Strs W (.slice none 0 0) [] := fun W => ⟨none, 0, rfl, by simp, by decide, fun _ => rfl, fun k hk => by simp at hk⟩
  have NS := Lib.hid nilS
  clear nilS
  have PP := Lib.hid (refPieces_any p w hs)
  go_enter Tryz.func86, Tryz.ntmps86
  by_cases hr : p.data.toList = [47]
  · have hA : Hid (splitE p = 0 ∧ splitT p = []) := Lib.hid (by unfold splitE splitT splitO; rw [if_pos hr]; exact ⟨rfl, rfl⟩)
    have hp : (p.toList == [47]) = true := by rw [list_of_bytes, hr]; rfl
    go_wp2_with fail
    go_ret2
    exact ⟨.slice none 0 0, by rw [hA.out.1]; rfl, by rw [hA.out.2]; exact NS.out _, Below.refl _ _⟩
  have hp : (p.toList == [47]) = false := by rw [list_of_bytes, beq_eq_false_iff_ne]; exact hr
  have HN : Hid (¬ (Lib.hasPrefix p.data.toList [47] = true ∧ p.size ≤ 64 ∧ ((pieces 47 p.data.toList.tail).map bytesOf).length ≤ 8 ∧ ((pieces 47 p.data.toList.tail).map bytesOf).all nameB = true) → splitE p = 41 ∧ splitT p = []) := Lib.hid (by
    intro h
    unfold splitE splitT splitO
    rw [if_neg hr, if_neg h]
    exact ⟨rfl, rfl⟩)
  go_wp2_with fail
  refine PP.out.mono ?_
  rintro e w1 ⟨v, rfl, own, hb⟩
  have B1 := Lib.hid hb
  have S1 := Lib.hid own.strs
  have hplen : ((pieces 47 p.data.toList).map bytesOf).length = (pieces 47 p.data.toList).length := by simp
  obtain ⟨g, cap, hv, hc1, hc2⟩ : ∃ g cap, v = .slice (some ⟨g, 0, none⟩) (pieces 47 p.data.toList).length cap ∧ (pieces 47 p.data.toList).length ≤ cap ∧ cap ≤ maxLen := by
    obtain ⟨_, ⟨_, h⟩ | ⟨g, cap, cur, hv, _, _, h1, h2, _⟩⟩ := own
    · rw [hplen] at h
      have := pieces_pos 47 p.data.toList
      omega
    · exact ⟨g, cap, by rw [hv, hplen], by omega, h2⟩
  subst hv
  unfold maxLen at hc2
  clear own hb PP hplen
  by_cases h64 : p.size ≤ 64
  · have g64 : decide ((p.size : Int) > 64) = false := decide_eq_false (by omega)
    cases hpre : Lib.hasPrefix p.data.toList [47] with
    | false =>
      have hA := Lib.hid (HN.out (by rw [hpre]; simp))
      have hx := pieces_head_ne hpre
      have hat := S1.out
      by_cases h2 : (pieces 47 p.data.toList).length < 2
      · have g2 : decide (((pieces 47 p.data.toList).length : Int) < 2) = true := decide_eq_true (by omega)
        clear hx hat
        obtain ⟨n, hn⟩ : ∃ n, n = (pieces 47 p.data.toList).length := ⟨_, rfl⟩
        rw [← hn] at g2 hc1 ⊢
        clear hn
        go_wp2_with fail
        go_ret2
        exact ⟨.slice none 0 0, by rw [hA.out.1]; rfl, by rw [hA.out.2]; exact NS.out _, B1.out⟩
      · have g2 : decide (((pieces 47 p.data.toList).length : Int) < 2) = false := decide_eq_false (by omega)
        obtain ⟨x, r, hxr, hxe⟩ : ∃ x r, pieces 47 p.data.toList = x :: r ∧ x ≠ [] := by
          rcases hx with h | h
          · exact absurd h h2
          · exact h
        obtain ⟨b, off, e', c0⟩ := hat.at 0 (by rw [List.length_map]; omega)
        cases e'
        rw [hxr, List.map_cons, List.getD_cons_zero, Nat.add_zero] at c0
        have gx : (bytesOf x).toList.isEmpty = false := by
          rw [list_of_bytes]
          cases x with
          | nil => exact absurd rfl hxe
          | cons y z => rfl
        obtain ⟨t, ht⟩ : ∃ t, t = bytesOf x := ⟨_, rfl⟩
        rw [← ht] at c0 gx
        obtain ⟨n, hn⟩ : ∃ n, n = (pieces 47 p.data.toList).length := ⟨_, rfl⟩
        have hn2 : 2 ≤ n := by omega
        rw [← hn] at g2 hc1 ⊢
        clear hn ht hxr hxe hx hat h2
        by_cases h9 : n ≤ 9
        · have g9 : decide ((n : Int) > 9) = false := decide_eq_false (by omega)
          go_wp2_with fail
          go_ret2
          exact ⟨.slice none 0 0, by rw [hA.out.1]; rfl, by rw [hA.out.2]; exact NS.out _, B1.out⟩
        · have g9 : decide ((n : Int) > 9) = true := decide_eq_true (by omega)
          go_wp2_with fail
          go_ret2
          exact ⟨.slice none 0 0, by rw [hA.out.1]; rfl, by rw [hA.out.2]; exact NS.out _, B1.out⟩
    | true =>
      have hsl := pieces_slash hpre
      obtain ⟨ts, hts⟩ : ∃ ts, ts = (pieces 47 p.data.toList.tail).map bytesOf := ⟨_, rfl⟩
      have hlen : (pieces 47 p.data.toList).length = ts.length + 1 := by rw [hsl, hts, List.length_cons, List.length_map]
      have hmap : (pieces 47 p.data.toList).map bytesOf = ⟨#[]⟩ :: ts := by rw [hsl, hts, List.map_cons]; rfl
      have hpos : 1 ≤ ts.length := by rw [hts, List.length_map]; exact pieces_pos _ _
      have hsome : Hid (ts.length ≤ 8 → ts.all nameB = true → splitE p = 0 ∧ splitT p = ts) := Lib.hid (by
        intro h8 hall
        have e : splitO p = some ts := by
          unfold splitO
          rw [if_neg hr, if_pos ⟨hpre, h64, by rw [← hts]; exact h8, by rw [← hts]; exact hall⟩, ← hts]
        unfold splitE splitT
        rw [e]
        exact ⟨rfl, rfl⟩)
      have hno : Hid (¬ (ts.length ≤ 8 ∧ ts.all nameB = true) → splitE p = 41 ∧ splitT p = []) := Lib.hid (by
        intro h
        refine HN.out fun h2 => h ?_
        rw [hts]
        exact h2.2.2)
      rw [hmap, hlen] at S1
      rw [hlen] at hc1 ⊢
      obtain ⟨b, off, e', c0⟩ := S1.out.at 0 (by simp)
      cases e'
      rw [List.getD_cons_zero, Nat.add_zero] at c0
      have g2 : decide ((ts.length : Int) + 1 < 2) = false := decide_eq_false (by omega)
      clear HN hts hmap hsl hlen
      by_cases h8 : ts.length ≤ 8
      · have g9 : decide ((ts.length : Int) + 1 > 9) = false := decide_eq_false (by omega)
        go_wp2_with fail
        clear c0 g2 g9
        go_loopg [5] ts.length (fun g' si wr => ∃ (k : Nat), k ≤ ts.length ∧ g' = ts.length - k ∧ si = .int .i64 ((k : Int) + 1) ∧ (ts.take k).all nameB = true ∧ Below w1.heap.size w1 wr)
        case atStart => exact ⟨0, Nat.zero_le _, rfl, rfl, rfl, Below.refl _ _⟩
        case round =>
          obtain ⟨k, hk, hgk, rfl, ha, hb⟩ := hrel
          have GK := Lib.hid hgk
          have HA := Lib.hid ha
          have HB := Lib.hid hb
          clear hgk ha hb
          by_cases hlt : k < ts.length
          · obtain ⟨b', off', e', ck⟩ := (S1.out.below HB.out).at (k + 1) (by simp; omega)
            cases e'
            rw [List.getD_cons_succ, Nat.zero_add] at ck
            obtain ⟨t, ht⟩ : ∃ t, t = ts.getD k ⟨#[]⟩ := ⟨_, rfl⟩
            rw [← ht] at ck
            have C := Lib.hid ht
            clear ht
            have hlt' : (k : Int) + 1 < (ts.length : Int) + 1 := by omega
            have RN := Lib.hid (refName_any t)
            cases hn : nameB t with
            | true =>
              rw [hn] at RN
              go_wp2_with fail
              refine (RN.out _).mono ?_
              rintro e w2 ⟨rfl, rfl⟩
              go_wp2_with fail
              go_roundg (ts.length - (k + 1))
              case measure => have := GK.out; omega
              case rel => exact ⟨k + 1, by omega, rfl, by go_num, by rw [take_one ts k ⟨#[]⟩ hlt, ← C.out, List.all_append, HA.out]; simp [hn], HB.out⟩
            | false =>
              rw [hn] at RN
              have hall : ts.all nameB = false := by
                rw [List.all_eq_false]
                refine ⟨t, ?_, by rw [hn]; exact Bool.false_ne_true⟩
                rw [C.out, List.getD_eq_getElem?_getD, List.getElem?_eq_getElem hlt]
                exact List.getElem_mem hlt
              have hA := Lib.hid (hno.out (by rw [hall]; simp))
              clear hall
              go_wp2_with fail
              refine (RN.out _).mono ?_
              rintro e w2 ⟨rfl, rfl⟩
              go_wp2_with fail
              go_ret2
              exact ⟨.slice none 0 0, by rw [hA.out.1]; rfl, by rw [hA.out.2]; exact NS.out _, B1.out.trans (HB.out.mono B1.out.size)⟩
          · have hall : ts.all nameB = true := by
              have := HA.out
              rwa [List.take_of_length_le (by omega)] at this
            have hA := Lib.hid (hsome.out h8 hall)
            have ek : k = ts.length := by omega
            subst ek
            clear hall
            have ST := Lib.hid ((S1.out.below HB.out).tail (by simp))
            go_wp2_with fail
            go_ret2
            refine ⟨_, by rw [hA.out.1]; rfl, ?_, B1.out.trans (HB.out.mono B1.out.size)⟩
            rw [hA.out.2]
            have := ST.out
            rw [List.tail_cons, Nat.add_sub_cancel] at this
            exact this
      · have g9 : decide ((ts.length : Int) + 1 > 9) = true := decide_eq_true (by omega)
        have hA := Lib.hid (hno.out (fun h => h8 h.1))
        go_wp2_with fail
        go_ret2
        exact ⟨.slice none 0 0, by rw [hA.out.1]; rfl, by rw [hA.out.2]; exact NS.out _, B1.out⟩
  · have g64 : decide ((p.size : Int) > 64) = true := decide_eq_true (by omega)
    have hA := Lib.hid (HN.out (fun h => h64 h.2.1))
    obtain ⟨n, hn⟩ : ∃ n, n = (pieces 47 p.data.toList).length := ⟨_, rfl⟩
    rw [← hn] at hc1 ⊢
    clear hn
    go_wp2_with fail
    go_ret2
    exact ⟨.slice none 0 0, by rw [hA.out.1]; rfl, by rw [hA.out.2]; exact NS.out _, B1.out⟩
end Go.Proofs.YtofjicjoohphcaaGreatDoor.L
end S7

section S8
namespace Go.Proofs.YtofjicjoohphcaaGreatDoor.L
open Go.RowKit
theorem OwnS.mono {B B' : Nat} {w : World} {v : Value} {ts : List ByteArray} (h : OwnS B w v ts) (hb : B' ≤ B) : OwnS B' w v ts := by
  obtain ⟨h1, h | ⟨g, cap, cur, hv, h0, hr⟩⟩ := h
  · exact ⟨h1, .inl h⟩
  · exact ⟨h1, .inr ⟨g, cap, cur, hv, Nat.le_trans hb h0, hr⟩⟩
theorem joinR_good {ts : List ByteArray} (hg : Good ts) : joinR ts = (pth ts, 0) := by
  unfold joinR
  rw [hg.1, if_pos rfl, if_pos hg.2.1, if_pos hg.2.2]
  rfl
set_option maxHeartbeats 2000000 in
theorem refPath_any (p : ByteArray) (w : World) (hs : p.size ≤ 1048576) : Calls Tryz.prog 41 #[.string p] w fun e w' => e = .returned (.int .i64 (splitE p)) ∧ Below w.heap.size w w' := by
  have SP := Lib.hid (refSplit_any p w hs)
  go_enter Tryz.func41, Tryz.ntmps41
  go_wp2_with fail
  refine SP.out.mono ?_
  rintro e w1 ⟨v, rfl, _, hb⟩
  have B1 := Lib.hid hb
  clear hb
  go_wp2_with fail
  go_ret
  exact ⟨rfl, B1.out⟩
end Go.Proofs.YtofjicjoohphcaaGreatDoor.L
end S8

section S9
namespace Go.Proofs.YtofjicjoohphcaaGreatDoor
open Go.RowKit
open Go.Sort (grow)
theorem regz {w : World} {a : Addr} {v : Value} (h : w.cell? a = some v) : ∀ (dq : Nat) (os : Array Obj), (grow (redrawn w dq) os).cell? a = some v := fun dq os => cell_regrown h dq os
theorem keyR_okz {k : Int} {p n s : ByteArray} (h : keyR k p n = (s, 0)) : 0 ≤ k ∧ k ≤ 4 ∧ L.splitE p = 0 ∧ nmB k n = true ∧ K.makeR [letter k, p, n] = (s, 0) := by
  unfold keyR at h
  split at h
  · simp at h
  · rename_i h1
    split at h
    · rename_i h2
      split at h
      · rename_i h3
        exact ⟨by omega, by omega, h2, h3, h⟩
      · simp at h
    · simp at h
theorem ix_letterz (k : Int) (h : 0 ≤ k) (h4 : k ≤ 4) : ix (letter k) = k := by
  have : k = 0 ∨ k = 1 ∨ k = 2 ∨ k = 3 ∨ k = 4 := by omega
  rcases this with rfl | rfl | rfl | rfl | rfl <;> decide
theorem un_keyz {k : Int} {p n s : ByteArray} (h : keyR k p n = (s, 0)) : unR s = (k, p, n, 0) := by
  obtain ⟨h0, h4, h1, h2, h3⟩ := keyR_okz h
  have hs := K.split_make h3
  have hT : K.splitT s = [letter k, p, n] := by unfold K.splitT; rw [hs]; rfl
  have hE : K.splitE s = 0 := by unfold K.splitE; rw [hs]; rfl
  have e0 : pt s 0 = letter k := by unfold pt; rw [hT]; rfl
  have e1 : pt s 1 = p := by unfold pt; rw [hT]; rfl
  have e2 : pt s 2 = n := by unfold pt; rw [hT]; rfl
  have hu : unB s := ⟨hE, by rw [hT]; rfl, by rw [e0, e1, e2, ix_letterz k h0 h4]; exact h⟩
  rw [unR_yes hu, e0, e1, e2, ix_letterz k h0 h4]
end Go.Proofs.YtofjicjoohphcaaGreatDoor
end S9

section S10
namespace Go.Proofs.YtofjicjoohphcaaGreatDoor
open Go.RowKit
open Go.Sort (grow)
set_option maxHeartbeats 8000000 in
set_option maxRecDepth 100000 in
theorem refKey_any (k : Int) (p n : ByteArray) (w : World) (hp : p.size ≤ 1048576) (hn : n.size ≤ 1048576) :
    Calls Tryz.prog 9 #[.int .i64 k, .string p, .string n] w fun e w' => e = .returned (.tuple #[.string (keyR k p n).1, .int .i64 (keyR k p n).2]) ∧ Below w.heap.size w w' := by
  have PA := Lib.hid (L.refPath_any p w hp)
  have NA := Lib.hid (L.refName_any n)
  have SZ := Lib.hid (And.intro hp hn)
  clear hp hn
  by_cases h0 : k < 0
  · have E : Aside (keyR k p n = (⟨#[]⟩, 1)) := by show _ = _; unfold keyR; rw [if_pos (Or.inl h0)]
    go_enter Tryz.func9, Tryz.ntmps9
    go_wp2_with fail
    go_ret2
    exact ⟨by rw [E.out]; rfl, Below.refl _ _⟩
  by_cases h5 : k > 4
  · have E : Aside (keyR k p n = (⟨#[]⟩, 1)) := by show _ = _; unfold keyR; rw [if_pos (Or.inr h5)]
    go_enter Tryz.func9, Tryz.ntmps9
    go_wp2_with fail
    go_ret2
    exact ⟨by rw [E.out]; rfl, Below.refl _ _⟩
  have E0 : keyR k p n = if L.splitE p = 0 then (if nmB k n = true then K.makeR [letter k, p, n] else (⟨#[]⟩, 40)) else (⟨#[]⟩, 41) := by unfold keyR; rw [if_neg (by omega)]
  go_enter Tryz.func9, Tryz.ntmps9
  go_wp2_with fail
  refine PA.out.mono ?_
  rintro e w1 ⟨rfl, hb⟩
  have B1 := Lib.hid hb
  clear hb PA
  by_cases hs : L.splitE p = 0
  case neg =>
    have E : Aside (keyR k p n = (⟨#[]⟩, 41)) := by show _ = _; rw [E0, if_neg hs]
    have g : (L.splitE p != 0) = true := by rw [bne_iff_ne]; exact hs
    clear hs E0
    go_wp2_with fail
    go_ret2
    exact ⟨by rw [E.out]; rfl, B1.out⟩
  rw [if_pos hs] at E0
  have g : (L.splitE p != 0) = false := by rw [hs]; rfl
  clear hs
  have MK : Hid (∀ (a : ByteArray), a.size = 1 → Calls Tryz.prog 43 #[.slice (some ⟨w1.heap.size, 0, none⟩) 3 3] (w1.alloc (.cells #[.string a, .string p, .string n] 9)) fun e w' => e = .returned (.tuple #[.string (K.makeR [a, p, n]).1, .int .i64 (K.makeR [a, p, n]).2]) ∧ Below w.heap.size w w') := Lib.hid fun a ha => by
    have hb := K.below_built w1 (.cells #[.string a, .string p, .string n] 9)
    have hw := B1.out.trans (hb.mono B1.out.size)
    refine (K.refMake_any _ [a, p, n] _ (K.strs_built w1 [a, p, n] _ 3 rfl rfl (by show 3 ≤ maxLen; decide)) ?_).mono fun _ _ q => ⟨q.1, hw.trans (q.2.mono hw.size)⟩
    intro t ht
    simp only [List.mem_cons, List.not_mem_nil, or_false] at ht
    have := SZ.out
    rcases ht with rfl | rfl | rfl
    · rw [ha]; decide
    · omega
    · omega
  have hk : k = 0 ∨ k = 1 ∨ k = 2 ∨ k = 3 ∨ k = 4 := by omega
  have x0 : (⟨#[110, 113, 108, 111, 98]⟩ : ByteArray).extract 0 1 = ⟨#[110]⟩ := by decide
  have x1 : (⟨#[110, 113, 108, 111, 98]⟩ : ByteArray).extract 1 2 = ⟨#[113]⟩ := by decide
  have x2 : (⟨#[110, 113, 108, 111, 98]⟩ : ByteArray).extract 2 3 = ⟨#[108]⟩ := by decide
  have x3 : (⟨#[110, 113, 108, 111, 98]⟩ : ByteArray).extract 3 4 = ⟨#[111]⟩ := by decide
  have x4 : (⟨#[110, 113, 108, 111, 98]⟩ : ByteArray).extract 4 5 = ⟨#[98]⟩ := by decide
  clear h0 h5
  by_cases hz : k = 0
  · subst hz
    clear hk
    by_cases he : n.size = 0
    · have ge : n.toList.isEmpty = true := by rw [empty_iff, decide_eq_true he]
      have E1 : Aside (keyR 0 p n = K.makeR [letter 0, p, n]) := by show _ = _; rw [E0]; unfold nmB; rw [if_pos rfl, decide_eq_true he, if_pos rfl]
      clear E0 he
      go_wp2_with fail
      refine (MK.out _ rfl).mono ?_
      rintro e w3 ⟨rfl, hb⟩
      have B3 := Lib.hid hb
      clear hb MK x0 x1 x2 x3 x4
      go_wp2_with fail
      go_ret2
      exact ⟨by rw [E1.out]; rfl, B3.out⟩
    · have ge : n.toList.isEmpty = false := by rw [empty_iff, decide_eq_false he]
      have E1 : Aside (keyR 0 p n = (⟨#[]⟩, 40)) := by show _ = _; rw [E0]; unfold nmB; rw [if_pos rfl, decide_eq_false he, if_neg (by simp)]
      clear E0 he
      go_wp2_with fail
      go_ret2
      exact ⟨by rw [E1.out]; rfl, B1.out⟩
  · have gz : (k == 0) = false := by rw [beq_eq_false_iff_ne]; exact hz
    have gz2 : (k != 0) = true := by rw [bne_iff_ne]; exact hz
    cases hN : L.nameB n with
    | false =>
      have E1 : Aside (keyR k p n = (⟨#[]⟩, 40)) := by show _ = _; rw [E0]; unfold nmB; rw [if_neg hz, hN, if_neg (by simp)]
      clear E0 hz hk
      go_wp2_with fail
      refine (NA.out w1).mono ?_
      rintro e w2 ⟨rfl, rfl⟩
      rw [hN]
      go_wp2_with fail
      go_ret2
      exact ⟨by rw [E1.out]; rfl, B1.out⟩
    | true =>
      have E1 : Aside (keyR k p n = K.makeR [letter k, p, n]) := by show _ = _; rw [E0]; unfold nmB; rw [if_neg hz, hN, if_pos rfl]
      clear E0
      go_wp2_with fail
      refine (NA.out w1).mono ?_
      rintro e w2 ⟨rfl, rfl⟩
      rw [hN]
      clear gz gz2
      rcases hk with rfl | rfl | rfl | rfl | rfl
      · exact absurd rfl hz
      all_goals
        clear hz
        go_wp2_with fail
        refine (MK.out _ rfl).mono ?_
        rintro e w3 ⟨rfl, hb⟩
        have B3 := Lib.hid hb
        clear hb MK x0 x1 x2 x3 x4
        go_wp2_with fail
        go_ret2
        exact ⟨by rw [E1.out]; rfl, B3.out⟩
set_option maxHeartbeats 8000000 in
set_option maxRecDepth 100000 in
theorem refUnkey_any (s : ByteArray) (w : World) (hs : s.size ≤ 1048576) :
    Calls Tryz.prog 11 #[.string s] w fun e w' => e = .returned (.tuple #[.int .i64 (unR s).1, .string (unR s).2.1, .string (unR s).2.2.1, .int .i64 (unR s).2.2.2]) ∧ Below w.heap.size w w' := by
  have SA := Lib.hid (K.refSplit_any s w hs)
  clear hs
  go_enter Tryz.func11, Tryz.ntmps11
  go_wp2_with fail
  refine SA.out.mono ?_
  rintro e w1 ⟨v, rfl, ho, hb⟩
  have B1 := Lib.hid hb
  have V := Lib.hid ho.strs
  obtain ⟨a, cap, rfl, hlc, hcm⟩ := ho.strs.len
  unfold maxLen at hcm
  obtain ⟨n, hn⟩ : ∃ n, n = (K.splitT s).length := ⟨_, rfl⟩
  rw [← hn] at hlc V ⊢
  have HN := Lib.hid hn
  clear ho hb SA hn
  by_cases hE : K.splitE s = 0
  case neg =>
    have E : Aside (unR s = (0, ⟨#[]⟩, ⟨#[]⟩, 2)) := unR_no (fun q => hE q.1)
    have g : (K.splitE s != 0) = true := by rw [bne_iff_ne]; exact hE
    clear hE
    go_wp2_with fail
    refine bodyPost_ret (results_tmp4 rfl _ _) rfl ?_
    exact ⟨by rw [E.out]; rfl, B1.out⟩
  have g : (K.splitE s != 0) = false := by rw [hE]; rfl
  have HE := Lib.hid hE
  clear hE
  by_cases h3 : n = 3
  case neg =>
    have E : Aside (unR s = (0, ⟨#[]⟩, ⟨#[]⟩, 2)) := unR_no (fun q => h3 (by rw [HN.out]; exact q.2.1))
    have g3 : ((n : Int) != 3) = true := by rw [bne_iff_ne]; omega
    clear h3
    go_wp2_with fail
    refine bodyPost_ret (results_tmp4 rfl _ _) rfl ?_
    exact ⟨by rw [E.out]; rfl, B1.out⟩
  subst h3
  obtain ⟨b, off, rfl, c0⟩ := V.out.at 0 (by rw [← HN.out]; decide)
  clear c0
  obtain ⟨P, hP⟩ : ∃ P, P = pt s 1 := ⟨_, rfl⟩
  obtain ⟨N, hN⟩ : ∃ N, N = pt s 2 := ⟨_, rfl⟩
  have CC : Hid (w1.cell? ⟨b, off + 1, none⟩ = some (.string P) ∧ w1.cell? ⟨b, off + 2, none⟩ = some (.string N)) := Lib.hid (by
    obtain ⟨_, _, e1, c1⟩ := V.out.at 1 (by rw [← HN.out]; decide)
    cases e1
    obtain ⟨_, _, e2, c2⟩ := V.out.at 2 (by rw [← HN.out]; decide)
    cases e2
    exact ⟨by rw [hP]; exact c1, by rw [hN]; exact c2⟩)
  have SZ : Hid (P.size ≤ 1048576 ∧ N.size ≤ 1048576) := Lib.hid ⟨Nat.le_trans (split_size (s := s) (by rw [hP]; exact K.mem_getD (by rw [← HN.out]; decide))) (by decide), Nat.le_trans (split_size (s := s) (by rw [hN]; exact K.mem_getD (by rw [← HN.out]; decide))) (by decide)⟩
  have PN := Lib.hid (And.intro hP hN)
  clear hP hN
  go_wp2_with fail
  go_loopg [8] 5 (fun gg si wr => ∃ (k : Nat), k ≤ 5 ∧ gg = 5 - k ∧ si = .int .i64 k ∧ (∀ j : Nat, j < k → keyR j P N ≠ (s, 0)) ∧ Below w1.heap.size w1 wr)
  case atStart => exact ⟨0, Nat.zero_le _, rfl, rfl, fun j hj => absurd hj (Nat.not_lt_zero _), Below.refl _ _⟩
  case round =>
    obtain ⟨k, hk, hg, rfl, hno, hb⟩ := hrel
    have R : Aside (gk = 5 - k ∧ (∀ j : Nat, j < k → keyR j P N ≠ (s, 0)) ∧ Below w1.heap.size w1 wr) := ⟨hg, hno, hb⟩
    have c1 := (hb.cell (block_lt_of_cell CC.out.1)).trans CC.out.1
    have c2 := (hb.cell (block_lt_of_cell CC.out.2)).trans CC.out.2
    clear hg hno hb
    by_cases hlt : k < 5
    · have hlt' : (k : Int) < 5 := by omega
      have r1 := regz c1
      have r2 := regz c2
      have xB : Hid (∀ (dq : Nat) (os : Array Obj), Below wr.heap.size wr (grow (redrawn wr dq) os)) := Lib.hid fun dq os => below_regrown wr dq os
      obtain ⟨T, hT⟩ : ∃ T, T = (keyR k P N).1 := ⟨_, rfl⟩
      obtain ⟨C, hC⟩ : ∃ C, C = (keyR k P N).2 := ⟨_, rfl⟩
      have xQ : Hid (∀ d os, Calls Tryz.prog 9 #[.int .i64 k, .string P, .string N] (grow (redrawn wr d) os) fun e w'' => e = .returned (.tuple #[.string T, .int .i64 C]) ∧ ∃ p : Regrown, w'' = grow (redrawn wr p.d) p.os) := Lib.hid fun d os => by
        rw [hT, hC]
        exact Calls.regrown_of (refKey_any k P N _ SZ.out.1 SZ.out.2)
      have KE : Hid (keyR k P N = (T, C)) := Lib.hid (by rw [hT, hC])
      clear hT hC c1 c2
      go_wp2_with fail
      refine wp_region_quiet_below (by kernel_rfl) (by kernel_rfl) ?_
      repeat (go_big_quiet_step (exact xQ.out _ _))
      refine wpQuiet_nil ?_
      intro _ hw'
      obtain ⟨⟨dq, osq⟩, hw''⟩ := hw'
      subst hw''
      have xx := Lib.hid (R.out.2.2.trans ((xB.out dq osq).mono R.out.2.2.size))
      clear r1 r2 xB xQ
      obtain ⟨W, hW⟩ : ∃ W, W = grow (redrawn wr dq) osq := ⟨_, rfl⟩
      rw [← hW] at xx ⊢
      clear hW
      have NEXT : Hid ((T, C) ≠ (s, 0) → ∀ j : Nat, j < k + 1 → keyR j P N ≠ (s, 0)) := Lib.hid fun q j hj => by
        rcases Nat.lt_or_ge j k with h | h
        · exact R.out.2.1 j h
        · obtain rfl : j = k := by omega
          rw [KE.out]; exact q
      by_cases hC : C = 0
      · subst hC
        by_cases hq : T = s
        · have E : Aside (unR s = ((k : Int), P, N, 0)) := un_keyz (by rw [KE.out, hq])
          have g1 : (T.toList == s.toList) = true := by rw [hq]; simp
          clear hq
          have d1 := (xx.out.cell (block_lt_of_cell CC.out.1)).trans CC.out.1
          have d2 := (xx.out.cell (block_lt_of_cell CC.out.2)).trans CC.out.2
          have r1 := regz d1
          have r2 := regz d2
          have xB : Hid (∀ (dq : Nat) (os : Array Obj), Below W.heap.size W (grow (redrawn W dq) os)) := Lib.hid fun dq os => below_regrown W dq os
          go_wp2_with fail
          refine wp_region_quiet_below (by kernel_rfl) (by kernel_rfl) ?_
          repeat (go_big_quiet_step (fail))
          refine wpQuiet_nil ?_
          intro _ hw'
          obtain ⟨⟨dq, osq⟩, hw''⟩ := hw'
          subst hw''
          have x2 := Lib.hid (xx.out.trans ((xB.out dq osq).mono xx.out.size))
          clear r1 r2 xB d1 d2
          go_wp2_with fail
          refine bodyPost_ret (results_tmp4 rfl _ _) rfl ?_
          exact ⟨by rw [E.out]; rfl, B1.out.trans (x2.out.mono B1.out.size)⟩
        · have g1 : (T.toList == s.toList) = false := by rw [beq_eq_false_iff_ne]; intro q; exact hq (same_of_list q)
          have NX := Lib.hid (NEXT.out (fun q => hq (congrArg Prod.fst q)))
          clear hq NEXT
          go_wp2_with fail
          go_roundg (5 - (k + 1))
          case measure => have := R.out.1; omega
          case rel => exact ⟨k + 1, by omega, rfl, by go_num, NX.out, xx.out⟩
      · have g1 : (C == 0) = false := by rw [beq_eq_false_iff_ne]; exact hC
        have NX := Lib.hid (NEXT.out (fun q => hC (congrArg Prod.snd q)))
        clear hC NEXT
        go_wp2_with fail
        go_roundg (5 - (k + 1))
        case measure => have := R.out.1; omega
        case rel => exact ⟨k + 1, by omega, rfl, by go_num, NX.out, xx.out⟩
    · have E : Aside (unR s = (0, ⟨#[]⟩, ⟨#[]⟩, 2)) := unR_no (fun q => by
        have h2 := q.2.2
        rw [← PN.out.1, ← PN.out.2] at h2
        have h4 := keyR_okz h2
        have := R.out.2.1 (ix (pt s 0)).toNat (by omega)
        rw [show (((ix (pt s 0)).toNat : Nat) : Int) = ix (pt s 0) by omega] at this
        exact this h2)
      clear c1 c2
      go_wp2_with fail
      refine bodyPost_ret (results_tmp4 rfl _ _) rfl ?_
      exact ⟨by rw [E.out]; rfl, B1.out.trans (R.out.2.2.mono B1.out.size)⟩
end Go.Proofs.YtofjicjoohphcaaGreatDoor
end S10

section S11
namespace Go.Proofs.YtofjicjoohphcaaGreatDoor
open Go.RowKit
set_option maxHeartbeats 8000000 in
set_option maxRecDepth 100000 in
theorem objectKeys_walk (kind : Int) (path name key : ByteArray) (w : World) (hm : L.HasM w) (_hk : -9223372036854775808 ≤ kind ∧ kind ≤ 9223372036854775807) (hp : path.size ≤ 1048576) (hn : name.size ≤ 1048576) (hs : key.size ≤ 1048576) :
    Calls Tryz.prog 3 #[.int .i64 kind, .string path, .string name, .string key] w fun e w' => e = .returned (.bool true) ∧ Below w.heap.size w w' := by
  have HM := Lib.hid hm
  have SZ := Lib.hid (And.intro hp (And.intro hn hs))
  clear hm hp hn hs
  go_enter Tryz.func3, Tryz.ntmps3
  go_wp2_with fail
  refine (fixed_any sameObject_yes w HM.out).mono ?_
  rintro e w1 ⟨rfl, hb⟩
  have B1 := Lib.hid hb
  clear hb
  go_wp2_with fail
  refine (key_any kind path name w1 (HM.out.below B1.out) (by have := SZ.out; omega) (by have := SZ.out; omega)).mono ?_
  rintro e w2 ⟨rfl, hb⟩
  have B2 := Lib.hid (B1.out.trans (hb.mono B1.out.size))
  clear hb B1
  obtain ⟨A, hA⟩ : ∃ A, A = (keyR kind path name).1 := ⟨_, rfl⟩
  obtain ⟨E, hE⟩ : ∃ E, E = (keyR kind path name).2 := ⟨_, rfl⟩
  have RK := Lib.hid (refKey_any kind path name w2 SZ.out.1 SZ.out.2.1)
  rw [← hA, ← hE] at RK ⊢
  clear hA hE
  go_wp2_with fail
  refine RK.out.mono ?_
  rintro e w3 ⟨rfl, hb⟩
  have B3 := Lib.hid (B2.out.trans (hb.mono B2.out.size))
  clear hb B2 RK
  obtain ⟨U1, hU1⟩ : ∃ U1, U1 = (unR key).1 := ⟨_, rfl⟩
  obtain ⟨U2, hU2⟩ : ∃ U2, U2 = (unR key).2.1 := ⟨_, rfl⟩
  obtain ⟨U3, hU3⟩ : ∃ U3, U3 = (unR key).2.2.1 := ⟨_, rfl⟩
  obtain ⟨U4, hU4⟩ : ∃ U4, U4 = (unR key).2.2.2 := ⟨_, rfl⟩
  have UA := Lib.hid (unkey_any key w3 (HM.out.below B3.out) (by have := SZ.out; omega))
  rw [← hU1, ← hU2, ← hU3, ← hU4] at UA
  go_wp2_with fail
  refine UA.out.mono ?_
  rintro e w4 ⟨rfl, hb⟩
  have B4 := Lib.hid (B3.out.trans (hb.mono B3.out.size))
  clear hb B3 UA
  have RA := Lib.hid (refUnkey_any key w4 SZ.out.2.2)
  rw [← hU1, ← hU2, ← hU3, ← hU4] at RA
  clear hU1 hU2 hU3 hU4
  go_wp2_with fail
  refine RA.out.mono ?_
  rintro e w5 ⟨rfl, hb⟩
  have B5 := Lib.hid (B4.out.trans (hb.mono B4.out.size))
  clear hb B4 RA
  have g1 : (A.toList == A.toList) = true := by simp
  have g2 : (U2.toList == U2.toList) = true := by simp
  have g3 : (U3.toList == U3.toList) = true := by simp
  go_wp2_with fail
  go_ret
  exact ⟨rfl, B5.out⟩
end Go.Proofs.YtofjicjoohphcaaGreatDoor
end S11
