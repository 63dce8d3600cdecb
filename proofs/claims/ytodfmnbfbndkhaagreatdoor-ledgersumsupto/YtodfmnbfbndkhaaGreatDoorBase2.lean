/-
  APPENDS of bytes and texts onto slices of the calls own; what else is kept.
-/
import Derived.Test.YtodfmnbfbndkhaaGreatDoorBase
import Derived.Maps.AppendAt
import Derived.Deep.DeepAppendWide
namespace Go.Proofs.YtodfmnbfbndkhaaGreatDoor
open Go.RowKit

/-- All but the blocks of F is as it was. -/
structure Kept (F : Nat → Prop) (w w' : World) : Prop where
  os : w'.os = w.os
  tape : w'.tape = w.tape
  output : w'.output = w.output
  size : w.heap.size ≤ w'.heap.size
  block : ∀ k, k < w.heap.size → ¬ F k → w'.heap[k]? = w.heap[k]?

theorem Kept.refl (F : Nat → Prop) (w : World) : Kept F w w := ⟨rfl, rfl, rfl, Nat.le_refl _, fun _ _ _ => rfl⟩
theorem Kept.mono {F G : Nat → Prop} {w w' : World} (h : Kept F w w') (k : ∀ x, x < w.heap.size → F x → G x) : Kept G w w' := ⟨h.os, h.tape, h.output, h.size, fun x hx hn => h.block x hx fun hf => hn (k x hx hf)⟩
theorem Kept.trans {F G : Nat → Prop} {a b c : World} (h : Kept F a b) (k : Kept G b c) (hG : ∀ x, x < a.heap.size → G x → F x) : Kept F a c :=
  ⟨k.os.trans h.os, k.tape.trans h.tape, k.output.trans h.output, Nat.le_trans h.size k.size, fun x hx hn => (k.block x (Nat.lt_of_lt_of_le hx h.size) fun hg => hn (hG x hx hg)).trans (h.block x hx hn)⟩
theorem Kept.below {F : Nat → Prop} {B : Nat} {w w' : World} (h : Kept F w w') (hB : B ≤ w.heap.size) (hF : ∀ x, F x → B ≤ x) : Below B w w' :=
  ⟨h.os, h.tape, h.output, h.size, fun k hk => h.block k (by omega) fun hf => by have := hF k hf; omega⟩
theorem Below.kept {w w' : World} (h : Below w.heap.size w w') (F : Nat → Prop) : Kept F w w' := ⟨h.os, h.tape, h.output, h.size, fun k hk _ => h.block k hk⟩
theorem grown_kept {w w' : World} {row : Option Nat} (h : w.grownBy w' row) : Kept (fun k => some k = row) w w' := ⟨h.os, h.tape, h.output, h.size, h.block⟩
theorem grown_alloc {w w' : World} {o : Obj} {row : Option Nat} (h : (w.alloc o).grownBy w' row) : w.grownBy w' row :=
  ⟨h.os, h.tape, h.output, Nat.le_trans (by simp) h.size, fun k hk hr => (h.block k (by simp; omega) hr).trans (Below.heap_alloc w o k hk)⟩
theorem kept_set {F : Nat → Prop} (w : World) (a : Addr) (u : Value) (h : F a.block) : Kept F w (w.setCell a u) :=
  ⟨rfl, rfl, rfl, by simp [World.setCell], fun k _ hn => Below.heap_setCell _ _ _ _ (fun e => hn (e ▸ h))⟩

theorem Own.lt {B : Nat} {w : World} {v : Value} {l : List UInt8} (h : Own B w v l) : ∀ k, v.ownBlock = some k → B ≤ k ∧ k < w.heap.size := World.ownsRow.lt h
theorem Own.kept {B : Nat} {F : Nat → Prop} {w w' : World} {v : Value} {l : List UInt8} (H : Own B w v l) (hk : Kept F w w') (hF : ∀ k, v.ownBlock = some k → ¬ F k) : Own B w' v l := by
  obtain ⟨h1, h | ⟨g, cap, cur, hv, hB, hg, hr⟩⟩ := H
  · exact ⟨h1, .inl h⟩
  · have hlt : g < w.heap.size := by
      rcases Nat.lt_or_ge g w.heap.size with h | h
      · exact h
      · rw [Array.getElem?_eq_none h] at hg; simp at hg
    subst hv
    exact ⟨h1, .inr ⟨g, cap, cur, rfl, hB, by rw [hk.block g hlt (hF g rfl)]; exact hg, hr⟩⟩
theorem Bytes.len {w : World} {v : Value} {l : List UInt8} (H : Bytes w v l) : ∃ a cap, v = .slice a l.length cap ∧ l.length ≤ cap ∧ cap ≤ maxLen := by
  obtain ⟨a, cap, h, h1, h2, _⟩ := H; exact ⟨a, cap, h, h1, h2⟩

theorem grown_below {B : Nat} {w w' : World} {v : Value} {l : List UInt8} (h : w.grownBy w' v.ownBlock) (ho : Own B w v l) (hB : B ≤ w.heap.size) : Below B w w' :=
  (Below.refl B w).grown h hB (fun k hk => (ho.lt k hk).1)

/-- Where what was appended lies. -/
def At (v v' : Value) (w : World) : Prop := ∀ k, some k = v'.ownBlock → some k = v.ownBlock ∨ w.heap.size ≤ k
theorem At.refl (v : Value) (w : World) : At v v w := fun _ h => Or.inl h
theorem At.trans {u v x : Value} {a b : World} (h : At u v a) (k : At v x b) (hs : a.heap.size ≤ b.heap.size) : At u x a := fun i hi => by
  rcases k i hi with q | q
  · exact h i q
  · exact Or.inr (by omega)
theorem at_of {v v' : Value} {w w0 : World} (h : v'.ownBlock = v.ownBlock ∨ v'.ownBlock = some w.heap.size) (hs : w0.heap.size ≤ w.heap.size) : At v v' w0 := fun k hk => by
  rcases h with h | h
  · exact Or.inl (by rw [hk, h])
  · rw [h] at hk; simp only [Option.some.injEq] at hk; exact Or.inr (by omega)

theorem app_byte {ops : Array Oper} {rest : List Oper} {o : Oper} {a : Act} {Q : Exit → Act → World → Prop} (hgd : o.guard = none) (s x : Operand)
    (ho : o.op = .call { callee := .builtin .append, args := #[s, x], argTypes := #[193, 193] })
    {B : Nat} {w0 : World} {v : Value} {l : List UInt8} (hs : a.eval s = v) (hown : Own B w0 v l) (hB : B ≤ w0.heap.size) (n : Int) (c : UInt8) (hn : n = c8 c)
    (hx : a.eval x = .slice (some ⟨w0.heap.size, 0, none⟩) 1 1) (hl : l.length < 140737488355328)
    (h : ∀ v' w', Own B w' v' (l ++ [c]) → w0.grownBy w' v.ownBlock → At v v' w0 → wpList Tryz.prog ops Q rest (a.put o.dst v') w') :
    wpList Tryz.prog ops Q (o :: rest) a (w0.alloc (.cells #[.int .u8 n] 5)) := by
  subst hn
  obtain ⟨i0, hi, hz0, hz1, hz2⟩ := info_parts info_byte
  refine wpList_append_own_at _ hgd s x 193 ho B 5 i0 (.int .u8 0) 1 1 Tryz.underlying193 hi hz0 hz1 hz2 rfl (by decide) v l.length (cells8 l) hs (World.ownsRow.alloc hown _) ⟨w0.heap.size, 0, none⟩ 1 1 [.int .u8 (c8 c)] hx rfl one_cell ?_ (by unfold maxLen; omega) (by omega) (by simp; omega) ?_
  · intro v hv; simp only [List.mem_cons, List.not_mem_nil, or_false] at hv; rw [hv]; rfl
  · intro v' w' h1 h2 _ h3
    exact h v' w' (own_more h1) (grown_alloc h2) (at_of h3 (by simp))

theorem app_bytes {ops : Array Oper} {rest : List Oper} {o : Oper} {a : Act} {Q : Exit → Act → World → Prop} (hgd : o.guard = none) (s x : Operand)
    (ho : o.op = .call { callee := .builtin .append, args := #[s, x], argTypes := #[193, 193] })
    {B : Nat} {w : World} {v u : Value} {l m : List UInt8} (hs : a.eval s = v) (hown : Own B w v l) (hB : B ≤ w.heap.size) (hx : a.eval x = u) (hu : Bytes w u m) (hl : l.length + m.length ≤ 140737488355328)
    (h : ∀ v' w', Own B w' v' (l ++ m) → w.grownBy w' v.ownBlock → At v v' w → wpList Tryz.prog ops Q rest (a.put o.dst v') w') :
    wpList Tryz.prog ops Q (o :: rest) a w := by
  obtain ⟨i0, hi, hz0, hz1, hz2⟩ := info_parts info_byte
  obtain ⟨ad, cap, rfl, hlc, hcm, hn, hc⟩ := hu
  cases ad with
  | none =>
    obtain rfl := hn rfl
    obtain rfl : m = [] := by simpa using hlc
    refine wpList_append_own_none hgd s x 193 ho B 5 i0 1 Tryz.underlying193 hi v l.length (cells8 l) hs hown hx ?_
    exact h v w (by simpa using hown) ⟨rfl, rfl, rfl, Nat.le_refl _, fun _ _ _ => rfl⟩ (At.refl _ _)
  | some ad =>
    refine wpList_append_own_at w hgd s x 193 ho B 5 i0 (.int .u8 0) 1 1 Tryz.underlying193 hi hz0 hz1 hz2 rfl (by decide) v l.length (cells8 l) hs hown ad m.length cap (cells8 m) hx (by rw [cells8_length]; omega) (news8 hc) (cells8_one m) (by unfold maxLen; omega) (by omega) hB ?_
    intro v' w' h1 h2 _ h3
    refine h v' w' ?_ h2 (at_of h3 (Nat.le_refl _))
    show w'.ownsRow _ _ _ _ _ _
    rw [cells8_app, List.length_append]; exact h1

theorem app_wide {ops : Array Oper} {rest : List Oper} {o : Oper} {a : Act} {Q : Exit → Act → World → Prop} (hgd : o.guard = none) (s x : Operand)
    (ho : o.op = .call { callee := .builtin .append, args := #[s, x], argTypes := #[193, 193] })
    {B : Nat} {w : World} {v u : Value} {l m : List UInt8} (hs : a.eval s = v) (hown : Own B w v l) (hB : B ≤ w.heap.size) (hx : a.eval x = u) (hu : Bytes w u m) (hl : l.length + m.length ≤ 200000000000000)
    (h : ∀ v' w', Own B w' v' (l ++ m) → w.grownBy w' v.ownBlock → wpList Tryz.prog ops Q rest (a.put o.dst v') w') :
    wpList Tryz.prog ops Q (o :: rest) a w := by
  obtain ⟨i0, hi, hz0, hz1, hz2⟩ := info_parts info_byte
  obtain ⟨ad, cap, rfl, hlc, hcm, hn, hc⟩ := hu
  cases ad with
  | none =>
    obtain rfl := hn rfl
    obtain rfl : m = [] := by simpa using hlc
    refine wpList_append_own_none hgd s x 193 ho B 5 i0 1 Tryz.underlying193 hi v l.length (cells8 l) hs hown hx ?_
    exact h v w (by simpa using hown) ⟨rfl, rfl, rfl, Nat.le_refl _, fun _ _ _ => rfl⟩
  | some ad =>
    refine wpList_append_own_wide w hgd s x 193 ho B 5 i0 (.int .u8 0) 1 1 Tryz.underlying193 hi hz0 hz1 hz2 rfl (by decide) v l.length (cells8 l) hs hown ad m.length cap (cells8 m) hx (by rw [cells8_length]; omega) (news8 hc) (cells8_one m) (by unfold maxLen; omega) (by omega) hB ?_
    intro v' w' h1 h2 _
    refine h v' w' ?_ h2
    show w'.ownsRow _ _ _ _ _ _
    rw [cells8_app, List.length_append]; exact h1

/-- The text of bytes. -/
def txt (l : List UInt8) : ByteArray := ⟨l.toArray⟩
theorem txt_size (l : List UInt8) : (txt l).size = l.length := by simp [txt, ByteArray.size]
theorem txt_list (l : List UInt8) : (txt l).data.toList = l := by simp [txt]
theorem list_txt (s : ByteArray) : txt s.data.toList = s := by simp [txt]
theorem str_size (s : ByteArray) : s.data.toList.length = s.size := by simp
theorem strCells_eq (s : ByteArray) : Lib.strCells s = cells8 s.data.toList := rfl
theorem str8_txt (l : List UInt8) : str8 l = txt l := by
  have h : (str8 l).data = (txt l).data := by
    apply Array.toList_inj.1
    simp only [str8, strOfNums_data, txt, List.map_map]
    have : ((fun n : Int => UInt8.ofNat n.toNat) ∘ c8) = id := by
      funext c; simp [c8_nat]
    rw [this]; simp
  cases hs : str8 l; cases ht : txt l; rw [hs, ht] at h; simp_all
theorem convT {w : World} {v : Value} {l : List UInt8} (hv : Bytes w v l) : (convert 193 9 v).run Tryz.prog w = .ok (.string (txt l)) w := by
  rw [← str8_txt]; exact conv8 hv

theorem run_str_at (w : World) (B : Nat) (ty : TypeId) (i : TypeInfo) (hi : Tryz.prog.info? 5 = some i) (hz : i.zero = some (.int .u8 0)) (hsize : i.size = 1) (hby : i.bytes = 1)
    (v : Value) (n : Nat) (xs : List Value) (hown : w.ownsRow B 5 1 v n xs) (s : ByteArray) (hbytes : n + s.size ≤ 140737488355328) (hbase : B ≤ w.heap.size) :
    ∃ v' w', (Builtin.append_ #[193, 9] ty #[v, .string s]).run Tryz.prog w = .ok v' w' ∧ w'.ownsRow B 5 1 v' (n + s.size) (xs ++ Lib.strCells s) ∧ w.grownBy w' v.ownBlock ∧ At v v' w := by
  have h63 : n + s.size ≤ maxLen := by unfold maxLen; omega
  obtain ⟨v', w', hr, h1, h2, _⟩ := Lib.run_append_own_string (P := Tryz.prog) w B 193 9 ty 5 i Tryz.underlying193 Tryz.underlying9 hi hz hsize hby v n xs hown s h63 hbytes hbase
  refine ⟨v', w', hr, h1, h2, ?_⟩
  have hown' := hown
  rcases hown.2 with ⟨rfl, rfl⟩ | ⟨g, cap, cur, rfl, hbg, hg, hnc, hcm, hcs, htake⟩
  · have hx : xs = [] := List.eq_nil_of_length_eq_zero (by simpa using hown.1)
    subst hx
    obtain ⟨v2, w2, hr2, h3, _⟩ := Lib.run_append_own_string (P := Tryz.prog) w w.heap.size 193 9 ty 5 i Tryz.underlying193 Tryz.underlying9 hi hz hsize hby (.slice none 0 0) 0 [] (World.ownsRow_nil w _ _ _) s h63 hbytes (Nat.le_refl _)
    rw [hr] at hr2
    simp only [Result.ok.injEq] at hr2
    obtain ⟨rfl, rfl⟩ := hr2
    exact fun k hk => Or.inr (World.ownsRow.lt h3 k hk.symm).1
  · by_cases hroom : n + s.size ≤ cap
    · have hr2 := Lib.run_append_room_string (P := Tryz.prog) w 193 9 ty 5 i Tryz.underlying193 Tryz.underlying9 hi hsize g n cap cur hg s hroom (by omega)
      rw [hr] at hr2
      simp only [Result.ok.injEq] at hr2
      obtain ⟨rfl, rfl⟩ := hr2
      exact fun k hk => Or.inl hk
    · have holds : ∀ j u, xs[j]? = some u → w.cell? ((⟨g, 0, none⟩ : Addr).add j) = some u := hown'.cells (g := g) rfl
      have hr2 := Lib.run_append_grow_string (P := Tryz.prog) w 193 9 ty 5 i (.int .u8 0) Tryz.underlying193 Tryz.underlying9 hi hz ⟨g, 0, none⟩ n cap xs (by rw [hsize]; exact hown'.1) holds s (by omega) (by unfold maxLen at h63; omega) (by rw [hby]; exact growslice_fits (by omega) (by omega))
      rw [hr] at hr2
      simp only [Result.ok.injEq] at hr2
      obtain ⟨rfl, rfl⟩ := hr2
      refine fun k hk => Or.inr ?_
      simp only [Value.ownBlock, Option.some.injEq] at hk
      omega

theorem app_str {ops : Array Oper} {rest : List Oper} {o : Oper} {a : Act} {Q : Exit → Act → World → Prop} (hgd : o.guard = none) (s x : Operand)
    (ho : o.op = .call { callee := .builtin .append, args := #[s, x], argTypes := #[193, 9] })
    {B : Nat} {w : World} {v : Value} {t : ByteArray} {l : List UInt8} (hs : a.eval s = v) (hown : Own B w v l) (hB : B ≤ w.heap.size) (hx : a.eval x = .string t) (hl : l.length + t.size ≤ 140737488355328)
    (h : ∀ v' w', Own B w' v' (l ++ t.data.toList) → w.grownBy w' v.ownBlock → At v v' w → wpList Tryz.prog ops Q rest (a.put o.dst v') w') :
    wpList Tryz.prog ops Q (o :: rest) a w := by
  obtain ⟨i0, hi, hz0, hz1, hz2⟩ := info_parts info_byte
  refine wpList_plain hgd fun K hK => ?_
  obtain ⟨v', w', hr, h1, h2, h3⟩ := run_str_at w B o.type i0 hi hz0 hz1 hz2 v l.length (cells8 l) hown t hl hB
  unfold Oper.wp execOp
  simp only [ho, resolve, invoke, builtin, Sem.run_bind, Sem.run_pure, Result.andThen_ok, List.map_toArray, List.map_cons, List.map_nil, hs, hx, hr]
  refine hK _ _ (h v' w' ?_ h2 h3)
  show w'.ownsRow _ _ _ _ _ _
  rw [cells8_app, List.length_append, str_size]; exact h1
end Go.Proofs.YtodfmnbfbndkhaaGreatDoor
