/-
  Bytes behind a slice that has room; withBlock, withEntry.
-/
import Derived.Test.YtmoghdpjemidgaaPgT
import Derived.Room.AppendFits
namespace Go.Proofs.Ytmoghdpjemidgaa
open Go.RowKit Go.Maps
/-- 512 bytes that begin so, the others 0. -/
def zf (l : List UInt8) : List UInt8 := l ++ List.replicate (512 - l.length) 0
theorem zf_length (l : List UInt8) (h : l.length ≤ 512) : (zf l).length = 512 := by simp [zf]; omega
theorem zf_splice (l m : List UInt8) (h : l.length + m.length ≤ 512) : splice (zf l) l.length m = zf (l ++ m) := by
  unfold splice zf
  rw [List.take_left, List.length_append, List.append_assoc, List.drop_append, List.drop_eq_nil_of_le (by omega), List.nil_append, List.drop_replicate]
  congr 3
  omega
/-- The block g is such bytes. -/
def Zr (w : World) (g : Nat) (l : List UInt8) : Prop := w.heap[g]? = some (.cells (cells8 (zf l)).toArray 5 (0, 0))
theorem Zr.kept {F : Nat → Prop} {w w' : World} {g : Nat} {l : List UInt8} (h : Zr w g l) (hk : Kept F w w') (hF : ¬ F g) : Zr w' g l := by
  unfold Zr at h ⊢
  rw [hk.block g (lt_of_heap h) hF]; exact h
theorem Zr.alloc {w : World} {g : Nat} {l : List UInt8} (h : Zr w g l) (o : Obj) : Zr (w.alloc o) g l := by
  unfold Zr at h ⊢
  rw [Below.heap_alloc _ _ _ (lt_of_heap h)]; exact h
theorem run_app_in {w : World} {g n cap : Nat} {l m : List UInt8} (ty : TypeId) (hz : Zr w g l) (hn : n = l.length) (hc : cap = 512) (hl : l.length + m.length ≤ 512) (ad : Addr) (k c : Nat) (hk : k = m.length) (hs : ∀ j v, (cells8 m)[j]? = some v → w.cell? (ad.add j) = some v) :
    ∃ w', (Builtin.append_ #[33, 33] ty #[.slice (some ⟨g, 0, none⟩) n cap, .slice (some ad) k c]).run Try.prog w = .ok (.slice (some ⟨g, 0, none⟩) (n + k) cap) w' ∧ Zr w' g (l ++ m) ∧ Kept (fun x => x = g) w w' := by
  subst hn hk hc
  obtain ⟨i0, hi, hz0, hz1, hz2⟩ := info_parts info_byte
  have hr := run_append_room (P := Try.prog) w 33 ty 5 i0 Try.underlying33 hi g l.length 512 _ hz ad m.length c (cells8 m) (by rw [cells8_length, hz1, Nat.mul_one]) hs (cells8_one m) hl (by rw [hz1, Nat.mul_one, cells8_length, List.size_toArray, cells8_length, zf_length l (by omega)]; exact hl)
  refine ⟨_, hr, ?_, kept_setRow _ _ _⟩
  unfold Zr
  rw [setRow_heap w g _ _ _ _ hz]
  congr 3
  rw [hz1, Nat.mul_one, ← zf_splice l m hl, ← splice_cells]
  simp [splice]
theorem app_in {ops : Array Oper} {rest : List Oper} {o : Oper} {a : Act} {Q : Exit → Act → World → Prop} (hgd : o.guard = none) (s x : Operand)
    (ho : o.op = .call { callee := .builtin .append, args := #[s, x], argTypes := #[33, 33] })
    {w : World} {g n : Nat} {l m : List UInt8} (hs : a.eval s = .slice (some ⟨g, 0, none⟩) n 512) (hz : Zr w g l) (hn : n = l.length) (hl : l.length + m.length ≤ 512) (ad : Addr) (k c : Nat) (hx : a.eval x = .slice (some ad) k c) (hk : k = m.length) (hsrc : ∀ j v, (cells8 m)[j]? = some v → w.cell? (ad.add j) = some v)
    (h : ∀ w', Hid (Zr w' g (l ++ m) ∧ Kept (fun x => x = g) w w') → wpList Try.prog ops Q rest (a.put o.dst (.slice (some ⟨g, 0, none⟩) (n + k) 512)) w') :
    wpList Try.prog ops Q (o :: rest) a w := by
  refine wpList_plain hgd fun K hK => ?_
  obtain ⟨w', hr, h2, h3⟩ := run_app_in o.type hz hn rfl hl ad k c hk hsrc
  unfold Oper.wp execOp
  simp only [ho, resolve, invoke, builtin, Sem.run_bind, Sem.run_pure, Result.andThen_ok, List.map_toArray, List.map_cons, List.map_nil, hs, hx, hr]
  exact hK _ _ (h w' (Lib.hid ⟨h2, h3⟩))
theorem app_inS {ops : Array Oper} {rest : List Oper} {o : Oper} {a : Act} {Q : Exit → Act → World → Prop} (hgd : o.guard = none) (s x : Operand)
    (ho : o.op = .call { callee := .builtin .append, args := #[s, x], argTypes := #[33, 9] })
    {w : World} {g n : Nat} {l : List UInt8} {t : ByteArray} (hs : a.eval s = .slice (some ⟨g, 0, none⟩) n 512) (hz : Zr w g l) (hn : n = l.length) (hl : l.length + t.size ≤ 512) (hx : a.eval x = .string t)
    (h : ∀ w', Hid (Zr w' g (l ++ t.data.toList) ∧ Kept (fun x => x = g) w w') → wpList Try.prog ops Q rest (a.put o.dst (.slice (some ⟨g, 0, none⟩) (n + t.size) 512)) w') :
    wpList Try.prog ops Q (o :: rest) a w := by
  refine wpList_plain hgd fun K hK => ?_
  subst hn
  obtain ⟨i0, hi, hz0, hz1, hz2⟩ := info_parts info_byte
  have hr := Lib.run_append_room_string (P := Try.prog) w 33 9 o.type 5 i0 Try.underlying33 Try.underlying9 hi hz1 g l.length 512 _ hz t hl (by rw [List.size_toArray, cells8_length, zf_length l (by omega)]; exact hl)
  unfold Oper.wp execOp
  simp only [ho, resolve, invoke, builtin, Sem.run_bind, Sem.run_pure, Result.andThen_ok, List.map_toArray, List.map_cons, List.map_nil, hs, hx, hr]
  refine hK _ _ (h _ (Lib.hid ⟨?_, kept_setRow _ _ _⟩))
  unfold Zr
  rw [setRow_heap w g _ _ _ _ hz]
  congr 3
  rw [← zf_splice l _ (by rw [str_size]; exact hl), ← splice_cells, strCells_eq]
  simp [splice, cells8_length]
theorem app_two {ops : Array Oper} {rest : List Oper} {o : Oper} {a : Act} {Q : Exit → Act → World → Prop} (hgd : o.guard = none) (s x : Operand)
    (ho : o.op = .call { callee := .builtin .append, args := #[s, x], argTypes := #[33, 33] })
    {w0 : World} {g n : Nat} {l : List UInt8} (hs : a.eval s = .slice (some ⟨g, 0, none⟩) n 512) (hz : Zr w0 g l) (hn : n = l.length) (hl : l.length + 2 ≤ 512) (p q : Int) (c d : UInt8) (hp : p = c8 c) (hq : q = c8 d)
    (hx : a.eval x = .slice (some ⟨w0.heap.size, 0, none⟩) 2 2)
    (h : ∀ w', Hid (Zr w' g (l ++ [c, d]) ∧ Kept (fun x => x = g) w0 w') → wpList Try.prog ops Q rest (a.put o.dst (.slice (some ⟨g, 0, none⟩) (n + 2) 512)) w') :
    wpList Try.prog ops Q (o :: rest) a (w0.alloc (.cells #[.int .u8 p, .int .u8 q] 5)) := by
  subst hp hq
  refine app_in hgd s x ho (m := [c, d]) hs (hz.alloc _) hn hl _ 2 2 hx rfl (fun j v hj => ?_) ?_
  · exact new_cells w0 #[.int .u8 (c8 c), .int .u8 (c8 d)] j v hj
  · intro w' H
    refine h w' (Lib.hid ⟨H.out.1, ?_⟩)
    exact (Below.kept ((Below.refl _ _).alloc (Nat.le_refl _) _) _).trans H.out.2 (fun _ _ h => h)
theorem app_one {ops : Array Oper} {rest : List Oper} {o : Oper} {a : Act} {Q : Exit → Act → World → Prop} (hgd : o.guard = none) (s x : Operand)
    (ho : o.op = .call { callee := .builtin .append, args := #[s, x], argTypes := #[33, 33] })
    {w0 : World} {g n : Nat} {l : List UInt8} (hs : a.eval s = .slice (some ⟨g, 0, none⟩) n 512) (hz : Zr w0 g l) (hn : n = l.length) (hl : l.length + 1 ≤ 512) (p : Int) (c : UInt8) (hp : p = c8 c)
    (hx : a.eval x = .slice (some ⟨w0.heap.size, 0, none⟩) 1 1)
    (h : ∀ w', Hid (Zr w' g (l ++ [c]) ∧ Kept (fun x => x = g) w0 w') → wpList Try.prog ops Q rest (a.put o.dst (.slice (some ⟨g, 0, none⟩) (n + 1) 512)) w') :
    wpList Try.prog ops Q (o :: rest) a (w0.alloc (.cells #[.int .u8 p] 5)) := by
  subst hp
  refine app_in hgd s x ho (m := [c]) hs (hz.alloc _) hn hl _ 1 1 hx rfl (fun j v hj => ?_) ?_
  · exact new_cells w0 #[.int .u8 (c8 c)] j v hj
  · intro w' H
    refine h w' (Lib.hid ⟨H.out.1, ?_⟩)
    exact (Below.kept ((Below.refl _ _).alloc (Nat.le_refl _) _) _).trans H.out.2 (fun _ _ h => h)
theorem zero4 (w : World) : (zeroValue 72).run Try.prog w = .ok (.agg (cells8 [0, 0, 0, 0]).toArray) w := by kernel_rfl
set_option maxHeartbeats 1000000 in
theorem withBlock_any (g n x : Nat) (l : List UInt8) (w : World) (hz : Zr w g l) (hn : n = l.length) (hl : l.length + 4 ≤ 512) (hx : x < 4294967296) :
    Calls Try.prog 33 #[.slice (some ⟨g, 0, none⟩) n 512, .int .i64 (x : Int)] w fun e w' => e = .returned (.slice (some ⟨g, 0, none⟩) (n + 4) 512) ∧ Zr w' g (l ++ leB 4 x) ∧ Kept (fun y => y = g) w w' := by
  have ZZ := Lib.hid hz
  have NN := Lib.hid hn
  have LL := Lib.hid hl
  obtain ⟨X, hX⟩ : ∃ X, X = w.alloc (.cells #[.int .u8 0, .int .u8 0, .int .u8 0, .int .u8 0] 72) := ⟨_, rfl⟩
  obtain ⟨gn, hgn⟩ : ∃ gn, gn = w.heap.size := ⟨_, rfl⟩
  have ng : Hid (gn ≠ g ∧ w.heap.size ≤ gn) := Lib.hid ⟨by have := lt_of_heap hz; omega, by omega⟩
  have KX : Hid (Kept (fun y => y = g) w X) := Lib.hid (by rw [hX]; exact Below.kept ((Below.refl _ _).alloc (Nat.le_refl _) _) _)
  have ZX : Hid (Zr X g l) := Lib.hid (by rw [hX]; exact hz.alloc _)
  have PU : Hid (Calls Try.prog 22 #[.slice (some ⟨gn, 0, none⟩) 4 4, .int .i64 (x : Int)] X fun e w' => e = .returned (.tuple #[]) ∧ w'.heap[gn]? = some (.cells (cells8 (leB 4 x)).toArray 72 (0, 0)) ∧ Kept (fun k => k = gn) X w') := Lib.hid (by
    have := put_any 72 gn 0 4 4 x [0, 0, 0, 0] X (by rw [hX, hgn]; exact heap_alloc_new _ _) (by decide) (by decide) (by decide) (by decide) (by omega)
    rw [show splice [0, 0, 0, 0] 0 (leB 4 x) = leB 4 x by simp [splice, leB_length]] at this
    exact this)
  have hX' := hX.symm
  have hgn' := hgn.symm
  clear hX hgn hz hn hl
  have L4 : Hid (l.length + (leB 4 x).length ≤ 512) := Lib.hid (by rw [leB_length]; exact LL.out)
  have E4 : Hid (4 = (leB 4 x).length) := Lib.hid (by rw [leB_length])
  go_enter Try.func33, Try.ntmps33
  go_wp2_with (first | (go_at_call 22; refine PU.out.mono ?_; rintro e w1 ⟨rfl, h1, h2⟩; have H1 := Lib.hid h1; have H2 := Lib.hid h2; have Z1 := Lib.hid (ZX.out.kept h2 (fun h => ng.out.1 h.symm)); have SR : Hid (∀ j v, (cells8 (leB 4 x))[j]? = some v → w1.cell? ((⟨gn, 0, none⟩ : Addr).add j) = some v) := Lib.hid (src_row h1 (fun j hj => by rw [Nat.zero_add])); clear h1 h2) | (refine app_in rfl (.tmp 9) (.tmp 10) rfl (g := g) (n := n) (l := l) (m := leB 4 x) rfl Z1.out NN.out L4.out ⟨gn, 0, none⟩ 4 4 rfl E4.out SR.out ?_; intro w2 H3))
  go_ret
  refine ⟨rfl, H3.out.1, ?_⟩
  have k1 : Kept (fun y => y = g) w w1 := KX.out.trans H2.out (fun y hy h => by have := ng.out.2; omega)
  exact k1.trans H3.out.2 (fun _ _ h => h)
end Go.Proofs.Ytmoghdpjemidgaa
