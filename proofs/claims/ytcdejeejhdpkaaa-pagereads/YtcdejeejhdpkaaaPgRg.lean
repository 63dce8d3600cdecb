/-
  The document's text and number: bytes behind a row.
-/
import Derived.Test.YtcdejeejhdpkaaaPgRf
import Derived.Test.YtcdejeejhdpkaaaPuB
namespace Go.Proofs.Ytcdejeejhdpkaaa
open Go.RowKit Go.Maps
/-- The row v grew to v'; all else stays. -/
structure Gr (v v' : Value) (w w' : World) : Prop where
  k : Kept (fun y => some y = v.ownBlock) w w'
  a : At v v' w
theorem Gr.refl (v : Value) (w : World) : Gr v v w w := ⟨Kept.refl _ _, At.refl _ _⟩
theorem Gr.trans {u v x : Value} {a b c : World} (h : Gr u v a b) (g : Gr v x b c) : Gr u x a c :=
  ⟨h.k.trans g.k (fun y hy e => (h.a y e).elim id (fun q => by omega)), h.a.trans g.a h.k.size⟩
theorem Gr.of {v v' : Value} {w w' : World} (h : w.grownBy w' v.ownBlock) (a : At v v' w) : Gr v v' w w' := ⟨grown_kept h, a⟩
theorem str_at (t : ByteArray) (k : Nat) (h : k < t.size) : c8 (t.data.toList.getD k 0) = (((t[k]'h).toNat : Nat) : Int) := by
  have hl : k < t.data.toList.length := by simpa using h
  rw [List.getD_eq_getElem?_getD, List.getElem?_eq_getElem hl]
  rfl
set_option maxHeartbeats 1000000 in
theorem dtext_any (B : Nat) (v : Value) (l : List UInt8) (t : ByteArray) (w : World) (hv : Own B w v l) (hB : B ≤ w.heap.size) (hl : l.length + t.size ≤ 1000000) :
    Calls Try.prog 47 #[v, .string t] w fun e w' => ∃ v', e = .returned v' ∧ Own B w' v' (l ++ t.data.toList) ∧ Gr v v' w w' := by
  have V := Lib.hid hv
  have HB := Lib.hid hB
  clear hv hB
  go_enter Try.func47, Try.ntmps47
  go_wp2_with fail
  go_loopg [0, 5] t.size (fun g0 so si wr => ∃ (k : Nat) (vo : Value), k ≤ t.size ∧ g0 = t.size - k ∧ si = .int .i64 k ∧ vo = so ∧ Own B wr vo (l ++ t.data.toList.take k) ∧ Gr v vo w wr)
  case atStart => exact ⟨0, v, Nat.zero_le _, rfl, rfl, rfl, by simpa using V.out, Gr.refl _ _⟩
  case round =>
    obtain ⟨k, vo, hk, hg, rfl, rfl, ho, hgr⟩ := hrel
    have O := Lib.hid ho
    have G := Lib.hid (And.intro hg hgr)
    clear ho hg hgr
    by_cases hlt : k < t.size
    · have hl8 : k < t.data.toList.length := by simpa using hlt
      have T : Hid (t.data.toList.take (k + 1) = t.data.toList.take k ++ [t.data.toList.getD k 0]) := Lib.hid (take_one8 _ k hl8)
      have L : Hid ((l ++ t.data.toList.take k).length < 140737488355328) := Lib.hid (by rw [List.length_append, List.length_take]; omega)
      obtain ⟨c, hc⟩ : ∃ c, c = t.data.toList.getD k 0 := ⟨_, rfl⟩
      have C : Aside (c8 c = (((t[k]'hlt).toNat : Nat) : Int) ∧ c = t.data.toList.getD k 0) := ⟨by rw [hc]; exact str_at t k hlt, hc⟩
      have S : Hid (B ≤ wr.heap.size) := Lib.hid (Nat.le_trans HB.out G.out.2.k.size)
      clear hc hl8
      have hlt' : (k : Int) < (t.size : Int) := by omega
      go_wp2_with (at_builtin; refine app_byte rfl _ _ rfl rfl O.out S.out _ c ?hn rfl L.out ?_)
      case hn => exact C.out.1.symm
      intro v' W' o1 o2 o3
      have A : Hid (Own B W' v' (l ++ t.data.toList.take (k + 1)) ∧ Gr v v' w W') := Lib.hid ⟨by rw [T.out, ← C.out.2]; simpa using o1, G.out.2.trans (Gr.of o2 o3)⟩
      clear o1 o2 o3
      go_wp2_with fail
      go_roundg (t.size - (k + 1))
      case measure => have := G.out.1; omega
      case rel => exact ⟨k + 1, v', by omega, rfl, by go_num, rfl, A.out⟩
    · have EK : Hid (t.data.toList.take k = t.data.toList) := Lib.hid (List.take_of_length_le (by simp; omega))
      have hge : ¬ (k : Int) < (t.size : Int) := by omega
      go_wp2_with fail
      go_ret
      have o := O.out
      rw [EK.out] at o
      exact ⟨_, rfl, o, G.out.2⟩
/-- Bytes that were just laid, behind a row. -/
theorem app_fresh {ops : Array Oper} {rest : List Oper} {o : Oper} {a : Act} {Q : Exit → Act → World → Prop} (hgd : o.guard = none) (s x : Operand)
    (ho : o.op = .call { callee := .builtin .append, args := #[s, x], argTypes := #[33, 33] })
    {B : Nat} {w0 : World} {v : Value} {l : List UInt8} (m : List UInt8) (C : Array Value) (N : Nat) (hC : C = (cells8 m).toArray) (hN : N = m.length) (hs : a.eval s = v) (hown : Own B w0 v l) (hB : B ≤ w0.heap.size)
    (hx : a.eval x = .slice (some ⟨w0.heap.size, 0, none⟩) N N) (hl : l.length + m.length ≤ 10000000)
    (h : ∀ v' w', Hid (Own B w' v' (l ++ m) ∧ Gr v v' w0 w') → wpList Try.prog ops Q rest (a.put o.dst v') w') :
    wpList Try.prog ops Q (o :: rest) a (w0.alloc (.cells C 5)) := by
  subst hC hN
  obtain ⟨i0, hi, hz0, hz1, hz2⟩ := info_parts info_byte
  refine wpList_append_own_at _ hgd s x 33 ho B 5 i0 (.int .u8 0) 1 1 Try.underlying33 hi hz0 hz1 hz2 rfl (by decide) v l.length (cells8 l) hs (World.ownsRow.alloc hown _) ⟨w0.heap.size, 0, none⟩ m.length m.length (cells8 m) hx (by rw [cells8_length]; omega) ?_ (cells8_one m) (by unfold maxLen; omega) (by omega) (by simp; omega) ?_
  · intro j u hj
    rw [add_plain, Nat.zero_add, World.cell?_alloc_new, List.getElem?_toArray]; exact hj
  · intro v' w' h1 h2 _ h3
    refine h v' w' (Lib.hid ⟨?_, Gr.of (grown_alloc h2) (at_of h3 (by simp))⟩)
    show w'.ownsRow _ _ _ _ _ _
    rw [cells8_app, List.length_append]; exact h1
theorem le4_cells (x : Nat) (hx : x < 4294967296) : (#[.int .u8 ((x : Int) % 256), .int .u8 ((x : Int) / 256 % 256), .int .u8 ((x : Int) / 65536 % 256), .int .u8 ((x : Int) / 16777216)] : Array Value) = (cells8 (leB 4 x)).toArray := by
  have e : cells8 (leB 4 x) = [.int .u8 (c8 (UInt8.ofNat (x % 256))), .int .u8 (c8 (UInt8.ofNat (x / 256 % 256))), .int .u8 (c8 (UInt8.ofNat (x / 256 / 256 % 256))), .int .u8 (c8 (UInt8.ofNat (x / 256 / 256 / 256 % 256)))] := rfl
  rw [e, c8_of _ (by omega), c8_of _ (by omega), c8_of _ (by omega), c8_of _ (by omega)]
  have h1 : ((x % 256 : Nat) : Int) = (x : Int) % 256 := by omega
  have h2 : ((x / 256 % 256 : Nat) : Int) = (x : Int) / 256 % 256 := by omega
  have h3 : ((x / 256 / 256 % 256 : Nat) : Int) = (x : Int) / 65536 % 256 := by omega
  have h4 : ((x / 256 / 256 / 256 % 256 : Nat) : Int) = (x : Int) / 16777216 := by omega
  rw [h1, h2, h3, h4]
set_option maxHeartbeats 1000000 in
theorem dnumber_any (B : Nat) (v : Value) (l : List UInt8) (x : Nat) (w : World) (hv : Own B w v l) (hB : B ≤ w.heap.size) (hl : l.length ≤ 1000000) (hx : x < 4294967296) :
    Calls Try.prog 48 #[v, .int .i64 (x : Int)] w fun e w' => ∃ v', e = .returned v' ∧ Own B w' v' (l ++ leB 4 x) ∧ Gr v v' w w' := by
  have V := Lib.hid hv
  have HB := Lib.hid hB
  have EC := Lib.hid (le4_cells x hx)
  have L4 : Hid (l.length + (leB 4 x).length ≤ 10000000) := Lib.hid (by rw [leB_length]; omega)
  clear hv hB
  go_enter Try.func48, Try.ntmps48
  go_wp2_with (at_builtin; refine app_fresh rfl (.tmp 5) (.tmp 17) rfl (B := B) (w0 := w) (v := v) (l := l) (leB 4 x) _ 4 EC.out (leB_length 4 x).symm rfl V.out HB.out rfl L4.out ?_; intro v' w' H)
  go_ret
  exact ⟨_, rfl, H.out.1, H.out.2⟩
end Go.Proofs.Ytcdejeejhdpkaaa
