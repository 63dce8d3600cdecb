/-
  The document's Make.
-/
import Derived.Test.YtggpiikiplogmabDoorBts
import Derived.Test.YtggpiikiplogmabDoorMake
namespace Go.Proofs.YtggpiikiplogmabDoor
open Go.RowKit
theorem two_cells (w : World) (x y : Value) : ∀ j v, [x, y][j]? = some v → (w.alloc (.cells #[x, y] 5)).cell? ((⟨w.heap.size, 0, none⟩ : Addr).add j) = some v := fun j v h => new_cells w #[x, y] j v h
theorem app_two {ops : Array Oper} {rest : List Oper} {o : Oper} {a : Act} {Q : Exit → Act → World → Prop} (hgd : o.guard = none) (s x : Operand)
    (ho : o.op = .call { callee := .builtin .append, args := #[s, x], argTypes := #[45, 45] })
    {B : Nat} {w0 : World} {v : Value} {l : List UInt8} (hs : a.eval s = v) (hown : Own B w0 v l) (hB : B ≤ w0.heap.size) (m n : Int) (c d : UInt8) (hm : m = c8 c) (hn : n = c8 d)
    (hx : a.eval x = .slice (some ⟨w0.heap.size, 0, none⟩) 2 2) (hl : l.length + 2 ≤ 140737488355328)
    (h : ∀ v' w', Own B w' v' (l ++ [c, d]) → w0.grownBy w' v.ownBlock → wpList Tryd.prog ops Q rest (a.put o.dst v') w') :
    wpList Tryd.prog ops Q (o :: rest) a (w0.alloc (.cells #[.int .u8 m, .int .u8 n] 5)) := by
  subst hm hn
  obtain ⟨i0, hi, hz0, hz1, hz2⟩ := info_parts info_byte
  refine wpList_append_own_at _ hgd s x 45 ho B 5 i0 (.int .u8 0) 1 1 Tryd.underlying45 hi hz0 hz1 hz2 rfl (by decide) v l.length (cells8 l) hs (World.ownsRow.alloc hown _) ⟨w0.heap.size, 0, none⟩ 2 2 [.int .u8 (c8 c), .int .u8 (c8 d)] hx rfl (two_cells w0 _ _) ?_ (by unfold maxLen; omega) (by omega) (by simp; omega) ?_
  · intro v hv; simp only [List.mem_cons, List.not_mem_nil, or_false] at hv; rcases hv with rfl | rfl <;> rfl
  · intro v' w' h1 h2 _ _
    refine h v' w' ?_ (grown_alloc h2)
    show w'.ownsRow _ _ _ _ _ _
    rw [cells8_app, List.length_append]
    exact h1
theorem enc_take (l : List UInt8) (k : Nat) (h : k < l.length) : enc (l.take (k + 1)) = enc (l.take k) ++ enc [l.getD k 0] := by
  rw [take_one l k 0 h, enc_app]
theorem enc_len2 (l : List UInt8) : (enc l).length ≤ 2 * l.length := by
  rw [enc_length]
  have := List.count_le_length (a := (0 : UInt8)) (l := l)
  omega
set_option maxHeartbeats 8000000 in
set_option maxRecDepth 100000 in
theorem refMake_any (v : Value) (ts : List ByteArray) (w : World) (hv : Strs w v ts) (hs : ∀ t ∈ ts, t.size ≤ 1048577) :
    Calls Tryd.prog 16 #[v] w fun e w' => e = .returned (.tuple #[.string (makeR ts).1, .int .i64 (makeR ts).2]) ∧ Below w.heap.size w w' := by
  have V : Hid (Strs w v ts) := hv
  have HS := Lib.hid hs
  obtain ⟨a, cap, rfl, hlc, hcm⟩ := hv.len
  unfold maxLen at hcm
  clear hv hs
  by_cases h0 : ts.length = 0
  · have g0 : decide ((ts.length : Int) < 1) = true := decide_eq_true (by omega)
    have hr : Hid (makeR ts = (⟨#[]⟩, 1)) := Lib.hid (by unfold makeR; rw [if_pos (.inl h0)])
    clear h0
    go_enter Tryd.func16, Tryd.ntmps16
    go_wp2_with fail
    go_ret2
    exact ⟨by rw [hr.out]; rfl, Below.refl _ _⟩
  have g0 : decide ((ts.length : Int) < 1) = false := decide_eq_false (by omega)
  by_cases h9 : 8 < ts.length
  · have g8 : decide ((ts.length : Int) > 8) = true := decide_eq_true (by omega)
    have hr : Hid (makeR ts = (⟨#[]⟩, 1)) := Lib.hid (by unfold makeR; rw [if_pos (.inr (by omega))])
    go_enter Tryd.func16, Tryd.ntmps16
    go_wp2_with fail
    go_ret2
    exact ⟨by rw [hr.out]; rfl, Below.refl _ _⟩
  have h8 : ts.length ≤ 8 := by omega
  have g8 : decide ((ts.length : Int) > 8) = false := decide_eq_false (by omega)
  have KB : Hid (∀ k, k ≤ ts.length → (keyL (ts.take k)).length ≤ 16777248) := Lib.hid fun k hk => by
    have := key_bound ts 1048577 HS.out k hk
    have h2 := Nat.mul_le_mul_right (2 * 1048577 + 2) (show k ≤ 8 by omega)
    omega
  go_enter Tryd.func16, Tryd.ntmps16
  go_wp2_with fail
  clear g0 g8
  go_loopg [4, 5] ts.length (fun g sb si wr => ∃ (k : Nat), k ≤ ts.length ∧ g = ts.length - k ∧ si = .int .i64 k ∧ Own w.heap.size wr sb (keyL (ts.take k)) ∧ Below w.heap.size w wr)
  case atStart => exact ⟨0, Nat.zero_le _, rfl, rfl, World.ownsRow_nil _ _ _ _, Below.refl _ _⟩
  case round =>
    obtain ⟨k, hk, hg, rfl, ho, hb⟩ := hrel
    have R : Hid (gk = ts.length - k ∧ Own w.heap.size wr u4 (keyL (ts.take k)) ∧ Below w.heap.size w wr) := ⟨hg, ho, hb⟩
    clear hg ho hb
    by_cases hlt : k < ts.length
    · obtain ⟨t, ht⟩ : ∃ t, t = ts.getD k ⟨#[]⟩ := ⟨_, rfl⟩
      have ts0 : t.size ≤ 1048577 := HS.out _ (by rw [ht]; exact mem_getD hlt)
      have C := Lib.hid ht
      have hlt' : (k : Int) < (ts.length : Int) := by omega
      clear ht
      go_wp2_with fail
      go_loopg [4, 6] t.size (fun g sb sj w2 => ∃ (j : Nat), j ≤ t.size ∧ g = t.size - j ∧ sj = .int .i64 j ∧ Own w.heap.size w2 sb (keyL (ts.take k) ++ enc (t.data.toList.take j)) ∧ Below w.heap.size w w2)
      case atStart => exact ⟨0, Nat.zero_le _, rfl, rfl, by simpa [enc] using R.out.2.1, R.out.2.2⟩
      case round =>
        obtain ⟨j, hj, hg, rfl, ho, hb⟩ := hrel
        have R2 : Hid (gk = t.size - j ∧ Own w.heap.size wr u4 (keyL (ts.take k) ++ enc (t.data.toList.take j)) ∧ Below w.heap.size w wr) := ⟨hg, ho, hb⟩
        have LN : Hid ((keyL (ts.take k) ++ enc (t.data.toList.take j)).length ≤ 18874402) := Lib.hid (by
          have h1 := KB.out k hk
          have h2 := enc_len2 (t.data.toList.take j)
          rw [List.length_take] at h2
          have h3 : t.data.toList.length = t.size := by simp
          rw [List.length_append]
          omega)
        clear hg ho
        obtain ⟨b0, off0, ea, p0⟩ := (V.out.below hb).at k hlt
        subst ea
        rw [← C.out] at p0
        by_cases hlj : j < t.size
        · have hlj' : (j : Int) < (t.size : Int) := by omega
          obtain ⟨c, hc⟩ : ∃ c, c = t[j]'hlj := ⟨_, rfl⟩
          have E1 : Hid (enc (t.data.toList.take (j + 1)) = enc (t.data.toList.take j) ++ enc [c]) := Lib.hid (by
            rw [enc_take _ j (by simpa using hlj), hc]
            congr 2
            have hl : j < t.data.toList.length := by simpa using hlj
            rw [List.getD_eq_getElem?_getD, List.getElem?_eq_getElem hl]
            simp [ByteArray.getElem_eq_getElem_data])
          have fc : ((t[j]'hlj).toNat : Int) = c8 c := by rw [hc]; rfl
          by_cases hz : c = 0
          · have g0 : (c8 c == 0) = true := by rw [hz]; rfl
            have e0 : Hid (enc [c] = [c, 255]) := Lib.hid (by rw [hz]; rfl)
            clear hz hc hb
            go_wp2_with (at_builtin; refine app_byte rfl _ _ rfl rfl R2.out.2.1 R2.out.2.2.size _ c rfl rfl (by have := LN.out; omega) ?_)
            intro v' w' o1 h1
            have O1 := Lib.hid o1
            have B1 := Lib.hid (R2.out.2.2.grown h1 R2.out.2.2.size (fun k hk => (R2.out.2.1.lt k hk).1))
            clear o1 h1
            obtain ⟨b1, off1, e1, p1⟩ := (V.out.below B1.out).at k hlt
            cases e1
            rw [← C.out] at p1
            go_wp2_with (at_builtin; refine app_byte rfl _ _ rfl rfl O1.out B1.out.size _ 255 rfl rfl (by have h := LN.out; simp only [List.length_append, List.length_cons, List.length_nil] at h ⊢; omega) ?_)
            intro v'' w'' o2 h2
            have O2 : Hid (Own w.heap.size w'' v'' (keyL (ts.take k) ++ enc (t.data.toList.take (j + 1)))) := Lib.hid (by
              rw [E1.out, e0.out]
              simpa using o2)
            have B2 := Lib.hid (B1.out.grown h2 B1.out.size (fun k hk => (O1.out.lt k hk).1))
            clear o2 h2
            go_wp2_with fail
            go_roundg (t.size - (j + 1))
            case measure => have := R2.out.1; omega
            case rel => exact ⟨j + 1, by omega, rfl, by go_num, O2.out, B2.out⟩
          · have g0 : (c8 c == 0) = false := by
              rw [beq_eq_false_iff_ne]
              intro e
              exact hz (c8_inj e)
            have e0 : Hid (enc [c] = [c]) := Lib.hid (enc_ne c [] hz)
            clear hz hc hb
            go_wp2_with (at_builtin; refine app_byte rfl _ _ rfl rfl R2.out.2.1 R2.out.2.2.size _ c rfl rfl (by have := LN.out; omega) ?_)
            intro v' w' o1 h1
            have O1 : Hid (Own w.heap.size w' v' (keyL (ts.take k) ++ enc (t.data.toList.take (j + 1)))) := Lib.hid (by
              rw [E1.out, e0.out]
              simpa using o1)
            have B1 := Lib.hid (R2.out.2.2.grown h1 R2.out.2.2.size (fun k hk => (R2.out.2.1.lt k hk).1))
            clear o1 h1
            obtain ⟨b1, off1, e1, p1⟩ := (V.out.below B1.out).at k hlt
            cases e1
            rw [← C.out] at p1
            go_wp2_with fail
            go_roundg (t.size - (j + 1))
            case measure => have := R2.out.1; omega
            case rel => exact ⟨j + 1, by omega, rfl, by go_num, O1.out, B1.out⟩
        · have ej : t.data.toList.take j = t.data.toList := List.take_of_length_le (by have : t.data.toList.length = t.size := by simp
                                                                                       omega)
          have O1 : Hid (Own w.heap.size wr u4 (keyL (ts.take k) ++ enc t.data.toList)) := Lib.hid (by have := R2.out.2.1; rw [ej] at this; exact this)
          have KK : Hid (keyL (ts.take (k + 1)) = (keyL (ts.take k) ++ enc t.data.toList) ++ [0, 1]) := Lib.hid (by rw [take_one ts k ⟨#[]⟩ hlt, keyL_app, ← C.out]; simp [keyL])
          have LN2 : Hid ((keyL (ts.take k) ++ enc t.data.toList).length ≤ 18874402) := Lib.hid (by have := LN.out; rw [ej] at this; exact this)
          clear ej hb
          go_wp2_with (at_builtin; refine app_two rfl _ _ rfl rfl O1.out R2.out.2.2.size _ _ 0 1 rfl rfl rfl (by have := LN2.out; omega) ?_)
          intro v' w' o1 h1
          have O2 : Hid (Own w.heap.size w' v' (keyL (ts.take (k + 1)))) := Lib.hid (by rw [KK.out]; simpa using o1)
          have B1 := Lib.hid (R2.out.2.2.grown h1 R2.out.2.2.size (fun k hk => (O1.out.lt k hk).1))
          clear o1 h1
          go_wp2_with fail
          go_roundg (ts.length - (k + 1))
          case measure => have := R.out.1; omega
          case rel => exact ⟨k + 1, by omega, rfl, by go_num, O2.out, B1.out⟩
    · have e : ts.take k = ts := List.take_of_length_le (by omega)
      have O1 : Hid (Own w.heap.size wr u4 (keyL ts)) := Lib.hid (by have := R.out.2.1; rw [e] at this; exact this)
      clear e
      obtain ⟨ab, cb, eb, _, _⟩ := O1.out.bytes.len
      subst eb
      obtain ⟨n, hn⟩ : ∃ n, n = (keyL ts).length := ⟨_, rfl⟩
      rw [← hn] at O1 R ⊢
      by_cases h120 : 120 < n
      · have g120 : decide ((n : Int) > 120) = true := decide_eq_true (by omega)
        have hr : Hid (makeR ts = (⟨#[]⟩, 23)) := Lib.hid (by unfold makeR; rw [if_neg (by omega), if_pos (by omega)])
        clear hn
        go_wp2_with fail
        go_ret2
        exact ⟨by rw [hr.out]; rfl, R.out.2.2⟩
      · have g120 : decide ((n : Int) > 120) = false := decide_eq_false (by omega)
        have hr : Hid (makeR ts = (txt (keyL ts), 0)) := Lib.hid (by unfold makeR; rw [if_neg (by omega), if_neg (by omega)]; rfl)
        have hcv := convT O1.out.bytes
        clear hn
        go_wp2_with fail
        go_ret2
        exact ⟨by rw [hr.out]; rfl, R.out.2.2⟩
end Go.Proofs.YtggpiikiplogmabDoor
