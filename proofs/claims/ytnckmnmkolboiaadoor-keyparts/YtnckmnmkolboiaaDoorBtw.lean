/-
  Between: of every two texts.
-/
import Derived.Test.YtnckmnmkolboiaaDoorBts
import Derived.Test.YtnckmnmkolboiaaDoorCmp
namespace Go.Proofs.YtnckmnmkolboiaaDoor
open Go.RowKit
theorem agr_at (a b : List UInt8) (k : Nat) (h1 : k ≤ a.length) (h2 : k ≤ b.length) (h : a.take k = b.take k) (hs : k = a.length ∨ k = b.length ∨ a.getD k 0 ≠ b.getD k 0) : agr a b = k := by
  induction k generalizing a b with
  | zero =>
    cases a with
    | nil => rfl
    | cons x a =>
      cases b with
      | nil => rfl
      | cons y b =>
        rcases hs with h | h | h
        · simp at h
        · simp at h
        · rw [agr, if_neg (by simpa using h)]
  | succ k ih =>
    cases a with
    | nil => simp at h1
    | cons x a =>
      cases b with
      | nil => simp at h2
      | cons y b =>
        rw [List.take_succ_cons, List.take_succ_cons, List.cons.injEq] at h
        rw [agr, if_pos h.1, ih a b (by simpa using h1) (by simpa using h2) h.2 (by simpa using hs)]
theorem byte_getD (s : ByteArray) (k : Nat) (h : k < s.size) : s.data.toList.getD k 0 = s[k]'h := by
  have hl : k < s.data.toList.length := by simpa using h
  rw [List.getD_eq_getElem?_getD, List.getElem?_eq_getElem hl]
  simp [ByteArray.getElem_eq_getElem_data]
theorem len_data (s : ByteArray) : s.data.toList.length = s.size := by simp
set_option maxHeartbeats 4000000 in
set_option maxRecDepth 100000 in
theorem agree_any (a b : ByteArray) (w : World) (ha : a.size ≤ 140737488355328) (_ : b.size ≤ 140737488355328) :
    Calls Tryd.prog 26 #[.string a, .string b] w fun e w' => e = .returned (.int .i64 (agr a.data.toList b.data.toList)) ∧ Below w.heap.size w w' := by
  go_enter Tryd.func26, Tryd.ntmps26
  go_wp2_with fail
  go_loopg [5] a.size (fun g si wr => ∃ (k : Nat), k ≤ a.size ∧ k ≤ b.size ∧ g = a.size - k ∧ si = .int .i64 k ∧ a.data.toList.take k = b.data.toList.take k ∧ Below w.heap.size w wr)
  case atStart => exact ⟨0, Nat.zero_le _, Nat.zero_le _, rfl, rfl, rfl, Below.refl _ _⟩
  case round =>
    obtain ⟨k, hk, hk2, hg, rfl, hq, hbl⟩ := hrel
    have R : Aside (gk = a.size - k ∧ a.data.toList.take k = b.data.toList.take k ∧ Below w.heap.size w wr) := ⟨hg, hq, hbl⟩
    clear hg hq hbl
    have AT : Hid (k = a.data.toList.length ∨ k = b.data.toList.length ∨ a.data.toList.getD k 0 ≠ b.data.toList.getD k 0 → agr a.data.toList b.data.toList = k) := Lib.hid fun h =>
      agr_at _ _ k (by rw [len_data]; exact hk) (by rw [len_data]; exact hk2) R.out.2.1 h
    by_cases hlt : k < a.size
    · have g1 : decide ((k : Int) < (a.size : Int)) = true := decide_eq_true (by omega)
      by_cases hlu : k < b.size
      · have g2 : decide ((k : Int) < (b.size : Int)) = true := decide_eq_true (by omega)
        by_cases e : (a[k]'hlt) = (b[k]'hlu)
        · have e1 : (((a[k]'hlt).toNat : Int) == ((b[k]'hlu).toNat : Int)) = true := by rw [e]; simp
          have E : Hid (a.data.toList.take (k + 1) = b.data.toList.take (k + 1)) := Lib.hid (by
            rw [take_one _ k 0 (by rw [len_data]; exact hlt), take_one _ k 0 (by rw [len_data]; exact hlu), R.out.2.1, byte_getD a k hlt, byte_getD b k hlu, e])
          clear e
          go_wp2_with fail
          go_quiet (fail)
          go_wp2_with fail
          go_roundg (a.size - (k + 1))
          case measure => have := R.out.1; omega
          case rel => exact ⟨k + 1, by omega, by omega, rfl, by go_num, E.out, R.out.2.2.trans ⟨rfl, rfl, rfl, Nat.le_refl _, fun _ _ => rfl⟩⟩
        · have e1 : (((a[k]'hlt).toNat : Int) == ((b[k]'hlu).toNat : Int)) = false := by
            rw [beq_eq_false_iff_ne]
            intro h
            exact e (UInt8.toNat_inj.1 (by omega))
          have hr := Lib.hid (AT.out (.inr (.inr (by rw [byte_getD a k hlt, byte_getD b k hlu]; exact e))))
          clear e
          go_wp2_with fail
          go_quiet (fail)
          go_wp2_with fail
          go_ret
          exact ⟨by rw [hr.out]; rfl, R.out.2.2.trans ⟨rfl, rfl, rfl, Nat.le_refl _, fun _ _ => rfl⟩⟩
      · have g2 : decide ((k : Int) < (b.size : Int)) = false := decide_eq_false (by omega)
        have hr := Lib.hid (AT.out (.inr (.inl (by rw [len_data]; omega))))
        go_wp2_with fail
        go_quiet (fail)
        go_wp2_with fail
        go_ret
        exact ⟨by rw [hr.out]; rfl, R.out.2.2.trans ⟨rfl, rfl, rfl, Nat.le_refl _, fun _ _ => rfl⟩⟩
    · have g1 : decide ((k : Int) < (a.size : Int)) = false := decide_eq_false (by omega)
      have hr := Lib.hid (AT.out (.inl (by rw [len_data]; omega)))
      go_wp2_with fail
      go_quiet (fail)
      go_wp2_with fail
      go_ret
      exact ⟨by rw [hr.out]; rfl, R.out.2.2.trans ⟨rfl, rfl, rfl, Nat.le_refl _, fun _ _ => rfl⟩⟩
/-- One byte onto a text's bytes. -/
theorem app_conv {ops : Array Oper} {rest : List Oper} {o : Oper} {a : Act} {Q : Exit → Act → World → Prop} (hgd : o.guard = none) (s x : Operand)
    (ho : o.op = .call { callee := .builtin .append, args := #[s, x], argTypes := #[44, 44] })
    {w0 w1 : World} {t : ByteArray} {cap : Nat} (hs : a.eval s = .slice (some ⟨w0.heap.size, 0, none⟩) t.size cap) (hb : Below w0.heap.size w0 w1) (hlt : w0.heap.size < w1.heap.size)
    (hc : ∀ k v, (cells8 t.data.toList)[k]? = some v → w1.cell? ⟨w0.heap.size, k, none⟩ = some v) (hf : ∀ k, k < cap → (w1.cell? ⟨w0.heap.size, k, none⟩).isSome = true ∧ w1.frozen? ⟨w0.heap.size, k, none⟩ = false)
    (n : Int) (c : UInt8) (hn : n = c8 c) (hx : a.eval x = .slice (some ⟨w1.heap.size, 0, none⟩) 1 1) (hl : t.size < 140737488355328)
    (h : ∀ v' w', (convert 44 9 v').run Tryd.prog w' = .ok (.string (txt (t.data.toList ++ [c]))) w' → Below w0.heap.size w0 w' → wpList Tryd.prog ops Q rest (a.put o.dst v') w') :
    wpList Tryd.prog ops Q (o :: rest) a (w1.alloc (.cells #[.int .u8 n] 5)) := by
  subst hn
  obtain ⟨i0, hi, hz0, hz1, hz2⟩ := info_parts info_byte
  have old : ∀ k, (w1.alloc (.cells #[.int .u8 (c8 c)] 5)).cell? ⟨w0.heap.size, k, none⟩ = w1.cell? ⟨w0.heap.size, k, none⟩ := fun k =>
    ((Below.refl w1.heap.size w1).alloc (Nat.le_refl _) _).cell (p := ⟨w0.heap.size, k, none⟩) hlt
  have oldf : ∀ k, (w1.alloc (.cells #[.int .u8 (c8 c)] 5)).frozen? ⟨w0.heap.size, k, none⟩ = w1.frozen? ⟨w0.heap.size, k, none⟩ := fun k =>
    World.frozen?_of_block (Below.heap_alloc w1 _ _ hlt)
  refine wpList_append_arg _ hgd s x 44 ho 5 i0 (.int .u8 0) 1 1 Tryd.underlying44 hi hz0 hz1 hz2 rfl (by decide) w0.heap.size 0 t.size cap (cells8 t.data.toList) hs (by rw [cells8_length, len_data, Nat.mul_one]) ?_ ⟨w1.heap.size, 0, none⟩ 1 1 [.int .u8 (c8 c)] hx rfl one_cell ?_ ?_ (by unfold maxLen; omega) (by omega) ?_ ?_
  · intro j u hj
    rw [Nat.zero_add, old]; exact hc j u hj
  · intro v hv; simp only [List.mem_cons, List.not_mem_nil, or_false] at hv; rw [hv]; rfl
  · intro hr j hj
    rw [old, oldf]
    exact hf _ (by simp at hj; omega)
  · intro hr
    refine h _ _ ?_ ?_
    · rw [← str8_txt]
      have e := run_convert_bytes_arg ((w1.alloc (.cells #[.int .u8 (c8 c)] 5)).setCells w0.heap.size (0 + t.size * 1) [.int .u8 (c8 c)]) 44 5 Tryd.underlying44 Tryd.underlying5 w0.heap.size 0 (t.size + 1) cap ((t.data.toList ++ [c]).map c8) (by simp) (fun i hi => ?_) 9 Tryd.underlying9
      · exact e
      · rw [getD8]
        simp only [Nat.zero_add, Nat.mul_one]
        rcases Nat.lt_or_ge i t.size with g | g
        · rw [World.cell?_setCells_out _ _ _ _ _ (fun _ _ => .inl (by show i < t.size; omega)), old, hc i _ (cells8_at (by rw [len_data]; exact g))]
          rw [List.getD_eq_getElem?_getD, List.getD_eq_getElem?_getD, List.getElem?_append_left (by rw [len_data]; exact g)]
        · have ei : i = t.size := by omega
          subst ei
          have h3 := World.cell?_setCells_in w0.heap.size [.int .u8 (c8 c)] t.size (w1.alloc (.cells #[.int .u8 (c8 c)] 5)) (fun j hj => by rw [old]; exact (hf _ (by simp at hj; omega)).1) 0 (by simp)
          rw [Nat.add_zero] at h3
          rw [h3]
          simp [List.getD_eq_getElem?_getD]
    · exact (hb.alloc (by omega) _).setCell (p := ⟨w0.heap.size, 0 + t.size * 1, none⟩) (Nat.le_refl _) _
  · intro hr v' w' h1 h2
    refine h v' w' ?_ ?_
    · have : Own (w1.alloc (.cells #[.int .u8 (c8 c)] 5)).heap.size w' v' (t.data.toList ++ [c]) := by
        refine own_more ?_
        rw [len_data]; exact h1
      exact convT this.bytes
    · exact (hb.alloc (by omega) _).grown h2 (by simp; omega) (fun k hk => by cases hk)
/-- What Between answers. -/
def btwR (a b : ByteArray) : ByteArray × Int := if bl a.data.toList b.data.toList then (txt (btw a.data.toList b.data.toList), 0) else (⟨#[]⟩, 1)
theorem less_form (a b : ByteArray) {x : Bool} (h : bl a.data.toList b.data.toList = x) : Op.bytesLess a.toList b.toList = x := by rw [list_of_bytes, list_of_bytes]; exact h
set_option maxHeartbeats 4000000 in
set_option maxRecDepth 100000 in
theorem between_any (a b : ByteArray) (w : World) (ha : a.size ≤ 140737488351232) (hb : b.size ≤ 140737488351232) :
    Calls Tryd.prog 8 #[.string a, .string b] w fun e w' => e = .returned (.tuple #[.string (btwR a b).1, .int .i64 (btwR a b).2]) ∧ Below w.heap.size w w' := by
  cases hl : bl a.data.toList b.data.toList with
  | false =>
    have g := less_form a b hl
    have hr : Hid (btwR a b = (⟨#[]⟩, 1)) := Lib.hid (by unfold btwR; rw [if_neg (by rw [hl]; simp)])
    clear hl
    go_enter Tryd.func8, Tryd.ntmps8
    go_wp2_with fail
    go_ret2
    exact ⟨by rw [hr.out]; rfl, Below.refl _ _⟩
  | true =>
    have g := less_form a b hl
    have hr : Hid (btwR a b = (txt (btw a.data.toList b.data.toList), 0)) := Lib.hid (by unfold btwR; rw [if_pos hl])
    have AG := Lib.hid (agree_any a b w (by omega) (by omega))
    have AL := agr_le a.data.toList b.data.toList
    rw [len_data, len_data] at AL
    obtain ⟨n, hn⟩ : ∃ n, n = agr a.data.toList b.data.toList := ⟨_, rfl⟩
    rw [← hn] at AG AL
    clear hl
    go_enter Tryd.func8, Tryd.ntmps8
    go_wp2_with fail
    refine AG.out.mono ?_
    rintro e w1 ⟨rfl, hb1⟩
    have B1 := Lib.hid hb1
    clear hb1
    obtain ⟨t, ht⟩ : ∃ t : ByteArray, t = a.extract 0 n := ⟨_, rfl⟩
    have tsz : t.size = n := by rw [ht]; simp; omega
    obtain ⟨cap, w2, hcv, hb2, hlt2, hc2, hf2⟩ := conv_text w1 t
    rw [ht] at hcv
    have X := Lib.hid (And.intro hb2 (And.intro hlt2 (And.intro hc2 hf2)))
    clear hb2 hlt2 hc2 hf2
    by_cases hlt : n < a.size
    · have hlt' : (n : Int) < (a.size : Int) := by omega
      obtain ⟨c, hc⟩ : ∃ c, c = (a[n]'hlt) + 1 := ⟨_, rfl⟩
      have hc8 : IntKind.u8.wrap (((a[n]'hlt).toNat : Int) + 1) = c8 c := by
        rw [hc, show IntKind.u8.wrap (((a[n]'hlt).toNat : Int) + 1) = (((a[n]'hlt).toNat : Int) + 1) % 256 from rfl]
        unfold c8
        rw [UInt8.toNat_add]
        have : (1 : UInt8).toNat = 1 := rfl
        rw [this]
        omega
      have hbt : Hid (txt (a.data.toList.take n ++ [c]) = txt (btw a.data.toList b.data.toList)) := Lib.hid (by
        unfold btw
        rw [← hn, if_pos (by rw [len_data]; exact hlt), byte_getD a n hlt, hc])
      clear hc hn
      go_wp2_with (at_builtin; refine app_conv rfl _ _ rfl (by rw [tsz]; rfl) X.out.1 X.out.2.1 X.out.2.2.1 X.out.2.2.2 _ c rfl rfl (by omega) ?_)
      intro v' w' hcv' hb'
      have B' := Lib.hid (B1.out.trans (hb'.mono B1.out.size))
      clear hb'
      go_wp2_with fail
      go_ret2
      exact ⟨by rw [hr.out, ← hbt.out]; rfl, B'.out⟩
    · have hbt : Hid (txt (a.data.toList.take n ++ [0]) = txt (btw a.data.toList b.data.toList)) := Lib.hid (by
        unfold btw
        rw [← hn, if_neg (by rw [len_data]; exact hlt)])
      clear hn
      go_wp2_with (at_builtin; refine app_conv rfl _ _ rfl (by rw [tsz]; rfl) X.out.1 X.out.2.1 X.out.2.2.1 X.out.2.2.2 _ 0 rfl rfl (by omega) ?_)
      intro v' w' hcv' hb'
      have B' := Lib.hid (B1.out.trans (hb'.mono B1.out.size))
      clear hb'
      go_wp2_with fail
      go_ret2
      exact ⟨by rw [hr.out, ← hbt.out]; rfl, B'.out⟩
end Go.Proofs.YtnckmnmkolboiaaDoor
