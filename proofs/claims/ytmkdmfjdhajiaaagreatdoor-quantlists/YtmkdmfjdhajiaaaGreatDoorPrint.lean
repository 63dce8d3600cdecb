/-
  Print.
-/
import Derived.Test.YtmkdmfjdhajiaaaGreatDoorFmt
import Derived.Deep.LoopGhost
namespace Go.Proofs.YtmkdmfjdhajiaaaGreatDoor
open Go.RowKit Go.Lib
def sufT : Nat → ByteArray
  | 0 => ⟨#[109]⟩
  | 1 => ⟨#[]⟩
  | 2 => ⟨#[107]⟩
  | 3 => ⟨#[77]⟩
  | 4 => ⟨#[71]⟩
  | 5 => ⟨#[84]⟩
  | 6 => ⟨#[80]⟩
  | 7 => ⟨#[75, 105]⟩
  | 8 => ⟨#[77, 105]⟩
  | 9 => ⟨#[71, 105]⟩
  | 10 => ⟨#[84, 105]⟩
  | _ => ⟨#[80, 105]⟩
def sufN : Nat → Nat
  | 0 => 1
  | 1 => 1000
  | 2 => 1000000
  | 3 => 1000000000
  | 4 => 1000000000000
  | 5 => 1000000000000000
  | 6 => 1000000000000000000
  | 7 => 1024000
  | 8 => 1048576000
  | 9 => 1073741824000
  | 10 => 1099511627776000
  | _ => 1125899906842624000
theorem suf_idx (w : World) : ∀ k : Nat, k < 12 → (Instr.index 63 (.agg sufArr) (.int .i64 k)).run Tryz.prog w = .ok (.agg #[.string (sufT k), .int .u64 (sufN k)]) w
  | 0, _ => suf_0 w
  | 1, _ => suf_1 w
  | 2, _ => suf_2 w
  | 3, _ => suf_3 w
  | 4, _ => suf_4 w
  | 5, _ => suf_5 w
  | 6, _ => suf_6 w
  | 7, _ => suf_7 w
  | 8, _ => suf_8 w
  | 9, _ => suf_9 w
  | 10, _ => suf_10 w
  | 11, _ => suf_11 w
theorem sufN_pos : ∀ k : Nat, k < 12 → 0 < sufN k ∧ sufN k < 18446744073709551616
  | 0, _ => by decide
  | 1, _ => by decide
  | 2, _ => by decide
  | 3, _ => by decide
  | 4, _ => by decide
  | 5, _ => by decide
  | 6, _ => by decide
  | 7, _ => by decide
  | 8, _ => by decide
  | 9, _ => by decide
  | 10, _ => by decide
  | 11, _ => by decide
theorem sufT_len : ∀ k : Nat, k < 12 → (sufT k).size ≤ 2
  | 0, _ => by decide
  | 1, _ => by decide
  | 2, _ => by decide
  | 3, _ => by decide
  | 4, _ => by decide
  | 5, _ => by decide
  | 6, _ => by decide
  | 7, _ => by decide
  | 8, _ => by decide
  | 9, _ => by decide
  | 10, _ => by decide
  | 11, _ => by decide
/-- The digits of a number. -/
def dig (u : Nat) : ByteArray := ⟨(decDigits u).toArray⟩
theorem dig_size (u : Nat) : (dig u).size = (decDigits u).length := by simp [dig, ByteArray.size]
theorem dig_le (u : Nat) (h : u < 18446744073709551616) : (decDigits u).length ≤ 20 := by
  rw [decDigits_length]
  rcases Nat.eq_zero_or_pos u with h0 | h0
  · subst h0; rw [← decDigits_length]; first | decide +kernel | (simp [decDigits]; done)
  · have := numDigits_eq u h0 h; split at this <;> omega
/-- The shortest of the first k texts. -/
def best (v : Nat) : Nat → ByteArray
  | 0 => ⟨#[]⟩
  | k + 1 => if v % sufN k = 0 then (if (best v k).size = 0 ∨ (dig (v / sufN k) ++ sufT k).size < (best v k).size then dig (v / sufN k) ++ sufT k else best v k) else best v k
theorem tab_below {w w' : World} {name : String} {k : IntKind} {zs : List Int} (h : TabIs Tryz.prog w name k zs) (hb : Below w.heap.size w w') : TabIs Tryz.prog w' name k zs := by
  unfold TabIs World.var? at *
  cases hg : Tryz.prog.globalNamed name with
  | none => simp [hg] at h
  | some g =>
    simp only [hg, Option.bind_some] at h ⊢
    have hlt : g < w.heap.size := by
      rcases Nat.lt_or_ge g w.heap.size with h' | h'
      · exact h'
      · rw [Array.getElem?_eq_none h'] at h; simp at h
    rw [hb.block g hlt]
    exact h
theorem formatUint_eq {q : Int} {u : Nat} (hq : q = u) (hu64 : u < 18446744073709551616) (w : World) (htab : TabIs Tryz.prog w "internal/strconv.uint64pow10" .u64 pow10Tab) :
    Calls Tryz.prog 40 #[.int .u64 q, .int .i64 10] w fun e w' => e = .returned (.string (dig u)) ∧ Below w.heap.size w w' := by
  rw [hq]; exact formatUint_any u hu64 w htab
set_option maxHeartbeats 8000000 in
set_option maxRecDepth 100000 in
theorem print_any (v : Nat) (hv : v < 9223372036854775808) (w : World) (hs : Suf w) (ht : TabIs Tryz.prog w "internal/strconv.uint64pow10" .u64 pow10Tab) :
    Calls Tryz.prog 19 #[.int .i64 v] w fun e w' => e = .returned (.string (best v 12)) ∧ Below w.heap.size w w' := by
  have H : Hid (Suf w) := hs
  have HT : Hid (TabIs Tryz.prog w "internal/strconv.uint64pow10" .u64 pow10Tab) := ht
  clear hs ht
  go_enter Tryz.func19, Tryz.ntmps19
  go_wp2_with (refine load_suf rfl rfl H.out ?_)
  go_loopg [3, 10] 12 (fun g so si wr => ∃ (k : Nat), k ≤ 12 ∧ g = 12 - k ∧ si = .int .i64 k ∧ so = .string (best v k) ∧ Below w.heap.size w wr)
  case atStart => exact ⟨0, by omega, rfl, rfl, rfl, Below.refl _ _⟩
  case round =>
    obtain ⟨k, hk, hg, rfl, rfl, hb⟩ := hrel
    have R : Aside (gk = 12 - k ∧ Below w.heap.size w wr) := ⟨hg, hb⟩
    clear hg hb
    by_cases hlt : k < 12
    · have hlt' : (k : Int) < 12 := by omega
      have hix := fun w => suf_idx w k hlt
      obtain ⟨sn1, sn2⟩ := sufN_pos k hlt
      obtain ⟨t, ht⟩ : ∃ t, t = sufT k := ⟨_, rfl⟩
      obtain ⟨n, hn⟩ : ∃ n, n = sufN k := ⟨_, rfl⟩
      have NE : Aside (n = sufN k ∧ t = sufT k) := ⟨hn, ht⟩
      rw [← ht, ← hn] at hix
      rw [← hn] at sn1 sn2
      clear ht hn
      have npos : ¬ (n : Int) = 0 := by omega
      by_cases hd : v % n = 0
      · have hd' : (v : Int) % (n : Int) = 0 := by omega
        have ST : Aside (best v (k + 1) = if (best v k).size = 0 ∨ (dig (v / n) ++ t).size < (best v k).size then dig (v / n) ++ t else best v k) := by
          show best v (k + 1) = _
          rw [best, ← NE.out.1, ← NE.out.2, if_pos hd]
        obtain ⟨s, hs⟩ : ∃ s, s = best v k := ⟨_, rfl⟩
        rw [← hs] at ST ⊢
        clear hs
        have Q64 : Hid (v / n < 18446744073709551616) := Nat.lt_of_le_of_lt (Nat.div_le_self v n) (by omega)
        have HQ : Hid ((v : Int) / (n : Int) = ((v / n : Nat) : Int)) := by show _ = _; simp
        have b1 : Below w.heap.size w ((wr.alloc (.cells #[.string t, .int .u64 n] 62)).drew) := (R.out.2.trans (((Below.refl _ _).alloc (Nat.le_refl _) _).mono R.out.2.size)).trans ⟨rfl, rfl, rfl, Nat.le_refl _, fun _ _ => rfl⟩
        have TB : Hid (TabIs Tryz.prog ((wr.alloc (.cells #[.string t, .int .u64 n] 62)).drew) "internal/strconv.uint64pow10" .u64 pow10Tab) := tab_below HT.out (b1.mono (Nat.le_refl _))
        have CC : Hid (∀ w', Below ((wr.alloc (.cells #[.string t, .int .u64 n] 62)).drew).heap.size ((wr.alloc (.cells #[.string t, .int .u64 n] 62)).drew) w' → (w'.cell? ⟨wr.heap.size, 0, none⟩ = some (.string t) ∧ w'.cell? ⟨wr.heap.size, 1, none⟩ = some (.int .u64 n)) ∧ Below w.heap.size w w') := fun w' hb => by
          have e0 : ((wr.alloc (.cells #[.string t, .int .u64 n] 62)).drew).cell? ⟨wr.heap.size, 0, none⟩ = some (.string t) := by
            show (wr.alloc (.cells #[.string t, .int .u64 n] 62)).cell? ⟨wr.heap.size, 0, none⟩ = _
            rw [World.cell?_alloc_new]; rfl
          have e1 : ((wr.alloc (.cells #[.string t, .int .u64 n] 62)).drew).cell? ⟨wr.heap.size, 1, none⟩ = some (.int .u64 n) := by
            show (wr.alloc (.cells #[.string t, .int .u64 n] 62)).cell? ⟨wr.heap.size, 1, none⟩ = _
            rw [World.cell?_alloc_new]; rfl
          exact ⟨⟨by rw [hb.cell (block_lt_of_cell e0)]; exact e0, by rw [hb.cell (block_lt_of_cell e1)]; exact e1⟩, b1.trans (hb.mono b1.size)⟩
        have tl : t.size ≤ 2 := by rw [NE.out.2]; exact sufT_len k hlt
        have dl : (dig (v / n)).size ≤ 20 := by rw [dig_size]; exact dig_le _ Q64.out
        have hsum : ¬ ((dig (v / n)).size + t.size > 9223372036854775807) := by omega
        clear b1
        go_wp2_with fail
        go_region_with (go_at_call 40; refine (formatUint_eq (u := v / n) (by first | rfl | exact HQ.out | omega) Q64.out _ TB.out).mono ?_; rintro e w' ⟨rfl, hb⟩; obtain ⟨⟨c0, c1⟩, hb2⟩ := CC.out w' hb; have BB := hid hb2; clear hb hb2)
        all_goals
          by_cases hs0 : s.size = 0
          · obtain rfl : s = ⟨#[]⟩ := by
              obtain ⟨d⟩ := s
              simp only [ByteArray.size] at hs0
              rw [Array.eq_empty_of_size_eq_zero hs0]
            go_wp2_with fail
            go_roundg (12 - (k + 1))
            case measure => have := R.out.1; omega
            case rel => exact ⟨k + 1, by omega, rfl, by go_num, by rw [ST.out, if_pos (Or.inl (show (⟨#[]⟩ : ByteArray).size = 0 from rfl))], BB.out⟩
          · have em1 : s.toList.isEmpty = false := by
              rw [ByteArray.toList_eq]
              cases hl : s.data.toList with
              | nil => have h2 := congrArg List.length hl; simp at h2; exact absurd (by simp [ByteArray.size, h2]) hs0
              | cons _ _ => rfl
            by_cases hlen : (dig (v / n)).size + t.size < s.size
            · have hlen' : ((dig (v / n)).size : Int) + (t.size : Int) < (s.size : Int) := by omega
              go_wp2_with fail
              go_roundg (12 - (k + 1))
              case measure => have := R.out.1; omega
              case rel => exact ⟨k + 1, by omega, rfl, by go_num, by rw [ST.out, if_pos (Or.inr (by rw [ByteArray.size_append]; exact hlen))], BB.out⟩
            · have hlen' : decide (((dig (v / n)).size : Int) + (t.size : Int) < (s.size : Int)) = false := by rw [decide_eq_false_iff_not]; omega
              have hlen2 : decide ((dig (v / n)).size + t.size < s.size) = false := by rw [decide_eq_false_iff_not]; exact hlen
              go_wp2_with fail
              go_roundg (12 - (k + 1))
              case measure => have := R.out.1; omega
              case rel => exact ⟨k + 1, by omega, rfl, by go_num, by rw [ST.out, if_neg (by rw [ByteArray.size_append]; rintro (h | h); exact hs0 h; exact hlen h)], BB.out⟩
      · have hd' : ¬ (v : Int) % (n : Int) = 0 := by omega
        have ST : Aside (best v (k + 1) = best v k) := by
          show best v (k + 1) = _
          rw [best, ← NE.out.1, if_neg hd]
        go_wp2_with fail
        go_roundg (12 - (k + 1))
        case measure => have := R.out.1; omega
        case rel => exact ⟨k + 1, by omega, rfl, by go_num, by rw [ST.out], R.out.2.trans (((Below.refl _ _).alloc (Nat.le_refl _) _).mono R.out.2.size)⟩
    · obtain rfl : k = 12 := by omega
      go_wp2_with fail
      go_ret
      exact ⟨rfl, R.out.2⟩
end Go.Proofs.YtmkdmfjdhajiaaaGreatDoor
