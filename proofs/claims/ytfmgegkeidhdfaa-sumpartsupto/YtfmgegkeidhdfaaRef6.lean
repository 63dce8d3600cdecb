/-
  THE WALKS of the documents answer: Parts.
-/
import Derived.Test.YtfmgegkeidhdfaaRef1
import Derived.Test.YtfmgegkeidhdfaaRef3a
import Derived.Test.YtfmgegkeidhdfaaWalk9
namespace Go.Proofs.Ytfmgegkeidhdfaa
open Go.RowKit

theorem flat_le (ls : List (List (BitVec 8))) (k j : Nat) (h1 : k < ls.length) (h2 : j ≤ (ls.getD k []).length) :
    ((ls.take k).flatten ++ (ls.getD k []).take j).length ≤ ls.flatten.length := by
  have e : ls.flatten = (ls.take (k + 1)).flatten ++ (ls.drop (k + 1)).flatten := by
    rw [← List.flatten_append, List.take_append_drop]
  rw [e, flat_one ls k h1]
  simp only [List.length_append, List.length_take]
  omega

set_option maxHeartbeats 2000000 in
theorem rparts_any (v : Value) (ls : List (List (BitVec 8))) (w : World) (hv : Lists w v ls) (hl : ls.flatten.length ≤ 140737488355327) :
    Calls Try.prog 20 #[v] w fun e w' => ∃ r, e = .returned (.int .u32 (u r)) ∧ Aside (r = upd 0#32 ls.flatten) ∧ Below w.heap.size w w' := by
  obtain ⟨i0, hi, hz0, hz1, hz2⟩ := info_parts info_byte
  have V : Aside (Lists w v ls) := hv
  obtain ⟨a, cap, rfl, hlc, hcm, _⟩ := hv
  unfold maxLen at hcm
  go_enter Try.func20, Try.ntmps20
  go_wp2_with fail
  go_loopg [3, 4, 5] ls.length (fun g so si sj wr => ∃ (k : Nat) (vo vj : Value), k ≤ ls.length ∧ g = ls.length - k ∧ si = .int .i64 k ∧ vo = so ∧ vj = sj ∧ Own w.heap.size wr vo (ls.take k).flatten ∧ Below w.heap.size w wr)
  case atStart => exact ⟨0, _, _, Nat.zero_le _, rfl, rfl, rfl, rfl, World.ownsRow_nil w _ _ _, Below.refl _ _⟩
  case round =>
    obtain ⟨k, vo, vj, hk, hg, rfl, rfl, rfl, ho, hb⟩ := hrel
    have R : Aside (gk = ls.length - k ∧ Own w.heap.size wr vo (ls.take k).flatten ∧ Below w.heap.size w wr) := ⟨hg, ho, hb⟩
    clear hg ho hb
    by_cases hlt : k < ls.length
    · obtain ⟨l, hl0⟩ : ∃ l, l = ls.getD k [] := ⟨_, rfl⟩
      have P : Aside (∃ b off ap cp, a = some ⟨b, off, none⟩ ∧ w.cell? ⟨b, off + k, none⟩ = some (.slice ap l.length cp) ∧ Bytes w (.slice ap l.length cp) l) := by
        obtain ⟨aa, cc, e, _, _, hcl⟩ := V.out
        simp only [Value.slice.injEq, true_and] at e
        obtain ⟨rfl, rfl⟩ := e
        obtain ⟨b, off, p, ea, hc, hp⟩ := hcl k hlt
        rw [← hl0] at hp
        obtain ⟨ap, cp, rfl, _⟩ := id hp
        exact ⟨b, off, ap, cp, ea, hc, hp⟩
      obtain ⟨b, off, ap, cp, rfl, hcell, hby⟩ := P.out
      have E : Aside (l = ls.getD k [] ∧ w.cell? ⟨b, off + k, none⟩ = some (.slice ap l.length cp) ∧ Bytes w (.slice ap l.length cp) l) := ⟨hl0, hcell, hby⟩
      clear hl0 P hby hcell
      have hcp : l.length ≤ 140737488355327 := by
        have := flat_le ls k l.length hlt (by rw [← E.out.1]; exact Nat.le_refl _)
        rw [← E.out.1, List.take_length, List.length_append] at this; omega
      go_wp2_with fail
      go_loopg [3, 5] l.length (fun g so sj wq => ∃ (j : Nat) (vp : Value), j ≤ l.length ∧ g = l.length - j ∧ sj = .int .i64 j ∧ vp = so ∧ Own w.heap.size wq vp ((ls.take k).flatten ++ l.take j) ∧ Below w.heap.size w wq)
      case atStart => exact ⟨0, _, Nat.zero_le _, rfl, rfl, rfl, by simpa using R.out.2.1, R.out.2.2⟩
      case round =>
        obtain ⟨j, vp, hj, hg, rfl, rfl, ho, hb⟩ := hrel
        have R2 : Aside (gk = l.length - j ∧ Own w.heap.size wr vp ((ls.take k).flatten ++ l.take j) ∧ Below w.heap.size w wr) := ⟨hg, ho, hb⟩
        clear hg ho hb
        have hcell : wr.cell? ⟨b, off + k, none⟩ = some (.slice ap l.length cp) := by
          rw [R2.out.2.2.cell (p := ⟨b, off + k, none⟩) (block_lt_of_cell E.out.2.1)]; exact E.out.2.1
        by_cases hjl : j < l.length
        · obtain ⟨c, hc⟩ : ∃ c, c = l.getD j 0#8 := ⟨_, rfl⟩
          obtain ⟨b1, off1, rfl, hc1⟩ : ∃ b1 off1, ap = some ⟨b1, off1, none⟩ ∧ wr.cell? ⟨b1, off1 + j, none⟩ = some (.int .u8 (c8 c)) := by
            obtain ⟨aa, cc, e, _, _, _, hcl⟩ := E.out.2.2.below R2.out.2.2
            simp only [Value.slice.injEq, true_and] at e
            obtain ⟨rfl, rfl⟩ := e
            rw [hc]; exact hcl j hjl
          have C : Aside (c = l.getD j 0#8) := hc
          clear hc
          obtain ⟨n, hn⟩ : ∃ n, n = ((ls.take k).flatten ++ l.take j).length := ⟨_, rfl⟩
          obtain ⟨xs, hxs⟩ : ∃ xs, xs = cells8 ((ls.take k).flatten ++ l.take j) := ⟨_, rfl⟩
          have O : Hid (wr.ownsRow w.heap.size 5 1 vp n xs) := by rw [hn, hxs]; exact R2.out.2.1
          have NL : Aside (n = ((ls.take k).flatten ++ l.take j).length ∧ xs = cells8 ((ls.take k).flatten ++ l.take j)) := ⟨hn, hxs⟩
          have nle : n ≤ 140737488355327 := by
            rw [hn]; have := flat_le ls k j hlt (by rw [← E.out.1]; exact hj); rw [← E.out.1] at this; omega
          clear hn hxs
          have S : Hid (w.heap.size ≤ wr.heap.size) := R2.out.2.2.size
          go_wp2_with (at_builtin; refine wpList_append_own _ rfl _ _ 28 rfl w.heap.size 5 i0 (.int .u8 0) 1 1 Try.underlying28 hi hz0 hz1 hz2 rfl (by decide) vp n xs rfl (O.out.alloc _) ⟨wr.heap.size, 0, none⟩ 1 1 [.int .u8 (c8 c)] rfl rfl ?c1 ?c2 ?c3 ?c4 ?c5 ?_)
          case c1 => exact one_cell
          case c2 => intro v hv; simp only [List.mem_cons, List.not_mem_nil, or_false] at hv; rw [hv]; rfl
          case c3 => unfold maxLen; omega
          case c4 => omega
          case c5 => have := S.out; simp; omega
          intro v' w' ho hg hnil
          have A : Aside (Own w.heap.size w' v' ((ls.take k).flatten ++ l.take j ++ [c]) ∧ Below w.heap.size w w') :=
            ⟨own_more (by rw [← NL.out.1, ← NL.out.2]; exact ho), below_more R2.out.2.2 R2.out.2.1 R2.out.2.2.size hg⟩
          clear ho hg hnil O S
          go_wp2_with fail
          go_roundg (l.length - (j + 1))
          case measure => have := R2.out.1; omega
          case rel => exact ⟨j + 1, v', by omega, rfl, by go_num, rfl, by rw [take_one l j 0#8 hjl, ← List.append_assoc, ← C.out]; exact A.out.1, A.out.2⟩
        · go_wp2_with fail
          go_roundg (ls.length - (k + 1))
          case measure => have := R.out.1; omega
          case rel =>
            refine ⟨k + 1, vp, _, by omega, rfl, by go_num, rfl, rfl, ?_, R2.out.2.2⟩
            have o := R2.out.2.1
            rw [List.take_of_length_le (l := l) (show l.length ≤ j by omega), E.out.1, ← flat_one ls k hlt] at o
            exact o
    · obtain ⟨w1, hw1⟩ : ∃ w1, w1 = wr := ⟨_, rfl⟩
      subst hw1
      have R1 : Aside (Own w.heap.size w1 vo ls.flatten ∧ Below w.heap.size w w1) := by
        obtain ⟨_, ho, hb⟩ := R.out
        rw [List.take_of_length_le (by omega)] at ho; exact ⟨ho, hb⟩
      clear R
      go_wp2_with fail
      refine (rsum_any vo ls.flatten w1 R1.out.1.bytes).mono ?_
      rintro e w1' ⟨rfl, rfl⟩
      go_wp2_with fail
      go_ret
      exact ⟨_, rfl, rfl, R1.out.2⟩
end Go.Proofs.Ytfmgegkeidhdfaa
