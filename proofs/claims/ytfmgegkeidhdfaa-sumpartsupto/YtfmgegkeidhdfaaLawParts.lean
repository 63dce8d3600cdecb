/-
  THE WALK of SumParts.
-/
import Derived.Test.YtfmgegkeidhdfaaRef6
import Derived.Deep.QuietTactic
import Derived.BigQuiet
namespace Go.Proofs.Ytfmgegkeidhdfaa
open Go.RowKit

theorem info_slice : (Try.prog.info? 28).map (fun i => (i.zero, i.size, i.bytes)) = some (some (.slice none 0 0), 1, 24) := by kernel_rfl
theorem apartL {B B' n : Nat} {w : World} {vo p : Value} {xs : List Value} {l : List (BitVec 8)} (h : w.ownsRow B 28 1 vo n xs) (hp : Own B' w p l) : p.ownBlock = none ∨ p.ownBlock ≠ vo.ownBlock := by
  obtain ⟨_, ⟨hv, _⟩ | ⟨g, cap, cur, hv, hB, hg, _⟩⟩ := hp
  · subst hv; exact Or.inl rfl
  · subst hv
    obtain ⟨_, ⟨hv', _⟩ | ⟨g', cap', cur', hv', hB', hg', _⟩⟩ := h
    · subst hv'; exact Or.inr (by simp [Value.ownBlock])
    · subst hv'
      refine Or.inr fun e => ?_
      simp only [Value.ownBlock, Option.some.injEq] at e
      rw [e] at hg
      rw [hg] at hg'
      simp at hg'
theorem new_cell1 (e : TypeId) (w : World) (x : Value) : ∀ j v, [x][j]? = some v → (w.alloc (.cells #[x] e)).cell? ((⟨w.heap.size, 0, none⟩ : Addr).add j) = some v := by
  intro j v hv
  rw [add_plain, Nat.zero_add, World.cell?_alloc_new, ← Array.getElem?_toList]; exact hv
/-- The list made so far: so many slices of the own call own. -/
def Made (B : Nat) (w : World) (vo : Value) (ls : List (List (BitVec 8))) (k : Nat) : Prop :=
  ∃ ps : List Value, ps.length = k ∧ w.ownsRow B 28 1 vo k ps ∧ ∀ j, j < k → Own B w (ps.getD j undef) (ls.getD j [])
theorem Made.below {B k : Nat} {w w' : World} {vo : Value} {ls : List (List (BitVec 8))} (h : Made B w vo ls k) (hb : Below w.heap.size w w') : Made B w' vo ls k := by
  obtain ⟨ps, h0, h1, h2⟩ := h
  exact ⟨ps, h0, owns_below h1 hb, fun j hj => (h2 j hj).below hb⟩
theorem made_more {B k : Nat} {w w' : World} {vo vo' p : Value} {ls : List (List (BitVec 8))} {o : Obj} {ps : List Value} (h0 : ps.length = k) (h1 : w.ownsRow B 28 1 vo k ps) (h2 : ∀ j, j < k → Own B w (ps.getD j undef) (ls.getD j []))
    (hp : Own B w p (ls.getD k [])) (hg : (w.alloc o).grownBy w' vo.ownBlock) (ho : w'.ownsRow B 28 1 vo' (k + 1) (ps ++ [p])) : Made B w' vo' ls (k + 1) := by
  have keep : ∀ q l, Own B w q l → Own B w' q l := fun q l hq => by
    have hq' : Own B (w.alloc o) q l := hq.below ((Below.refl _ _).alloc (Nat.le_refl _) _)
    exact World.ownsRow.kept hq' hg (apartL (h1.alloc o) hq')
  refine ⟨ps ++ [p], by simp [h0], ho, fun j hj => ?_⟩
  by_cases q : j < k
  · have e : (ps ++ [p]).getD j undef = ps.getD j undef := by simp only [List.getD, List.getElem?_append_left (show j < ps.length by omega)]
    rw [e]; exact keep _ _ (h2 j q)
  · obtain rfl : j = k := by omega
    have e : (ps ++ [p]).getD j undef = p := by simp [List.getD, ← h0]
    rw [e]; exact keep _ _ hp
theorem Made.lists {B : Nat} {w : World} {vo : Value} {ls : List (List (BitVec 8))} (h : Made B w vo ls ls.length) : Lists w vo ls := by
  obtain ⟨ps, h0, h1, h2⟩ := h
  obtain ⟨_, ⟨hv, hn⟩ | ⟨g, cap, cur, hv, hB, hg, hn, hm, hs, ht⟩⟩ := h1
  · exact ⟨none, 0, by rw [hv, hn], by omega, by decide, fun k hk => by omega⟩
  · refine ⟨_, cap, hv, hn, hm, fun k hk => ⟨g, 0, ps.getD k undef, rfl, ?_, (h2 k hk).bytes⟩⟩
    rw [cell_of_row w g (0 + k) cur _ _ hg, Nat.zero_add, ← Array.getElem?_toList]
    have e : (cur.toList.take (ls.length * 1))[k]? = cur.toList[k]? := by rw [List.getElem?_take_of_lt (by omega)]
    rw [← e, ht]
    simp [List.getD, show k < ps.length by omega]

set_option maxHeartbeats 2000000 in
theorem sumParts_walk (v : Value) (ls : List (List (BitVec 8))) (w : World) (b : Lists w v ls) (s : ls.flatten.length ≤ 1048576) (s2 : ls.length ≤ 1048576) :
    Calls Try.prog 8 #[v] w fun e w' => e = .returned (.bool true) ∧ Below w.heap.size w w' := by
  obtain ⟨i1, hi1, hy0, hy1, hy2⟩ := info_parts info_slice
  have V : Aside (Lists w v ls) := b
  obtain ⟨a, cap, rfl, hlc, hcm, _⟩ := b
  unfold maxLen at hcm
  go_enter Try.func8, Try.ntmps8
  go_wp2_with fail
  refine (fixed_any _).mono ?_
  rintro e w1 ⟨rfl, hb⟩
  have B1 : Aside (Below w.heap.size w w1) := hb
  have V1 : Aside (Lists w1 (.slice a ls.length cap) ls) := V.out.below hb
  clear hb
  go_wp2_with fail
  go_loopg [4, 5] ls.length (fun g so si wr => ∃ (k : Nat) (vo : Value), k ≤ ls.length ∧ g = ls.length - k ∧ si = .int .i64 k ∧ vo = so ∧ Made w1.heap.size wr vo ls k ∧ Below w1.heap.size w1 wr)
  case atStart => exact ⟨0, _, Nat.zero_le _, rfl, rfl, rfl, ⟨[], rfl, World.ownsRow_nil w1 _ _ _, fun j hj => by omega⟩, Below.refl _ _⟩
  case round =>
    obtain ⟨k, vo, hk, hg, rfl, rfl, ho, hb⟩ := hrel
    have R : Aside (gk = ls.length - k ∧ Made w1.heap.size wr vo ls k ∧ Below w1.heap.size w1 wr) := ⟨hg, ho, hb⟩
    clear hg ho hb
    by_cases hlt : k < ls.length
    · obtain ⟨l, hl0⟩ : ∃ l, l = ls.getD k [] := ⟨_, rfl⟩
      have P : Aside (∃ b off ap cp, a = some ⟨b, off, none⟩ ∧ wr.cell? ⟨b, off + k, none⟩ = some (.slice ap l.length cp) ∧ Bytes wr (.slice ap l.length cp) l) := by
        obtain ⟨aa, cc, e, _, _, hcl⟩ := V1.out.below R.out.2.2
        simp only [Value.slice.injEq, true_and] at e
        obtain ⟨rfl, rfl⟩ := e
        obtain ⟨b, off, p, ea, hc, hp⟩ := hcl k hlt
        rw [← hl0] at hp
        obtain ⟨ap, cp, rfl, _⟩ := id hp
        exact ⟨b, off, ap, cp, ea, hc, hp⟩
      obtain ⟨b, off, ap, cp, rfl, hcell, hby⟩ := P.out
      have E : Aside (l = ls.getD k [] ∧ Bytes wr (.slice ap l.length cp) l) := ⟨hl0, hby⟩
      have hll : l.length ≤ 1048576 := by
        have := flat_le ls k l.length hlt (by rw [← hl0]; exact Nat.le_refl _)
        rw [← hl0, List.take_length, List.length_append] at this; omega
      clear hl0 P hby
      go_wp2_with fail
      refine (dup_any _ l _ E.out.2 (by omega)).mono ?_
      rintro e w2 ⟨v2, rfl, ho, hb⟩
      have O2 : Aside (Own w1.heap.size w2 v2 l ∧ Made w1.heap.size w2 vo ls k ∧ Below w1.heap.size w1 w2) :=
        ⟨ho.mono R.out.2.2.size, R.out.2.1.below hb, R.out.2.2.trans (hb.mono R.out.2.2.size)⟩
      obtain ⟨a2, c2, rfl⟩ : ∃ a2 c2, v2 = .slice a2 l.length c2 := by
        obtain ⟨a2, c2, e, _⟩ := ho.bytes; exact ⟨a2, c2, e⟩
      clear ho hb
      have M : Aside (∃ ps : List Value, ps.length = k ∧ w2.ownsRow w1.heap.size 28 1 vo k ps ∧ ∀ j, j < k → Own w1.heap.size w2 (ps.getD j undef) (ls.getD j [])) := O2.out.2.1
      obtain ⟨ps, hps⟩ := M.out
      have PS : Aside (ps.length = k ∧ w2.ownsRow w1.heap.size 28 1 vo k ps ∧ ∀ j, j < k → Own w1.heap.size w2 (ps.getD j undef) (ls.getD j [])) := hps
      clear hps M
      have S : Hid (w1.heap.size ≤ w2.heap.size) := O2.out.2.2.size
      go_wp2_with (at_builtin; refine wpList_append_own _ rfl _ _ 42 rfl w1.heap.size 28 i1 (.slice none 0 0) 1 24 Try.underlying42 hi1 hy0 hy1 hy2 rfl (by decide) vo k ps rfl (PS.out.2.1.alloc _) ⟨w2.heap.size, 0, none⟩ 1 1 [.slice a2 l.length c2] rfl rfl ?c1 ?c2 ?c3 ?c4 ?c5 ?_)
      case c1 => exact new_cell1 _ _ _
      case c2 => intro v hv; simp only [List.mem_cons, List.not_mem_nil, or_false] at hv; rw [hv]; rfl
      case c3 => unfold maxLen; omega
      case c4 => omega
      case c5 => have := S.out; simp; omega
      intro v' w' ho hg hnil
      have A : Aside (Made w1.heap.size w' v' ls (k + 1) ∧ Below w1.heap.size w1 w') :=
        ⟨made_more PS.out.1 PS.out.2.1 PS.out.2.2 (by rw [← E.out.1]; exact O2.out.1) hg ho, (O2.out.2.2.alloc O2.out.2.2.size _).grown hg (by have := S.out; simp; omega) (fun j hj => (World.ownsRow.lt PS.out.2.1 j hj).1)⟩
      clear ho hg hnil PS S O2
      go_wp2_with fail
      go_roundg (ls.length - (k + 1))
      case measure => have := R.out.1; omega
      case rel => exact ⟨k + 1, v', by omega, rfl, by go_num, rfl, A.out.1, A.out.2⟩
    · obtain ⟨w2, hw2⟩ : ∃ w2, w2 = wr := ⟨_, rfl⟩
      subst hw2
      have R1 : Aside (Lists w2 vo ls ∧ Below w.heap.size w w2) := by
        obtain ⟨_, ho, hb⟩ := R.out
        obtain rfl : k = ls.length := by omega
        exact ⟨ho.lists, B1.out.trans (hb.mono B1.out.size)⟩
      clear R
      obtain ⟨ao, co, rfl⟩ : ∃ ao co, vo = .slice ao ls.length co := by
        obtain ⟨ao, co, e, _⟩ := R1.out.1; exact ⟨ao, co, e⟩
      go_wp2_with fail
      refine (parts_any _ ls w2 R1.out.1).mono ?_
      rintro e w3 ⟨r1, rfl, e1, hb⟩
      have R3 : Aside (Lists w3 (.slice ao ls.length co) ls ∧ Below w.heap.size w w3) := ⟨R1.out.1.below hb, R1.out.2.trans (hb.mono R1.out.2.size)⟩
      clear hb R1
      go_wp2_with fail
      refine (rparts_any _ ls w3 (V.out.below R3.out.2) (by omega)).mono ?_
      rintro e w4 ⟨r2, rfl, e2, hb⟩
      have R4 : Aside (Lists w4 (.slice ao ls.length co) ls ∧ Lists w4 (.slice a ls.length cap) ls ∧ Below w.heap.size w w4) := ⟨R3.out.1.below hb, (V.out.below R3.out.2).below hb, R3.out.2.trans (hb.mono R3.out.2.size)⟩
      have E : r1 = r2 := by rw [e1.out, e2.out]
      clear hb R3 e1 e2 V V1 B1
      subst E
      go_wp2_with fail
      go_loopg [6] ls.length (fun g si wr => ∃ (k : Nat), k ≤ ls.length ∧ g = ls.length - k ∧ si = .int .i64 k ∧ Below w4.heap.size w4 wr)
      case atStart => exact ⟨0, Nat.zero_le _, rfl, rfl, Below.refl _ _⟩
      case round =>
        obtain ⟨k, hk, hg, rfl, hb⟩ := hrel
        have R : Aside (gk = ls.length - k ∧ Below w4.heap.size w4 wr) := ⟨hg, hb⟩
        clear hg hb
        by_cases hlt : k < ls.length
        · have P : Aside (∃ b off p, ao = some ⟨b, off, none⟩ ∧ wr.cell? ⟨b, off + k, none⟩ = some p ∧ Bytes wr p (ls.getD k [])) := by
            obtain ⟨aa, cc, e, _, _, hcl⟩ := R4.out.1.below R.out.2
            simp only [Value.slice.injEq, true_and] at e
            obtain ⟨rfl, rfl⟩ := e
            exact hcl k hlt
          have P' : Aside (∃ b off p, a = some ⟨b, off, none⟩ ∧ wr.cell? ⟨b, off + k, none⟩ = some p ∧ Bytes wr p (ls.getD k [])) := by
            obtain ⟨aa, cc, e, _, _, hcl⟩ := R4.out.2.1.below R.out.2
            simp only [Value.slice.injEq, true_and] at e
            obtain ⟨rfl, rfl⟩ := e
            exact hcl k hlt
          obtain ⟨b1, off1, p1, rfl, hc1, hy1⟩ := P.out
          obtain ⟨b2, off2, p2, rfl, hc2, hy2⟩ := P'.out
          have Y : Aside (Bytes wr p1 (ls.getD k []) ∧ Bytes wr p2 (ls.getD k [])) := ⟨hy1, hy2⟩
          obtain ⟨a1, c1, rfl, _, _, _, _⟩ := hy1
          obtain ⟨a2, c2, rfl, _, _, _, _⟩ := hy2
          obtain ⟨n, hn⟩ : ∃ n, n = (ls.getD k []).length := ⟨_, rfl⟩
          rw [← hn] at hc1 hc2 Y
          clear hn P P'
          have i1 : (k : Int) < (ls.length : Int) := by omega
          have i0 : (0 : Int) ≤ (k : Int) := by omega
          go_wp2_with fail
          go_quiet (first | (go_at_call 15; refine Calls.quiet_of_same (same_yes _ _ (ls.getD k []) _ (Y.out.1.drewN _) (Y.out.2.drewN _))))
          go_wp2_with fail
          go_roundg (ls.length - (k + 1))
          case measure => have := R.out.1; omega
          case rel => exact ⟨k + 1, by omega, rfl, by go_num, R.out.2.trans ⟨rfl, rfl, rfl, Nat.le_refl _, fun _ _ => rfl⟩⟩
        · go_wp2_with fail
          go_ret
          exact ⟨rfl, R4.out.2.2.trans (R.out.2.mono R4.out.2.2.size)⟩
end Go.Proofs.Ytfmgegkeidhdfaa
