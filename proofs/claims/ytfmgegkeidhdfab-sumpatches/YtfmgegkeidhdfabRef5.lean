/-
  THE WALKS of the documents answer: Patch.
-/
import Derived.Test.YtfmgegkeidhdfabRef2
import Derived.Test.YtfmgegkeidhdfabRef3
import Derived.Deep.RegionLaw
import Derived.RegionTactic
namespace Go.Proofs.Ytfmgegkeidhdfab
open Go.RowKit

/-- An append onto a row of the own call own, as one step of a region that draws its order. -/
theorem step_append_own {P : Program} {ops : Array Oper} {o : Oper} {a : Act} {w : World} {K : Act → World → Prop} {Q : Exit → Act → World → Prop} {E : Prop}
    (hgd : o.guard = none) (s x : Operand) (t : TypeId) (ho : o.op = .call { callee := .builtin .append, args := #[s, x], argTypes := #[t, t] })
    (base : Nat) (e : TypeId) (i : TypeInfo) (z : Value) (size bytes : Nat) (ht : P.underlying t = some (.slice e)) (hi : P.info? e = some i) (hz : i.zero = some z)
    (hsize : i.size = size) (hby : i.bytes = bytes) (hzs : z.cells.size = size) (hsz : 0 < size)
    (v : Value) (n : Nat) (xs : List Value) (hs : a.eval s = v) (hown : w.ownsRow base e size v n xs)
    (ad : Addr) (m c : Nat) (news : List Value) (hx : a.eval x = .slice (some ad) m c) (hl : news.length = m * size) (hnews : ∀ j u, news[j]? = some u → w.cell? (ad.add j) = some u) (h1 : ∀ u ∈ news, u.oneCell' = true)
    (h63 : n + m ≤ maxLen) (hbytes : (n + m) * bytes ≤ 140737488355328) (hbase : base ≤ w.heap.size)
    (h : ∀ v' w', w'.ownsRow base e size v' (n + m) (xs ++ news) → w.grownBy w' v.ownBlock → K (a.put o.dst v') w') :
    if Region.wanted o (yielded ops a.tmps) = true then Oper.wp P o a w K Q else E := by
  have hw : Region.wanted o (yielded ops a.tmps) = true := by simp [Region.wanted, hgd]
  rw [if_pos hw]
  exact wp_append_own w s x t ho base e i z size bytes ht hi hz hsize hby hzs hsz v n xs hs hown ad m c news hx hl hnews h1 h63 hbytes hbase fun v' w' h2 h3 _ => h v' w' h2 h3

theorem below_more_drew {B : Nat} {w0 w w' : World} {v : Value} {l : List (BitVec 8)} {o : Obj} (hb : Below B w0 w) (ho : Own B w v l) (hB : B ≤ w.heap.size) (hg : (w.alloc o).drew.grownBy w' v.ownBlock) : Below B w0 w' :=
  (hb.alloc hB o).drew.grown hg (by show B ≤ (w.alloc o).heap.size; simp; omega) (fun k hk => (World.ownsRow.lt ho k hk).1)
/-- The two strings, one laid over the other. -/
def xors (l m : List (BitVec 8)) : List (BitVec 8) := List.zipWith (· ^^^ ·) l m
theorem over_xors (l m : List (BitVec 8)) (h : m.length = l.length) (y z : BitVec 32) : over (y ^^^ z) (xors l m) = over y l ^^^ over z m := by
  induction l generalizing m y z with
  | nil => cases m with
    | nil => rfl
    | cons c m => simp at h
  | cons c l ih => cases m with
    | nil => simp at h
    | cons d m =>
      show over (by1 (y ^^^ z) (c ^^^ d)) (xors l m) = over (by1 y c) l ^^^ over (by1 z d) m
      rw [← ih m (by simpa using h)]
      congr 1
      unfold by1
      rw [← shN_xor]
      congr 1
      have e : (c ^^^ d).zeroExtend 32 = c.zeroExtend 32 ^^^ d.zeroExtend 32 := by
        apply BitVec.eq_of_getLsbD_eq; intro i hi; simp [hi]
      rw [e]; ac_rfl
theorem upd_xors (l m : List (BitVec 8)) (h : m.length = l.length) : over 0#32 (xors l m) = upd 0#32 l ^^^ upd 0#32 m := by
  have e := over_xors l m h (~~~ 0#32) (~~~ 0#32)
  rw [BitVec.xor_self] at e
  rw [e]; unfold upd
  generalize over (~~~ 0#32) l = a
  generalize over (~~~ 0#32) m = b
  rw [← BitVec.xor_allOnes, ← BitVec.xor_allOnes, show a ^^^ BitVec.allOnes 32 ^^^ (b ^^^ BitVec.allOnes 32) = a ^^^ b ^^^ (BitVec.allOnes 32 ^^^ BitVec.allOnes 32) by ac_rfl, BitVec.xor_self, BitVec.xor_zero]
theorem xors_one (l m : List (BitVec 8)) (k : Nat) (h1 : k < l.length) (h2 : k < m.length) : xors (l.take (k + 1)) (m.take (k + 1)) = xors (l.take k) (m.take k) ++ [l.getD k 0#8 ^^^ m.getD k 0#8] := by
  unfold xors
  rw [take_one l k 0#8 h1, take_one m k 0#8 h2, List.zipWith_append (by rw [List.length_take, List.length_take]; omega)]; rfl
theorem xors_length (l m : List (BitVec 8)) (k : Nat) (h1 : k ≤ l.length) (h2 : k ≤ m.length) : (xors (l.take k) (m.take k)).length = k := by
  unfold xors; rw [List.length_zipWith, List.length_take, List.length_take]; omega

theorem rzeros_eq {a : Int} {x : BitVec 32} (ha : a = u x) {k : Int} (n : Nat) (hk : k = n) (hn : n < 9223372036854775808) (w : World) :
    Calls Try.prog 28 #[.int .u32 a, .int .i64 k] w fun e w' => ∃ r, e = .returned (.int .u32 (u r)) ∧ Aside (r = shN (8 * n) x) ∧ w' = w := by
  rw [ha, hk]; exact (rzeros_any x n hn w).mono fun e w' h => ⟨_, h.1, rfl, h.2⟩

set_option maxHeartbeats 2000000 in
theorem rpatch_any (x : BitVec 32) (n at' : Nat) (v v' : Value) (l m : List (BitVec 8)) (w : World) (hv : Bytes w v l) (hv' : Bytes w v' m)
    (hn : n ≤ 1099511627776) (hl : m.length = l.length) (hr : at' + l.length ≤ n) :
    Calls Try.prog 19 #[.int .u32 (u x), .int .i64 n, .int .i64 at', v, v'] w fun e w' => ∃ r, e = .returned (.tuple #[.int .u32 (u r), .int .i64 0]) ∧ Aside (r = patch x (n - at' - l.length) l m) ∧ Below w.heap.size w w' := by
  obtain ⟨i0, hi, hz0, hz1, hz2⟩ := info_parts info_byte
  have V : Aside (Bytes w v l) := hv
  have V' : Aside (Bytes w v' m) := hv'
  obtain ⟨a, cap, rfl, hlc, hcm, _, _⟩ := hv
  obtain ⟨a', cap', rfl, hlc', hcm', _, _⟩ := hv'
  have L : Aside (m.length = l.length) := hl
  rw [hl] at V' hlc' ⊢
  have c1 : ((l.length : Int) != (l.length : Int)) = false := by simp
  have c2 : ¬ ((n : Int) < 0) := by omega
  have c3 : ¬ ((1099511627776 : Int) < (n : Int)) := by omega
  have c4 : ¬ ((at' : Int) < 0) := by omega
  have c5 : ¬ ((n : Int) < (at' : Int)) := by omega
  have c6 : ¬ ((n : Int) - (at' : Int) < (l.length : Int)) := by omega
  clear hl
  go_enter Try.func19, Try.ntmps19
  go_wp2_with fail
  go_loopg [12, 13] l.length (fun g so si wr => ∃ (k : Nat) (vo : Value), k ≤ l.length ∧ g = l.length - k ∧ si = .int .i64 k ∧ vo = so ∧ Own w.heap.size wr vo (xors (l.take k) (m.take k)) ∧ Below w.heap.size w wr)
  case atStart => exact ⟨0, _, Nat.zero_le _, rfl, rfl, rfl, World.ownsRow_nil w _ _ _, Below.refl _ _⟩
  case round =>
    obtain ⟨k, vo, hk, hg, rfl, rfl, ho, hb⟩ := hrel
    have R : Aside (gk = l.length - k ∧ Own w.heap.size wr vo (xors (l.take k) (m.take k)) ∧ Below w.heap.size w wr) := ⟨hg, ho, hb⟩
    clear hg ho hb
    by_cases hlt : k < l.length
    · obtain ⟨c, hc⟩ : ∃ c, c = l.getD k 0#8 := ⟨_, rfl⟩
      obtain ⟨d, hd⟩ : ∃ d, d = m.getD k 0#8 := ⟨_, rfl⟩
      obtain ⟨b1, off1, rfl, hc1⟩ : ∃ b1 off1, a = some ⟨b1, off1, none⟩ ∧ wr.cell? ⟨b1, off1 + k, none⟩ = some (.int .u8 (c8 c)) := by
        obtain ⟨aa, cc, e, _, _, _, hcl⟩ := V.out.below R.out.2.2
        simp only [Value.slice.injEq, true_and] at e
        obtain ⟨rfl, rfl⟩ := e
        rw [hc]; exact hcl k hlt
      obtain ⟨b2, off2, rfl, hc2⟩ : ∃ b2 off2, a' = some ⟨b2, off2, none⟩ ∧ wr.cell? ⟨b2, off2 + k, none⟩ = some (.int .u8 (c8 d)) := by
        obtain ⟨aa, cc, e, _, _, _, hcl⟩ := V'.out.below R.out.2.2
        simp only [Value.slice.injEq] at e
        rw [hd, e.1]; exact hcl k (by rw [L.out]; exact hlt)
      have C : Aside (c = l.getD k 0#8 ∧ d = m.getD k 0#8) := ⟨hc, hd⟩
      clear hc hd
      have O : Hid (wr.ownsRow w.heap.size 5 1 vo k (cells8 (xors (l.take k) (m.take k)))) := by
        have := R.out.2.1; unfold Own at this; rw [xors_length l m k hk (by rw [L.out]; exact hk)] at this; exact this
      have S : Hid (w.heap.size ≤ wr.heap.size) := R.out.2.2.size
      obtain ⟨z, hz⟩ : ∃ z, z = c ^^^ d := ⟨_, rfl⟩
      have ez : bits .xor .u8 (c8 c) (c8 d) = c8 z := by rw [hz]; exact bits_xor_c c d
      have Z : Aside (z = c ^^^ d) := hz
      clear hz
      have s2 : Hid (∀ v ∈ [Value.int .u8 (c8 z)], v.oneCell' = true) := fun v hv => by simp only [List.mem_cons, List.not_mem_nil, or_false] at hv; rw [hv]; rfl
      have s3 : Hid (k + 1 ≤ maxLen) := by show k + 1 ≤ maxLen; unfold maxLen; omega
      have s4 : Hid ((k + 1) * 1 ≤ 140737488355328) := by show (k + 1) * 1 ≤ 140737488355328; omega
      have s5 : Hid (∀ o, w.heap.size ≤ (wr.alloc o).heap.size) := fun o => by have := S.out; simp; omega
      go_wp2_with fail
      go_region_law (refine step_append_own rfl _ _ 22 rfl w.heap.size 5 i0 (.int .u8 0) 1 1 Try.underlying22 hi hz0 hz1 hz2 rfl (by decide) vo k (cells8 (xors (l.take k) (m.take k))) rfl (O.out.alloc _) ⟨wr.heap.size, 0, none⟩ 1 1 [.int .u8 (c8 z)] rfl rfl one_cell s2.out s3.out s4.out (s5.out _) ?_; intro v' w' ho hg)
      all_goals
        have A : Aside (Own w.heap.size w' v' (xors (l.take k) (m.take k) ++ [z]) ∧ Below w.heap.size w w') :=
          ⟨own_more (by rw [xors_length l m k hk (by rw [L.out]; exact hk)]; exact ho), below_more_drew R.out.2.2 R.out.2.1 R.out.2.2.size hg⟩
        clear ho hg O S s2 s3 s4 s5
        go_wp2_with fail
        go_roundg (l.length - (k + 1))
        case measure => have := R.out.1; omega
        case rel => exact ⟨k + 1, v', by omega, rfl, by go_num, rfl, by rw [xors_one l m k hlt (by rw [L.out]; exact hlt), ← C.out.1, ← C.out.2, ← Z.out]; exact A.out.1, A.out.2⟩
    · obtain ⟨w1, hw1⟩ : ∃ w1, w1 = wr := ⟨_, rfl⟩
      subst hw1
      have R1 : Aside (Own w.heap.size w1 vo (xors l m) ∧ Below w.heap.size w w1) := by
        obtain ⟨_, ho, hb⟩ := R.out
        rw [List.take_of_length_le (by omega), List.take_of_length_le (by rw [L.out]; omega)] at ho; exact ⟨ho, hb⟩
      clear R
      go_wp2_with fail
      refine (rover_eq (x := 0#32) rfl vo (xors l m) w1 R1.out.1.bytes).mono ?_
      rintro e w1' ⟨rfl, rfl⟩
      go_wp2_with fail
      refine (rzeros_eq rfl (n - at' - l.length) (by omega) (by omega) _).mono ?_
      rintro e w1' ⟨r, rfl, er, rfl⟩
      go_wp2_with fail
      go_ret2
      refine ⟨x ^^^ r, by rw [bits_xor_u]; rfl, ?_, R1.out.2⟩
      show x ^^^ r = _
      rw [er.out, upd_xors l m L.out]; rfl
set_option maxHeartbeats 1000000 in
theorem rpatch_arg (x : BitVec 32) (n at' : Int) (v v' : Value) (l m : List (BitVec 8)) (w : World) (hv : Bytes w v l) (hv' : Bytes w v' m)
    (hn : -9223372036854775808 ≤ n ∧ n ≤ 9223372036854775807) (ha : -9223372036854775808 ≤ at' ∧ at' ≤ 9223372036854775807)
    (h : n < 0 ∨ 1099511627776 < n ∨ at' < 0 ∨ n < at' ∨ l.length ≠ m.length ∨ n - at' < l.length) :
    Calls Try.prog 19 #[.int .u32 (u x), .int .i64 n, .int .i64 at', v, v'] w fun e w' => e = .returned (.tuple #[.int .u32 0, .int .i64 1]) ∧ w' = w := by
  obtain ⟨a, cap, rfl, q1, q2, _, _⟩ := hv
  obtain ⟨a', cap', rfl, _, _, _, _⟩ := hv'
  unfold maxLen at q2
  rcases (by omega : n < 0 ∨ (¬ n < 0 ∧ at' < 0) ∨ (¬ n < 0 ∧ ¬ at' < 0 ∧ 1099511627776 < n) ∨ (¬ n < 0 ∧ ¬ at' < 0 ∧ ¬ 1099511627776 < n ∧ l.length ≠ m.length) ∨ (¬ n < 0 ∧ ¬ at' < 0 ∧ ¬ 1099511627776 < n ∧ l.length = m.length ∧ n < at') ∨ (¬ n < 0 ∧ ¬ at' < 0 ∧ ¬ 1099511627776 < n ∧ l.length = m.length ∧ ¬ n < at' ∧ n - at' < l.length)) with c1 | ⟨c1, c2⟩ | ⟨c1, c2, c3⟩ | ⟨c1, c2, c3, c4⟩ | ⟨c1, c2, c3, c4, c5⟩ | ⟨c1, c2, c3, c4, c5, c6⟩
  · clear h
    go_enter Try.func19, Try.ntmps19
    go_wp2_with fail
    go_ret2
    exact ⟨rfl, rfl⟩
  · clear h
    go_enter Try.func19, Try.ntmps19
    go_wp2_with fail
    go_ret2
    exact ⟨rfl, rfl⟩
  · clear h
    go_enter Try.func19, Try.ntmps19
    go_wp2_with fail
    go_ret2
    exact ⟨rfl, rfl⟩
  · have c : ((l.length : Int) != (m.length : Int)) = true := by simp; omega
    clear h c4
    go_enter Try.func19, Try.ntmps19
    go_wp2_with fail
    go_ret2
    exact ⟨rfl, rfl⟩
  · have c : ((l.length : Int) != (m.length : Int)) = false := by simp; omega
    clear h c4
    go_enter Try.func19, Try.ntmps19
    go_wp2_with fail
    go_ret2
    exact ⟨rfl, rfl⟩
  · have c : ((l.length : Int) != (m.length : Int)) = false := by simp; omega
    clear h c4
    go_enter Try.func19, Try.ntmps19
    go_wp2_with fail
    go_ret2
    exact ⟨rfl, rfl⟩
end Go.Proofs.Ytfmgegkeidhdfab
