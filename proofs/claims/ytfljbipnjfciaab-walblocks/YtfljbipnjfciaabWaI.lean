/-
  Append.
-/
import Derived.Test.YtfljbipnjfciaabWaH
namespace Go.Proofs.Ytfljbipnjfciaab
open Go.RowKit Go.Maps
set_option maxHeartbeats 1000000 in
theorem put_ty (ty : TypeId) (g off n cap : Nat) (x : Nat) (L : List UInt8) (w : World) (hg : w.heap[g]? = some (.cells (cells8 L).toArray ty (0, 0))) (hn : n ≤ 8) (hc : n ≤ cap) (hm : cap ≤ maxLen) (hL : off + n ≤ L.length) :
    Calls Try.prog 65 #[.slice (some ⟨g, off, none⟩) n cap, .int .u64 (x : Int)] w fun e w' => e = .returned (.tuple #[]) ∧ w'.heap[g]? = some (.cells (cells8 (splice L off (leB n x))).toArray ty (0, 0)) ∧ Kept (fun k => k = g) w w' := by
  have G := Lib.hid hg
  unfold maxLen at hm
  have LN := Lib.hid hL
  clear hg hL
  go_enter Try.func65, Try.ntmps65
  go_wp2_with fail
  go_loopg [4, 7] n (fun gg s4 si wr => ∃ (k : Nat), k ≤ n ∧ gg = n - k ∧ si = .int .i64 k ∧ wr.heap[g]? = some (.cells (cells8 (splice L off (leB k x))).toArray ty (0, 0)) ∧ Kept (fun k => k = g) w wr)
  case atStart => exact ⟨0, Nat.zero_le _, rfl, rfl, by rw [show splice L off (leB 0 x) = L by simp [splice, leB]]; exact G.out, Kept.refl _ _⟩
  case round =>
    obtain ⟨k, hk, hgk, rfl, hp, hb⟩ := hrel
    have R : Aside (gk = n - k ∧ wr.heap[g]? = some (.cells (cells8 (splice L off (leB k x))).toArray ty (0, 0)) ∧ Kept (fun k => k = g) w wr) := ⟨hgk, hp, hb⟩
    by_cases hlt : k < n
    · have hlt' : (k : Int) < (n : Int) := by omega
      have sl : (splice L off (leB k x)).length = L.length := length_splice _ _ _ (by rw [leB_length]; have := LN.out; omega)
      have c1 : ∃ u, wr.cell? ⟨g, off + k, none⟩ = some u := by
        rw [cell_of_row wr _ _ _ _ _ hp]
        exact ⟨_, Array.getElem?_eq_getElem (by simp only [List.size_toArray, cells8_length, sl]; have := LN.out; omega)⟩
      obtain ⟨u, c1⟩ := c1
      have c2 : wr.frozen? ⟨g, off + k, none⟩ = false := frozen_of_row wr _ _ _ _ hp
      clear hgk hp hb sl
      have e8 : ((x : Int) / 2 ^ (8 * k) % 256) = c8 (UInt8.ofNat (x / 256 ^ k % 256)) := by
        have e2 : (2 : Int) ^ (8 * k) = ((256 ^ k : Nat) : Int) := by rw [show (256 : Nat) = 2 ^ 8 from rfl, ← Nat.pow_mul]; simp
        rw [c8_of _ (Nat.mod_lt _ (by decide)), e2]
        simp
      go_wp2_with fail
      go_roundg (n - (k + 1))
      case measure => have := R.out.1; omega
      case rel =>
        refine ⟨k + 1, by omega, rfl, by go_num, ?_, R.out.2.2.trans (kept_set (F := fun k => k = g) _ _ _ rfl) (fun _ _ h => h)⟩
        rw [heap_setCell_same _ _ _ _ _ _ R.out.2.1]
        congr 2
        apply Array.ext'
        rw [Array.toList_setIfInBounds]
        show (cells8 (splice L off (leB k x))).set (off + k) _ = cells8 (splice L off (leB (k + 1) x))
        rw [leB_snoc, ← splice_snoc _ _ _ _ (by rw [leB_length]; have := LN.out; omega), leB_length]
        unfold cells8
        rw [List.map_set]
    · have ek : k = n := by omega
      subst ek
      clear hgk hp hb
      go_wp2_with fail
      first | go_end0 | refine bodyPost_ret (results_none rfl _ _ _) rfl ?_
      exact ⟨rfl, R.out.2.1, R.out.2.2⟩
theorem run_str_at (w : World) (B : Nat) (ty : TypeId) (i : TypeInfo) (hi : Try.prog.info? 5 = some i) (hz : i.zero = some (.int .u8 0)) (hsize : i.size = 1) (hby : i.bytes = 1)
    (v : Value) (n : Nat) (xs : List Value) (hown : w.ownsRow B 5 1 v n xs) (s : ByteArray) (hbytes : n + s.size ≤ 140737488355328) (hbase : B ≤ w.heap.size) :
    ∃ v' w', (Builtin.append_ #[24, 9] ty #[v, .string s]).run Try.prog w = .ok v' w' ∧ w'.ownsRow B 5 1 v' (n + s.size) (xs ++ Lib.strCells s) ∧ w.grownBy w' v.ownBlock ∧ At v v' w := by
  have h63 : n + s.size ≤ maxLen := by unfold maxLen; omega
  obtain ⟨v', w', hr, h1, h2, _⟩ := Lib.run_append_own_string (P := Try.prog) w B 24 9 ty 5 i Try.underlying24 Try.underlying9 hi hz hsize hby v n xs hown s h63 hbytes hbase
  refine ⟨v', w', hr, h1, h2, ?_⟩
  have hown' := hown
  rcases hown.2 with ⟨rfl, rfl⟩ | ⟨g, cap, cur, rfl, hbg, hg, hnc, hcm, hcs, htake⟩
  · have hx : xs = [] := List.eq_nil_of_length_eq_zero (by simpa using hown.1)
    subst hx
    obtain ⟨v2, w2, hr2, h3, _⟩ := Lib.run_append_own_string (P := Try.prog) w w.heap.size 24 9 ty 5 i Try.underlying24 Try.underlying9 hi hz hsize hby (.slice none 0 0) 0 [] (World.ownsRow_nil w _ _ _) s h63 hbytes (Nat.le_refl _)
    rw [hr] at hr2
    simp only [Result.ok.injEq] at hr2
    obtain ⟨rfl, rfl⟩ := hr2
    exact fun k hk => Or.inr (World.ownsRow.lt h3 k hk.symm).1
  · by_cases hroom : n + s.size ≤ cap
    · have hr2 := Lib.run_append_room_string (P := Try.prog) w 24 9 ty 5 i Try.underlying24 Try.underlying9 hi hsize g n cap cur hg s hroom (by omega)
      rw [hr] at hr2
      simp only [Result.ok.injEq] at hr2
      obtain ⟨rfl, rfl⟩ := hr2
      exact fun k hk => Or.inl hk
    · have holds : ∀ j u, xs[j]? = some u → w.cell? ((⟨g, 0, none⟩ : Addr).add j) = some u := hown'.cells (g := g) rfl
      have hr2 := Lib.run_append_grow_string (P := Try.prog) w 24 9 ty 5 i (.int .u8 0) Try.underlying24 Try.underlying9 hi hz ⟨g, 0, none⟩ n cap xs (by rw [hsize]; exact hown'.1) holds s (by omega) (by unfold maxLen at h63; omega) (by rw [hby]; exact growslice_fits (by omega) (by omega))
      rw [hr] at hr2
      simp only [Result.ok.injEq] at hr2
      obtain ⟨rfl, rfl⟩ := hr2
      refine fun k hk => Or.inr ?_
      simp only [Value.ownBlock, Option.some.injEq] at hk
      omega

theorem app_str {ops : Array Oper} {rest : List Oper} {o : Oper} {a : Act} {Q : Exit → Act → World → Prop} (hgd : o.guard = none) (s x : Operand)
    (ho : o.op = .call { callee := .builtin .append, args := #[s, x], argTypes := #[24, 9] })
    {B : Nat} {w : World} {v : Value} {t : ByteArray} {l : List UInt8} (hs : a.eval s = v) (hown : Own B w v l) (hB : B ≤ w.heap.size) (hx : a.eval x = .string t) (hl : l.length + t.size ≤ 140737488355328)
    (h : ∀ v' w', Own B w' v' (l ++ t.data.toList) → w.grownBy w' v.ownBlock → At v v' w → wpList Try.prog ops Q rest (a.put o.dst v') w') :
    wpList Try.prog ops Q (o :: rest) a w := by
  obtain ⟨i0, hi, hz0, hz1, hz2⟩ := info_parts info_byte
  refine wpList_plain hgd fun K hK => ?_
  obtain ⟨v', w', hr, h1, h2, h3⟩ := run_str_at w B o.type i0 hi hz0 hz1 hz2 v l.length (cells8 l) hown t hl hB
  unfold Oper.wp execOp
  simp only [ho, resolve, invoke, builtin, Sem.run_bind, Sem.run_pure, Result.andThen_ok, List.map_toArray, List.map_cons, List.map_nil, hs, hx, hr]
  refine hK _ _ (h v' w' ?_ h2 h3)
  show w'.ownsRow _ _ _ _ _ _
  rw [cells8_app, List.length_append, str_size]; exact h1
/-- Bytes behind bytes, as one step of a region that draws its order. -/
theorem step_app_at {ops : Array Oper} {o : Oper} {a : Act} {w : World} {K : Act → World → Prop} {Q : Exit → Act → World → Prop} {E : Prop} (hgd : o.guard = none) (so x : Operand)
    (ho : o.op = .call { callee := .builtin .append, args := #[so, x], argTypes := #[24, 24] })
    {B : Nat} {v : Value} {p q : List UInt8} (hs : a.eval so = v) (hown : Own B w v p) (hB : B ≤ w.heap.size) (ad : Addr) (m c : Nat) (hx : a.eval x = .slice (some ad) m c) (hq : q.length = m) (hn : ∀ j u, (cells8 q)[j]? = some u → w.cell? (ad.add j) = some u) (hl : p.length + m ≤ 1000000000)
    (h : ∀ v' w', Own B w' v' (p ++ q) ∧ w.grownBy w' v.ownBlock ∧ At v v' w → K (a.put o.dst v') w') :
    if Region.wanted o (yielded ops a.tmps) = true then Oper.wp Try.prog o a w K Q else E := by
  have hw : Region.wanted o (yielded ops a.tmps) = true := by simp [Region.wanted, hgd]
  rw [if_pos hw]
  obtain ⟨i0, hi, hz0, hz1, hz2⟩ := info_parts info_byte
  obtain ⟨v', w', hr, h2, h3, _, h5⟩ := run_append_own_at (P := Try.prog) w B 24 o.type 5 i0 (.int .u8 0) 1 1 Try.underlying24 hi hz0 hz1 hz2 rfl (by decide) v p.length (cells8 p) hown ad m c (cells8 q) (by rw [cells8_length, hq, Nat.mul_one]) hn (cells8_one q) (by unfold maxLen; omega) (by omega) hB
  unfold Oper.wp execOp
  simp only [ho, resolve, invoke, builtin, Sem.run_bind, Sem.run_pure, Result.andThen_ok, List.map_toArray, List.map_cons, List.map_nil, hs, hx, hr]
  refine h v' w' ⟨?_, h3, at_of h5 (Nat.le_refl _)⟩
  show w'.ownsRow _ _ _ _ _ _
  rw [cells8_app, List.length_append, hq]; exact h2
variable {B : Nat} {w w' : World} {l d : Nat} {pv : Value} {s : LS}
def LS.need (s : LS) (k : Nat) : Nat := (s.pay.length + 4 + k + 463) / 464
def appE (s : LS) (k : Nat) : Int := if s.dead = true then 6 else if k < 1 ∨ 32768 < k then 23 else if s.free < s.need k then 4 else if s.stamps < s.need k then 1 else 0
def appS (s : LS) (t : List UInt8) : LS := { s with pay := s.pay ++ (leB 4 t.length ++ t), pend := s.pend + 1 }
theorem Lg.pv_set {pv' : Value} {W : World} {p : List UInt8} (h : Lg B W l d pv s) (ho : Own B (W.setCell ⟨l, 8, none⟩ pv') pv' p) (hf : LFit { s with pay := p }) : Lg B (W.setCell ⟨l, 8, none⟩ pv') l d pv' { s with pay := p } := by
  refine ⟨?_, ho, h.b, hf⟩
  rw [heap_setCell_same _ _ _ _ _ _ h.self]
  rfl
set_option maxRecDepth 100000 in
set_option maxHeartbeats 2000000 in
theorem append_no (h : Lg B w l d pv s) (t : ByteArray) (hne : appE s t.size ≠ 0) : Calls Try.prog 24 #[.pointer (some ⟨l, 0, none⟩), .string t] w fun e w' => e = .returned (.int .i64 (appE s t.size)) ∧ Below w.heap.size w w' := by
  have p10 : w.cell? ⟨l, 10, none⟩ = some (.bool s.dead) := h.cell 10
  obtain ⟨k, hk⟩ : ∃ k, k = t.size := ⟨_, rfl⟩
  have KK := Lib.hid hk
  rw [← hk] at hne ⊢
  have ts : (t.size : Int) = (k : Int) := by omega
  obtain ⟨r, hr⟩ : ∃ r, r = appE s k := ⟨_, rfl⟩
  rw [← hr] at hne ⊢
  cases hd : s.dead with
  | true =>
    have E : r = 6 := by rw [hr]; unfold appE; rw [if_pos hd]
    subst E
    rw [hd] at p10
    clear h hd hr hne
    go_enter Try.func24, Try.ntmps24
    go_wp2_with fail
    go_ret
    exact ⟨rfl, Below.refl _ _⟩
  | false =>
    rw [hd] at p10
    have hr1 : r = if k < 1 ∨ 32768 < k then 23 else if s.free < s.need k then 4 else if s.stamps < s.need k then 1 else 0 := by rw [hr]; unfold appE; rw [if_neg (by rw [hd]; simp)]
    by_cases h1 : k < 1
    · have E : r = 23 := by rw [hr1, if_pos (Or.inl h1)]
      subst E
      have d1 : decide ((k : Int) < 1) = true := decide_eq_true (by omega)
      clear h hd hr hr1 hne hk
      go_enter Try.func24, Try.ntmps24
      go_wp2_with fail
      go_ret
      exact ⟨rfl, Below.refl _ _⟩
    have d1 : decide ((k : Int) < 1) = false := decide_eq_false (by omega)
    by_cases h2 : 32768 < k
    · have E : r = 23 := by rw [hr1, if_pos (Or.inr h2)]
      subst E
      have d2 : decide ((k : Int) > 32768) = true := decide_eq_true (by omega)
      clear h hd hr hr1 hne hk
      go_enter Try.func24, Try.ntmps24
      go_wp2_with fail
      go_ret
      exact ⟨rfl, Below.refl _ _⟩
    have d2 : decide ((k : Int) > 32768) = false := decide_eq_false (by omega)
    rw [if_neg (by omega)] at hr1
    obtain ⟨a, cap, hpv, hlc, hcm⟩ := h.pay.bytes.len
    unfold maxLen at hcm
    have p8 : w.cell? ⟨l, 8, none⟩ = some (.slice a s.pay.length cap) := by rw [h.cell 8, ← hpv]; rfl
    obtain ⟨pl, hpl⟩ : ∃ pl, pl = s.pay.length := ⟨_, rfl⟩
    rw [← hpl] at p8
    have hp2 : pl ≤ 237568 := by rw [hpl]; have := h.fit.pl; have := h.fit.hi; omega
    obtain ⟨N, hN⟩ : ∃ N, N = s.need k := ⟨_, rfl⟩
    have BO : Hid (∀ W, Calls Try.prog 64 #[.int .i64 ((pl : Int) + 4 + (k : Int))] W fun e w' => e = .returned (.int .i64 (N : Int)) ∧ w' = W) := Lib.hid (fun W => by
      have q := blocksOf_any (pl + 4 + k) (by omega) W
      have e : ((pl + 4 + k : Nat) : Int) = (pl : Int) + 4 + (k : Int) := by omega
      rw [e] at q
      rw [hN, show s.need k = (pl + 4 + k + 463) / 464 by rw [hpl]; rfl]
      exact q)
    obtain ⟨F, hF⟩ : ∃ F, F = s.free := ⟨_, rfl⟩
    obtain ⟨T, hT⟩ : ∃ T, T = s.stamps := ⟨_, rfl⟩
    have FR : Hid (Calls Try.prog 62 #[.pointer (some ⟨l, 0, none⟩)] w fun e w' => e = .returned (.int .i64 (F : Int)) ∧ Below w.heap.size w w') := Lib.hid (by rw [hF]; exact free_any h)
    have ST : Hid (∀ W, Below w.heap.size w W → Calls Try.prog 63 #[.pointer (some ⟨l, 0, none⟩)] W fun e w' => e = .returned (.int .i64 (T : Int)) ∧ w' = W) := Lib.hid (fun W hb => by rw [hT]; exact stamps_any (h.below hb))
    rw [← hF, ← hT, ← hN] at hr1
    clear h hd hr hk hpv hlc hpl hN hF hT
    by_cases h3 : F < N
    · have E : r = 4 := by rw [hr1, if_pos h3]
      subst E
      have d3 : decide ((N : Int) > (F : Int)) = true := decide_eq_true (by omega)
      clear hr1 hne
      go_enter Try.func24, Try.ntmps24
      go_wp2_with (go_at_call 64; refine (BO.out _).mono ?_; rintro r w0 ⟨rfl, rfl⟩)
      refine FR.out.mono ?_
      rintro r w2 ⟨rfl, hb2⟩
      have B2 := Lib.hid hb2
      clear hb2
      go_wp2_with fail
      go_ret
      exact ⟨rfl, B2.out⟩
    have d3 : decide ((N : Int) > (F : Int)) = false := decide_eq_false (by omega)
    rw [if_neg h3] at hr1
    by_cases h4 : T < N
    · have E : r = 1 := by rw [hr1, if_pos h4]
      subst E
      have d4 : decide ((N : Int) > (T : Int)) = true := decide_eq_true (by omega)
      clear hr1 hne
      go_enter Try.func24, Try.ntmps24
      go_wp2_with (go_at_call 64; refine (BO.out _).mono ?_; rintro r w0 ⟨rfl, rfl⟩)
      refine FR.out.mono ?_
      rintro r w2 ⟨rfl, hb2⟩
      have B2 := Lib.hid hb2
      clear hb2
      go_wp2_with fail
      refine (ST.out _ B2.out).mono ?_
      rintro r w3 ⟨rfl, rfl⟩
      go_wp2_with fail
      go_ret
      exact ⟨rfl, B2.out⟩
    rw [if_neg h4] at hr1
    exact absurd hr1 hne
end Go.Proofs.Ytfljbipnjfciaab
