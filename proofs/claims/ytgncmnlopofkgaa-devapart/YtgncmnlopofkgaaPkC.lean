/-
  The device's calls beside rows of the call's own.
-/
import Derived.Test.YtgncmnlopofkgaaPkA
import Derived.Test.YtgncmnlopofkgaaFlA
import Derived.Test.YtgncmnlopofkgaaEdA
import Derived.Test.YtgncmnlopofkgaaLivA
import Derived.Test.YtgncmnlopofkgaaMsk
namespace Go.Proofs.Ytgncmnlopofkgaa
open Go.RowKit Go.Maps
variable {b : Nat} {w W W' : World} {s s' : DS} {L : List (Value × List UInt8)} {I : List (Value × List Int)}
theorem pk_read (h : Pk b w W s L I) (i : Int) (l : List UInt8) (hE : rdD s i = (s', l, 0)) (hl : l.length = 512) : Calls Try.prog 10 #[.pointer (some ⟨b + 2, 0, none⟩), .int .i64 i] W fun e w' => ∃ g cap, e = .returned (.tuple #[.slice (some ⟨g, 0, none⟩) 512 cap, .int .i64 0]) ∧ 512 ≤ cap ∧ cap ≤ maxLen ∧ Pk b w w' s' ((.slice (some ⟨g, 0, none⟩) 512 cap, l) :: L) I := by
  obtain ⟨cv, hd⟩ := h.dv
  refine (read_any hd i).mono ?_
  rintro e w' ⟨v, rfl, ho, hd', hk⟩
  rw [hE] at hd' ⊢
  have ho : Own W.heap.size w' v l := by rw [hE] at ho; exact ho
  obtain ⟨g, cap, rfl, h1, h2, _⟩ := own_shape ho (by omega)
  rw [hl] at ho h1 ⊢
  exact ⟨g, cap, rfl, h1, h2, h.newD hd hd' (hk.mono (fun _ _ q => .inl q)) ho⟩
theorem pk_raw (h : Pk b w W s L I) (i : Int) (l : List UInt8) (hE : rawD s i = (l, 0)) (hl : l.length = 512) : Calls Try.prog 13 #[.pointer (some ⟨b + 2, 0, none⟩), .int .i64 i] W fun e w' => ∃ g cap, e = .returned (.tuple #[.slice (some ⟨g, 0, none⟩) 512 cap, .int .i64 0]) ∧ 512 ≤ cap ∧ cap ≤ maxLen ∧ Pk b w w' s ((.slice (some ⟨g, 0, none⟩) 512 cap, l) :: L) I := by
  obtain ⟨cv, hd⟩ := h.dv
  refine (raw_any hd i).mono ?_
  rintro e w' ⟨v, rfl, ho, hb⟩
  have ho : Own W.heap.size w' v l := by rw [hE] at ho; exact ho
  rw [hE]
  obtain ⟨g, cap, rfl, h1, h2, _⟩ := own_shape ho (by omega)
  rw [hl] at ho h1 ⊢
  exact ⟨g, cap, rfl, h1, h2, h.new hb ho⟩
theorem pk_medium (h : Pk b w W s L I) (hn : s.n = 64) : Calls Try.prog 14 #[.pointer (some ⟨b + 2, 0, none⟩)] W fun e w' => ∃ g, e = .returned (.slice (some ⟨g, 0, none⟩) 32768 32768) ∧ Pk b w w' s ((.slice (some ⟨g, 0, none⟩) 32768 32768, s.med) :: L) I := by
  obtain ⟨cv, hd⟩ := h.dv
  refine (medium_any hd).mono ?_
  rintro e w' ⟨rfl, ho, hb⟩
  rw [hn] at ho ⊢
  exact ⟨_, rfl, h.new hb ho⟩
theorem int_shape {B : Nat} {w : World} {v : Value} {l : List Int} (H : OwnI B w v l) (h : 0 < l.length) : ∃ g cap, v = .slice (some ⟨g, 0, none⟩) l.length cap ∧ l.length ≤ cap ∧ cap ≤ maxLen := by
  obtain ⟨_, ⟨hv, hn⟩ | ⟨g, cap, cur, hv, hb, hg, hn, hm, hs, ht⟩⟩ := H
  · omega
  · exact ⟨g, cap, hv, hn, hm⟩
theorem pk_pending (h : Pk b w W s L I) (x : Int) (hE : blocksOf s.cache = [x]) (hws : s.ws < 1099511627776) : Calls Try.prog 11 #[.pointer (some ⟨b + 2, 0, none⟩)] W fun e w' => ∃ g, e = .returned (.slice (some ⟨g, 0, none⟩) 1 1) ∧ Pk b w w' s L ((.slice (some ⟨g, 0, none⟩) 1 1, [x]) :: I) := by
  obtain ⟨cv, hd⟩ := h.dv
  refine (pending_tight hd hws).mono ?_
  rintro e w' ⟨v, rfl, ho, hb, rfl⟩
  rw [hE] at ho
  have e1 : s.cache.length = 1 := by have := congrArg List.length hE; simpa [blocksOf] using this
  rw [e1] at ho ⊢
  exact ⟨_, rfl, h.newI hb ho⟩
theorem pk_setI (h : Pk b w W s L I) {i g n cap : Nat} {l : List Int} (hi : I[i]? = some (.slice (some ⟨g, 0, none⟩) n cap, l)) (k : Nat) (x : Int) (hk : k < l.length) :
    (∃ u, W.cell? ⟨g, k, none⟩ = some u) ∧ W.frozen? ⟨g, k, none⟩ = false ∧ Pk b w (W.setCell ⟨g, k, none⟩ (.int .i64 x)) s L (I.set i (.slice (some ⟨g, 0, none⟩) n cap, l.set k x)) := by
  have hr := h.ints _ (List.mem_of_getElem? hi)
  have hr' := hr
  obtain ⟨hl, ⟨hv, hn0⟩ | ⟨g2, cap2, cur, hv, hb, hg, hnc, hm, hsz, ht⟩⟩ := hr
  · simp at hv
  simp only [Value.slice.injEq, Option.some.injEq, Addr.mk.injEq, and_true] at hv
  obtain ⟨rfl, rfl, rfl⟩ := hv
  have K : Kept (fun j => some j = (Value.slice (some ⟨g, 0, none⟩) l.length cap).ownBlock) W (W.setCell ⟨g, k, none⟩ (.int .i64 x)) := kept_set W _ _ rfl
  refine ⟨?_, frozen_of_row W _ _ _ _ hg, h.updI hi K ⟨by rw [cellsI_length, Nat.mul_one], .inr ⟨g, cap, _, by rw [List.length_set], hb, heap_setCell_same _ _ _ _ _ _ hg, by rw [List.length_set]; exact hnc, hm, by simpa using hsz, ?_⟩⟩⟩
  · rw [cell_of_row _ _ _ _ _ _ hg]
    have hnc2 : l.length ≤ cap := hnc
    exact ⟨_, Array.getElem?_eq_getElem (by omega)⟩
  · rw [List.length_set, Array.toList_setIfInBounds, List.take_set, ht]
    unfold cellsI
    rw [List.map_set]
theorem pk_full (h : Pk b w W s L I) (c : UInt8) : Calls Try.prog 6 #[.int .u8 (c8 c)] W fun e w' => ∃ g, e = .returned (.slice (some ⟨g, 0, none⟩) 512 512) ∧ Pk b w w' s ((.slice (some ⟨g, 0, none⟩) 512 512, List.replicate 512 c) :: L) I := by
  refine (full_any c W).mono ?_
  rintro e w' ⟨rfl, ho, hb⟩
  exact ⟨_, rfl, h.new hb ho⟩
theorem pk_bytes (h : Pk b w W s L I) {i g n cap : Nat} {l : List UInt8} (hi : L[i]? = some (.slice (some ⟨g, 0, none⟩) n cap, l)) (k : Nat) (hk : k ≤ l.length) : Bytes W (.slice (some ⟨g, 0, none⟩) k cap) (l.take k) := by
  have hb := (h.rows _ (List.mem_of_getElem? hi)).bytes
  have hn : n = l.length := by obtain ⟨_, _, e, _⟩ := hb; simp only [Value.slice.injEq] at e; exact e.2.1
  subst hn
  exact hb.take k hk
theorem pk_write (h : Pk b w W s L I) {i g n cap : Nat} {l : List UInt8} (hi : L[i]? = some (.slice (some ⟨g, 0, none⟩) n cap, l)) (k : Nat) (m : Nat) (hm : m ≤ l.length) (hE : wrE s k (l.take m) = (s', 0)) (hws : s.ws < 137438953472) : Calls Try.prog 7 #[.pointer (some ⟨b + 2, 0, none⟩), .int .i64 (k : Int), .slice (some ⟨g, 0, none⟩) m cap] W fun e w' => e = .returned (.int .i64 0) ∧ Pk b w w' s' L I := by
  obtain ⟨cv, hd⟩ := h.dv
  have hr := h.rows _ (List.mem_of_getElem? hi)
  refine (write_any hd (k : Int) (.slice (some ⟨g, 0, none⟩) m cap) (l.take m) (fun w' hk => ?_) hws).mono ?_
  · have h2 : Own b w' (.slice (some ⟨g, 0, none⟩) n cap) l := hr.kept hk (fun q hq e => hd.bytes_ne hr q hq (.inl e))
    have hb := h2.bytes
    have hn : n = l.length := by obtain ⟨_, _, e, _⟩ := hb; simp only [Value.slice.injEq] at e; exact e.2.1
    subst hn
    exact hb.take m hm
  · rintro e w' ⟨cv', rfl, hd', hk, _⟩
    rw [hE] at hd' ⊢
    exact ⟨rfl, h.dev hd hd' hk⟩
theorem pk_edit (h : Pk b w W s L I) {i g n cap : Nat} {l : List UInt8} (hi : L[i]? = some (.slice (some ⟨g, 0, none⟩) n cap, l)) (k a : Int) (m : Nat) (hm : m ≤ l.length) (hE : edD s k a (l.take m) = (s', 0)) : Calls Try.prog 9 #[.pointer (some ⟨b + 2, 0, none⟩), .int .i64 k, .int .i64 a, .slice (some ⟨g, 0, none⟩) m cap] W fun e w' => e = .returned (.int .i64 0) ∧ Pk b w w' s' L I := by
  obtain ⟨cv, hd⟩ := h.dv
  refine (edit_any hd k a _ (l.take m) (pk_bytes h hi m hm)).mono ?_
  rintro e w' ⟨rfl, hd', hk⟩
  rw [hE] at hd' ⊢
  exact ⟨rfl, h.dev hd hd' (hk.mono (fun _ _ q => .inr (.inl q)))⟩
theorem pk_flush (h : Pk b w W s L I) (hE : flD s = (s', 0)) (hws : s.ws < 1099511627776) : Calls Try.prog 12 #[.pointer (some ⟨b + 2, 0, none⟩)] W fun e w' => e = .returned (.int .i64 0) ∧ Pk b w w' s' L I := by
  obtain ⟨cv, hd⟩ := h.dv
  refine (flush_any hd hws).mono ?_
  rintro e w' ⟨cv', rfl, hd', hk, _⟩
  rw [hE] at hd' ⊢
  exact ⟨rfl, h.dev hd hd' (hk.mono (fun _ _ q => by rcases q with q | q | q; exact .inl q; exact .inr (.inl q); exact .inr (.inr (.inl q))))⟩
/-- The first row grown by an append. -/
theorem Pk.app {v v' : Value} {l l' : List UInt8} (h : Pk b w W s ((v, l) :: L) I) (K : Kept (fun j => some j = v.ownBlock) W W') (ho : Own b W' v' l') (ha : At v v' W) : Pk b w W' s ((v', l') :: L) I := by
  have hr := h.rows (v, l) (List.mem_cons_self)
  obtain ⟨cv, hd⟩ := h.dv
  have hp := List.pairwise_cons.1 h.rap
  refine ⟨⟨cv, dv_row hd hr (by decide) (by decide) (by decide) K⟩, h.bel.trans (K.below h.sz (fun x e => (hr.lt x e.symm).1)), Nat.le_trans h.sz K.size, fun x hx => ?_, fun x hx => row_kept (h.ints x hx) K (rows_ne (by decide) (h.ints x hx) hr), ?_, h.iap⟩
  · rcases List.mem_cons.1 hx with rfl | hx
    · exact ho
    · refine (h.rows x (List.mem_cons_of_mem _ hx)).kept K (fun a h1 h2 => ?_)
      exact hp.1 x.1 (List.mem_map_of_mem hx) a h2.symm h1.symm
  · rw [List.map_cons]
    refine List.Pairwise.cons (fun y hy k h1 h2 => ?_) hp.2
    obtain ⟨x, hx, rfl⟩ := List.mem_map.1 hy
    rcases ha k h1.symm with q | q
    · exact hp.1 x.1 hy k q.symm h2
    · have := ((h.rows x (List.mem_cons_of_mem _ hx)).lt k h2.symm).2
      omega
theorem two_at (W : World) (x y : UInt8) : Own W.heap.size (W.alloc (.cells #[.int .u8 (c8 x), .int .u8 (c8 y)] 5)) (.slice (some ⟨W.heap.size, 0, none⟩) 2 2) [x, y] :=
  own_of (l := [x, y]) (heap_alloc_new _ _) (Nat.le_refl _) rfl (by decide)
theorem one_at (W : World) (x : UInt8) : Own W.heap.size (W.alloc (.cells #[.int .u8 (c8 x)] 5)) (.slice (some ⟨W.heap.size, 0, none⟩) 1 1) [x] :=
  own_of (l := [x]) (heap_alloc_new _ _) (Nat.le_refl _) rfl (by decide)
theorem rowI_mono {B B' : Nat} {w : World} {v : Value} {l : List Int} (H : OwnI B w v l) (h : B' ≤ B) : OwnI B' w v l := by
  obtain ⟨h1, h2 | ⟨g, cap, cur, hv, hB, hr⟩⟩ := H
  · exact ⟨h1, .inl h2⟩
  · exact ⟨h1, .inr ⟨g, cap, cur, hv, Nat.le_trans h hB, hr⟩⟩
/-- A number behind a row of one that is full. -/
theorem app_int {ops : Array Oper} {rest : List Oper} {o : Oper} {a : Act} {Q : Exit → Act → World → Prop} (hgd : o.guard = none) (so xo : Operand)
    (ho : o.op = .call { callee := .builtin .append, args := #[so, xo], argTypes := #[32, 32] })
    {B g : Nat} {W0 : World} {x y : Int} (hs : a.eval so = .slice (some ⟨g, 0, none⟩) 1 1) (hown : OwnI B W0 (.slice (some ⟨g, 0, none⟩) 1 1) [x]) (hx : a.eval xo = .slice (some ⟨W0.heap.size, 0, none⟩) 1 1)
    (h : ∀ g' c' W', OwnI W0.heap.size W' (.slice (some ⟨g', 0, none⟩) 2 c') [x, y] → Below W0.heap.size W0 W' → 2 ≤ c' → c' ≤ maxLen → wpList Try.prog ops Q rest (a.put o.dst (.slice (some ⟨g', 0, none⟩) 2 c')) W') :
    wpList Try.prog ops Q (o :: rest) a (W0.alloc (.cells #[.int .i64 y] 3)) := by
  obtain ⟨i0, hi, hz0, hz1, hz2⟩ := info_parts info_int
  have hc0 : (W0.alloc (.cells #[.int .i64 y] 3)).cell? ⟨g, 0, none⟩ = some (.int .i64 x) := by
    obtain ⟨a2, c2, e2, _, _, h3⟩ := OwnI.ints hown
    obtain ⟨b', off, ea, h4⟩ := h3 0 (by simp)
    simp only [Value.slice.injEq] at e2
    rw [← e2.1] at ea
    simp only [Option.some.injEq, Addr.mk.injEq, and_true] at ea
    obtain ⟨rfl, rfl⟩ := ea
    rw [(Below.alloc (Below.refl W0.heap.size W0) (Nat.le_refl _) _).cell (p := ⟨g, 0, none⟩) (block_lt_of_cell h4)]
    exact h4
  refine wpList_append_grows _ hgd so xo 32 ho 3 i0 (.int .i64 0) 1 8 Try.underlying32 hi hz0 hz1 hz2 rfl (by decide) (some ⟨g, 0, none⟩) 1 1 [.int .i64 x] hs (fun q => by simp at q) rfl ?_ ⟨W0.heap.size, 0, none⟩ 1 1 [.int .i64 y] hx rfl ?_ ?_ (by decide) (by unfold maxLen; omega) (by omega) ?_
  · intro b' hb' j u hj
    simp only [Option.some.injEq] at hb'
    subst hb'
    rw [add_plain]
    match j, hj with
    | 0, hj => simp only [List.getElem?_cons_zero, Option.some.injEq] at hj; subst hj; exact hc0
    | j + 1, hj => simp at hj
  · intro j u hj
    rw [add_plain, Nat.zero_add, World.cell?_alloc_new, ← Array.getElem?_toList]; exact hj
  · intro u hu; simp only [List.mem_cons, List.not_mem_nil, or_false] at hu; rw [hu]; rfl
  · intro v' W' r1 r2
    have o2 : OwnI (W0.alloc (.cells #[.int .i64 y] 3)).heap.size W' v' [x, y] := r1
    obtain ⟨g', c', rfl, hc1, hc2⟩ := int_shape o2 (by simp)
    exact h g' c' W' (rowI_mono o2 (by simp)) (((Below.refl _ _).alloc (Nat.le_refl _) _).grown r2 (by simp) (fun k hk => by simp at hk)) hc1 hc2
/-- The states of the device in DevApart. -/
structure RoadA (c : UInt8) (k j : Nat) (s0 s1 s2 s3 s4 s5 s6 : DS) (F Z : List UInt8) : Prop where
  wr : wrE s0 k F = (s1, 0)
  w0 : s0.ws < 137438953472
  ed : edD s1 j 510 [c, c] = (s2, 0)
  r3 : rdD s2 k = (s3, F, 0)
  r4 : rdD s3 k = (s4, F, 0)
  pn : blocksOf s4.cache = [(k : Int)]
  w4 : s4.ws < 1099511627776
  fl : flD s4 = (s5, 0)
  rk : rawD s5 k = (F, 0)
  rj : rawD s5 j = (Z, 0)
  zl : Z.length = 512
  z0 : Z[510]? = some c
  z1 : Z[511]? = some c
  n5 : s5.n = 64
  ml : s5.med.length = 32768
  mkk : (s5.med.drop (512 * k)).take 512 = F
  r6 : rdD s5 k = (s6, F, 0)
  r7 : rawD s6 k = (F, 0)
theorem road (c : UInt8) (k j : Nat) (hk : k < 64) (hj : j < 64) (hne : j ≠ k) (F : List UInt8) (hF : F.length = 512) : ∃ s1 s2 s3 s4 s5 s6 Z, RoadA c k j liveS s1 s2 s3 s4 s5 s6 F Z := by
  obtain ⟨M, hM, hl⟩ : ∃ M : List UInt8, M.length = 32768 ∧ liveS = ⟨64, M, [], false, 0, false, 0, 1, 1, 1⟩ := ⟨lay (List.replicate 32768 0) 63 (List.replicate 512 5), by rw [lay_length _ _ _ (by rw [List.length_replicate, List.length_replicate] <;> decide), List.length_replicate], rfl⟩
  rw [hl]
  have hb : ∀ (i : Nat) (m : List UInt8) (ca : List Wt) (a b' c' d : Int) (e : Nat), i < 64 → hasB ⟨64, m, ca, false, a, false, b', c', d, e⟩ i = true := by
    intro i m ca a b' c' d e hi
    unfold hasB; rw [Bool.and_eq_true, decide_eq_true_iff, decide_eq_true_iff]
    refine ⟨by omega, ?_⟩
    show (i : Int) < ((64 : Nat) : Int)
    omega
  have hM2 : (splice M (512 * j + 510) [c, c]).length = 32768 := by rw [length_splice _ _ _ (by simp; omega)]; exact hM
  have hL : (lay (splice M (512 * j + 510) [c, c]) k F).length = 32768 := by rw [lay_length _ _ _ (by rw [hF, hM2]; omega)]; exact hM2
  have hrd : ∀ (m : List UInt8) (a b' c' d : Int) (e : Nat), rdB ⟨64, m, [(k, F)], false, a, false, b', c', d, e⟩ k = F := by
    intro m a b' c' d e
    have : lastIx k [((k, F) : Wt)] 0 = some 0 := by have h := lastIx_snoc k (k, F) [] 0; simpa using h
    unfold rdB
    simp only [this]
    rfl
  have hraw : raw (lay (splice M (512 * j + 510) [c, c]) k F) k = F := by
    rw [raw_lay_same _ _ _ (by omega) (by rw [hM2]; omega), splice_all _ _ (by rw [hF, raw_length _ _ (by rw [hM2]; omega)])]
  have hrj : raw (lay (splice M (512 * j + 510) [c, c]) k F) j = raw (splice M (512 * j + 510) [c, c]) j := raw_lay_other _ _ _ _ (by omega) (by rw [hM2]; omega) hne
  have zat : ∀ i, i < 2 → (raw (splice M (512 * j + 510) [c, c]) j)[510 + i]? = some c := by
    intro i hi
    rw [raw_at _ _ _ (by omega), splice_at _ _ _ (by simp; omega), if_pos (by simp; omega)]
    rcases Nat.lt_or_ge i 1 with q | q
    · obtain rfl : i = 0 := by omega
      simp
    · obtain rfl : i = 1 := by omega
      simp [show 512 * j + (510 + 1) - (512 * j + 510) = 1 by omega]
  refine ⟨⟨64, M, [(k, F)], false, 0, false, 0, up 1, 1, 2⟩, ⟨64, splice M (512 * j + 510) [c, c], [(k, F)], false, 0, false, 0, up 1, 1, 2⟩, ⟨64, splice M (512 * j + 510) [c, c], [(k, F)], false, 0, false, up 0, up 1, 1, 2⟩, ⟨64, splice M (512 * j + 510) [c, c], [(k, F)], false, 0, false, up (up 0), up 1, 1, 2⟩, ⟨64, lay (splice M (512 * j + 510) [c, c]) k F, [], false, 0, false, up (up 0), up 1, up 1, 2⟩, ⟨64, lay (splice M (512 * j + 510) [c, c]) k F, [], false, 0, false, up (up (up 0)), up 1, up 1, 2⟩, raw (splice M (512 * j + 510) [c, c]) j, ?_⟩
  refine ⟨?_, (by decide : (1 : Nat) < 137438953472), ?_, ?_, ?_, rfl, (by decide : (2 : Nat) < 1099511627776), ?_, ?_, ?_, ?_, ?_, ?_, rfl, hL, hraw, ?_, ?_⟩
  · unfold wrE
    rw [if_neg (by rw [hb _ _ _ _ _ _ _ _ hk]; simp), if_neg (by rw [hF]; exact fun h => h rfl)]
    have ha : actD ⟨64, M, [], false, 0, false, 0, 1, 1, 1⟩ = (⟨64, M, [], false, 0, false, 0, 1, 1, 1⟩, 0) := rfl
    rw [ha, if_neg (fun h => h rfl)]
    rfl
  · unfold edD
    rw [if_neg (by rw [hb _ _ _ _ _ _ _ _ hj]; simp), if_neg (by simp)]
    rfl
  · unfold rdD
    rw [if_neg (by rw [hb _ _ _ _ _ _ _ _ hk]; simp), if_neg (by simp), Int.toNat_natCast, hrd]
  · unfold rdD
    rw [if_neg (by rw [hb _ _ _ _ _ _ _ _ hk]; simp), if_neg (by simp), Int.toNat_natCast, hrd]
  · unfold flD
    have ha : actD ⟨64, splice M (512 * j + 510) [c, c], [(k, F)], false, 0, false, up (up 0), up 1, 1, 2⟩ = (⟨64, splice M (512 * j + 510) [c, c], [(k, F)], false, 0, false, up (up 0), up 1, 1, 2⟩, 0) := rfl
    rw [ha, if_neg (fun h => h rfl)]
    have e : sets (fun _ => (1, 0)) 0 [((k : Nat), F)] (splice M (512 * j + 510) [c, c]) = lay (splice M (512 * j + 510) [c, c]) k F := by
      show lay _ k (F.take 512) = _
      rw [List.take_of_length_le (by omega)]
    show ((⟨64, sets (fun _ => (1, 0)) 0 [((k : Nat), F)] (splice M (512 * j + 510) [c, c]), [], false, 0, false, up (up 0), up 1, up 1, 2⟩ : DS), (0 : Int)) = _
    rw [e]
  · unfold rawD
    rw [if_neg (by rw [hb _ _ _ _ _ _ _ _ hk]; simp), Int.toNat_natCast]
    exact congrArg (fun x => (x, (0 : Int))) hraw
  · unfold rawD
    rw [if_neg (by rw [hb _ _ _ _ _ _ _ _ hj]; simp), Int.toNat_natCast]
    exact congrArg (fun x => (x, (0 : Int))) hrj
  · exact raw_length _ _ (by rw [hM2]; omega)
  · exact zat 0 (by omega)
  · exact zat 1 (by omega)
  · unfold rdD
    rw [if_neg (by rw [hb _ _ _ _ _ _ _ _ hk]; simp), if_neg (by simp), Int.toNat_natCast]
    have : rdB ⟨64, lay (splice M (512 * j + 510) [c, c]) k F, [], false, 0, false, up (up 0), up 1, up 1, 2⟩ k = F := hraw
    rw [this]
  · unfold rawD
    rw [if_neg (by rw [hb _ _ _ _ _ _ _ _ hk]; simp), Int.toNat_natCast]
    exact congrArg (fun x => (x, (0 : Int))) hraw
end Go.Proofs.Ytgncmnlopofkgaa
