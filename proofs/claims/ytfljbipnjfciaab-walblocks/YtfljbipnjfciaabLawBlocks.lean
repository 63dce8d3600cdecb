/-
  WalBlocks.
-/
import Derived.Test.YtfljbipnjfciaabRwF
import Derived.Test.YtfljbipnjfciaabBuB
import Derived.Test.YtfljbipnjfciaabWaW
namespace Go.Proofs.Ytfljbipnjfciaab
open Go.RowKit Go.Maps
/-- What came in as a group. -/
def Gd (_w : World) (v : Value) (g : Grp) : Prop := v = .agg g.arr
theorem app3 {ops : Array Oper} {rest : List Oper} {o : Oper} {a : Act} {Q : Exit → Act → World → Prop} (hgd : o.guard = none) (s x : Operand)
    (ho : o.op = .call { callee := .builtin .append, args := #[s, x], argTypes := #[24, 24] })
    {B : Nat} {w0 : World} {v : Value} {l : List UInt8} (hs : a.eval s = v) (hown : Own B w0 v l) (hB : B ≤ w0.heap.size)
    (hx : a.eval x = .slice (some ⟨w0.heap.size, 0, none⟩) 3 3) (hl : l.length ≤ 140737488351232)
    (h : ∀ v' w', Own B w' v' (l ++ [165, 166, 167]) → w0.grownBy w' v.ownBlock → wpList Try.prog ops Q rest (a.put o.dst v') w') :
    wpList Try.prog ops Q (o :: rest) a (w0.alloc (.cells #[.int .u8 165, .int .u8 166, .int .u8 167] 5)) := by
  have hu : Own 0 (w0.alloc (.cells #[.int .u8 165, .int .u8 166, .int .u8 167] 5)) (.slice (some ⟨w0.heap.size, 0, none⟩) 3 3) [165, 166, 167] := own_of (heap_alloc_new _ _) (Nat.zero_le _) rfl (by decide)
  refine app_bytes hgd s x ho hs (World.ownsRow.alloc hown _) (by simp; omega) hx hu.bytes (by simp; omega) ?_
  intro v' w' h1 h2 _
  exact h v' w' h1 (grown_alloc h2)
theorem app3g {ops : Array Oper} {rest : List Oper} {o : Oper} {a : Act} {Q : Exit → Act → World → Prop} (s x : Operand)
    (ho : o.op = .call { callee := .builtin .append, args := #[s, x], argTypes := #[24, 24] }) (hw : Region.wanted o (yielded ops a.tmps) = true)
    {B : Nat} {w0 : World} {v : Value} {l : List UInt8} (hs : a.eval s = v) (hown : Own B w0 v l) (hB : B ≤ w0.heap.size)
    (hx : a.eval x = .slice (some ⟨w0.heap.size, 0, none⟩) 3 3) (hl : l.length ≤ 140737488351232)
    (h : ∀ v' w', Own B w' v' (l ++ [165, 166, 167]) → w0.grownBy w' v.ownBlock → wpList Try.prog ops Q rest (a.put o.dst v') w') :
    wpList Try.prog ops Q (o :: rest) a (w0.alloc (.cells #[.int .u8 165, .int .u8 166, .int .u8 167] 5)) := by
  have h2 := app3 (ops := ops) (rest := rest) (o := { o with guard := none }) (a := a) (Q := Q) rfl s x ho hs hown hB hx hl h
  rw [wpList, if_pos (show Region.wanted _ _ = true from rfl)] at h2
  rw [wpList, if_pos hw]
  exact h2
theorem grp_eq (h0 h1 h2 h3 h4 : Int) (w : World) : (binOp BinOp.eql 23 (.agg #[.int .i64 h0, .int .i64 h1, .int .i64 h2, .int .i64 h3, .int .i64 h4]) (.agg #[.int .i64 h0, .int .i64 h1, .int .i64 h2, .int .i64 h3, .int .i64 h4])).run Try.prog w = .ok (.bool true) w := by
  first | (go_simp; done) | (simp [binOp]; done)
set_option maxRecDepth 100000 in
set_option maxHeartbeats 8000000 in
theorem walBlocks_walk (v0 : Value) (g : Grp) (v1 : Value) (p : List UInt8) (v4 : Value) (b : List UInt8) (w : World) (hg : Gd w v0 g) (_hg : True) (hp : Bytes w v1 p) (hpl : p.length ≤ 140737488351232)
    (hb : Bytes w v4 b) (hbl : b.length ≤ 140737488351232) :
    Calls Try.prog 3 #[v0, v1, v4] w fun e w' => e = .returned (.bool true) ∧ Below w.heap.size w w' := by
  have hg' : v0 = .agg g.arr := hg
  subst hg'
  have HP := Lib.hid hp
  have HB := Lib.hid hb
  have HPL := Lib.hid hpl
  have HBL := Lib.hid hbl
  obtain ⟨a1, c1, e1, _⟩ := hp.len
  obtain ⟨a4, c4, e4, _⟩ := hb.len
  obtain ⟨n1, hn1⟩ : ∃ n1, n1 = p.length := ⟨_, rfl⟩
  obtain ⟨n4, hn4⟩ : ∃ n4, n4 = b.length := ⟨_, rfl⟩
  rw [← hn1] at e1 hpl
  rw [← hn4] at e4 hbl
  subst e1 e4
  have N1 := Lib.hid hn1
  have N4 := Lib.hid hn4
  clear hp hb hg _hg hn1 hn4
  obtain ⟨X, hX⟩ : ∃ X, X = w.alloc (.cells g.arr 23) := ⟨_, rfl⟩
  obtain ⟨g5, hg5⟩ : ∃ g5, g5 = w.heap.size := ⟨_, rfl⟩
  have BX : Hid (Below w.heap.size w X) := Lib.hid (by rw [hX]; exact (Below.refl _ _).alloc (Nat.le_refl _) _)
  have GX : Hid (X.heap[g5]? = some (.cells g.arr 23 (0, 0))) := Lib.hid (by rw [hg5, hX]; exact heap_alloc_new _ _)
  have GW : Hid (∀ W : World, Below X.heap.size X W → W.heap[g5]? = some (.cells g.arr 23 (0, 0))) := Lib.hid (fun W h => (h.block g5 (lt_of_heap GX.out)).trans GX.out)
  have PW : Hid (∀ W : World, Below X.heap.size X W → Bytes W (.slice a1 n1 c1) p ∧ Bytes W (.slice a4 n4 c4) b ∧ Below w.heap.size w W) := Lib.hid (fun W h => ⟨(HP.out.below BX.out).below h, (HB.out.below BX.out).below h, BX.out.trans (h.mono BX.out.size)⟩)
  have GN := Lib.hid (show Grp.arr g = #[.int .i64 g.ep, .int .i64 g.st, .int .i64 g.ix, .int .i64 g.tot, .int .i64 g.by_] from rfl)
  have KS : Hid (∀ W : World, Below X.heap.size X W → W.cell? ⟨g5, 0, none⟩ = some (.int .i64 g.ep) ∧ W.cell? ⟨g5, 1, none⟩ = some (.int .i64 g.st) ∧ W.cell? ⟨g5, 2, none⟩ = some (.int .i64 g.ix) ∧ W.cell? ⟨g5, 3, none⟩ = some (.int .i64 g.tot) ∧ W.cell? ⟨g5, 4, none⟩ = some (.int .i64 g.by_)) := Lib.hid (fun W h => by
    have := GW.out W h
    refine ⟨?_, ?_, ?_, ?_, ?_⟩ <;> (rw [cell_of_row W g5 _ _ _ _ this]; rfl))
  have BD : Hid (∀ W : World, Below X.heap.size X W → Below X.heap.size X W.drew) := Lib.hid (fun W h => h.trans ⟨rfl, rfl, rfl, Nat.le_refl _, fun _ _ => rfl⟩)
  obtain ⟨kl, hkl⟩ : ∃ kl, kl = (bkR g p).1 := ⟨_, rfl⟩
  obtain ⟨ke, hke⟩ : ∃ ke, ke = (bkR g p).2 := ⟨_, rfl⟩
  have DD : Hid (∀ W : World, Below W.heap.size W W.drew) := Lib.hid (fun W => ⟨rfl, rfl, rfl, Nat.le_refl _, fun _ _ => rfl⟩)
  have BL : Hid (∀ (W : World) (v : Value), Bytes W v p → Below X.heap.size X W → Calls Try.prog 7 #[.agg #[.int .i64 g.ep, .int .i64 g.st, .int .i64 g.ix, .int .i64 g.tot, .int .i64 g.by_], v] W fun e w' => ∃ a n c, e = .returned (.tuple #[.slice a n c, .int .i64 ke]) ∧ Own W.heap.size w' (.slice a n c) kl ∧ Below W.heap.size W w' ∧ Below X.heap.size X w') := Lib.hid (fun W v hv h => by
    rw [hke, hkl]
    refine (blkA g v p W hv).mono ?_
    rintro e w' ⟨a, n, c, h1, h2, h3⟩
    exact ⟨a, n, c, h1, h2, h3, h.trans (h3.mono h.size)⟩)
  have RB : Hid (∀ (W : World) (v : Value), Bytes W v p → Below X.heap.size X W → Calls Try.prog 8 #[.agg #[.int .i64 g.ep, .int .i64 g.st, .int .i64 g.ix, .int .i64 g.tot, .int .i64 g.by_], v] W fun e w' => ∃ a n c, e = .returned (.tuple #[.slice a n c, .int .i64 ke]) ∧ Own W.heap.size w' (.slice a n c) kl ∧ Below W.heap.size W w' ∧ Below X.heap.size X w') := Lib.hid (fun W v hv h => by
    rw [hke, hkl]
    refine (rblkA g v p W hv).mono ?_
    rintro e w' ⟨a, n, c, h1, h2, h3⟩
    exact ⟨a, n, c, h1, h2, h3, h.trans (h3.mono h.size)⟩)
  clear hkl hke
  obtain ⟨h0, h1, h2, h3, h4, hh⟩ : ∃ h0 h1 h2 h3 h4, (unA b).1 = ⟨h0, h1, h2, h3, h4⟩ := ⟨_, _, _, _, _, rfl⟩
  obtain ⟨ul, hul⟩ : ∃ ul, ul = (unA b).2.1 := ⟨_, rfl⟩
  obtain ⟨ue, hue⟩ : ∃ ue, ue = (unA b).2.2 := ⟨_, rfl⟩
  have UB : Hid (∀ (W : World) (v : Value), Bytes W v b → Calls Try.prog 10 #[v] W fun e w' => ∃ a n c, e = .returned (.tuple #[.agg #[.int .i64 h0, .int .i64 h1, .int .i64 h2, .int .i64 h3, .int .i64 h4], .slice a n c, .int .i64 ue]) ∧ Own W.heap.size w' (.slice a n c) ul ∧ Below W.heap.size W w') := Lib.hid (fun W v hv => by
    rw [hue, hul]
    refine (unblkA v b W hv).mono ?_
    rintro e w' ⟨a, n, c, h1, h2, h3⟩
    rw [hh] at h1
    exact ⟨a, n, c, h1, h2, h3⟩)
  have RU : Hid (∀ (W : World) (v : Value), Bytes W v b → Calls Try.prog 11 #[v] W fun e w' => ∃ a n c, e = .returned (.tuple #[.agg #[.int .i64 h0, .int .i64 h1, .int .i64 h2, .int .i64 h3, .int .i64 h4], .slice a n c, .int .i64 ue]) ∧ Own W.heap.size w' (.slice a n c) ul ∧ Below W.heap.size W w') := Lib.hid (fun W v hv => by
    rw [hue, hul]
    refine (runblkA v b W hv).mono ?_
    rintro e w' ⟨a, n, c, h1, h2, h3⟩
    rw [hh] at h1
    exact ⟨a, n, c, h1, h2, h3⟩)
  clear hh hul hue
  have OW1 : Hid (∀ W : World, Below X.heap.size X W → Calls Try.prog 6 #[.slice a1 n1 c1] W fun e w' => ∃ v', e = .returned v' ∧ Own W.heap.size w' v' p ∧ Below W.heap.size W w' ∧ Below X.heap.size X w') := Lib.hid (fun W h => by
    refine (ownW_any _ p W (PW.out W h).1 (by have := HPL.out; omega)).mono ?_
    rintro e w' ⟨v', h1, h2, h3⟩
    exact ⟨v', h1, h2, h3, h.trans (h3.mono h.size)⟩)
  have OW4 : Hid (∀ W : World, Below X.heap.size X W → Calls Try.prog 6 #[.slice a4 n4 c4] W fun e w' => ∃ v', e = .returned v' ∧ Own W.heap.size w' v' b ∧ Below W.heap.size W w' ∧ Below X.heap.size X w') := Lib.hid (fun W h => by
    refine (ownW_any _ b W (PW.out W h).2.1 (by have := HBL.out; omega)).mono ?_
    rintro e w' ⟨v', h1, h2, h3⟩
    exact ⟨v', h1, h2, h3, h.trans (h3.mono h.size)⟩)
  have hX' := hX.symm
  have hg5' := hg5.symm
  clear hX hg5 BX GX
  go_enter Try.func3, Try.ntmps3
  rw [GN.out] at hX'
  rw [GN.out]
  go_wp2_with fail
  refine (fixed_any X).mono ?_
  rintro _ w1 ⟨rfl, b1⟩
  have B1 := Lib.hid b1
  clear b1 hX' hg5'
  go_wp2_with fail
  refine (OW1.out w1 B1.out).mono ?_
  rintro _ w2 ⟨u2, rfl, ho2, hb2, _⟩
  have O2 := Lib.hid ho2
  have BB2 := Lib.hid hb2
  clear ho2 hb2
  obtain ⟨a2, n2, c2, e2⟩ : ∃ a n c, u2 = .slice a n c := by obtain ⟨a, c, e, _⟩ := O2.out.bytes.len; exact ⟨a, _, c, e⟩
  subst e2
  go_wp2_with (at_builtin; refine app3 rfl (.tmp 23) (.tmp 24) rfl rfl O2.out BB2.out.size rfl HPL.out ?_)
  intro u3 w3 o3 g3
  have B3 : Hid (Below w1.heap.size w1 w3) := Lib.hid (BB2.out.trans (grown_below g3 O2.out BB2.out.size))
  have XB3 : Hid (Below X.heap.size X w3) := Lib.hid (B1.out.trans (B3.out.mono B1.out.size))
  obtain ⟨a3, c3, e3, l3, m3⟩ := o3.bytes.len
  obtain ⟨n3, hn3⟩ : ∃ n3, n3 = (p ++ [165, 166, 167]).length := ⟨_, rfl⟩
  rw [← hn3] at e3 l3
  subst e3
  have O3 := Lib.hid o3
  have N3 : Hid (n3 = n1 + 3) := Lib.hid (by rw [hn3, List.length_append, N1.out]; rfl)
  have q1 : (n1 : Int) ≤ (c3 : Int) := by have := N3.out; omega
  have q2 : n1 ≤ c3 := by omega
  have SB : Hid (∀ W, Below w3.heap.size w3 W → Bytes W (.slice a3 n1 c3) p) := Lib.hid (fun W h => by
    have hb := (O3.out.below h).bytes
    rw [hn3] at hb
    have ht := hb.take n1 (by rw [List.length_append]; have := N1.out; omega)
    rw [N1.out, List.take_left' rfl, ← N1.out] at ht
    exact ht)
  unfold maxLen at m3
  clear o3 g3 O2 BB2 B1 hn3
  go_wp2_with fail
  go_region_held (fun W : World => W.cell? ⟨g5, 0, none⟩ = some (.int .i64 g.ep) ∧ W.cell? ⟨g5, 1, none⟩ = some (.int .i64 g.st) ∧ W.cell? ⟨g5, 2, none⟩ = some (.int .i64 g.ix) ∧ W.cell? ⟨g5, 3, none⟩ = some (.int .i64 g.tot) ∧ W.cell? ⟨g5, 4, none⟩ = some (.int .i64 g.by_)) (first | exact KS.out _ hB4 | exact KS.out _ (BD.out _ XB3.out)) (first | (go_at_call 7; refine (BL.out _ _ (SB.out _ (DD.out _)) (BD.out _ XB3.out)).mono ?_; rintro _ w4 ⟨a5, n5, c5, rfl, hO4, hL4, hB4⟩))
  have L4 : Hid (Below w3.heap.size w3 w4) := Lib.hid ((DD.out w3).trans hL4)
  have XB4 := Lib.hid hB4
  have O4 : Hid (Own w3.heap.size w4 (.slice a5 n5 c5) kl) := Lib.hid hO4
  have O34 := Lib.hid (O3.out.below L4.out)
  clear hO4 hL4 hB4 SB O3
  go_wp2_with fail
  go_region_held (fun W : World => W.cell? ⟨g5, 0, none⟩ = some (.int .i64 g.ep) ∧ W.cell? ⟨g5, 1, none⟩ = some (.int .i64 g.st) ∧ W.cell? ⟨g5, 2, none⟩ = some (.int .i64 g.ix) ∧ W.cell? ⟨g5, 3, none⟩ = some (.int .i64 g.tot) ∧ W.cell? ⟨g5, 4, none⟩ = some (.int .i64 g.by_)) (first | exact KS.out _ hB6 | exact KS.out _ hX5 | exact KS.out _ (BD.out _ XB4.out)) (first | (go_at_call 6; refine (OW1.out _ (BD.out _ XB4.out)).mono ?_; rintro _ w5 ⟨u5, rfl, hO5, hB5, hX5⟩) | (go_at_call 8; refine (RB.out _ _ hO5.bytes hX5).mono ?_; rintro _ w6 ⟨a6, n6, c6, rfl, hO6, hL6, hB6⟩))
  have L6 : Hid (Below w4.heap.size w4 w6) := Lib.hid ((DD.out w4).trans (hB5.trans (hL6.mono hB5.size)))
  have XB6 := Lib.hid hB6
  have S6 : Hid (Calls Try.prog 9 #[.slice a5 n5 c5, .slice a6 n6 c6] w6 fun e w' => e = .returned (.bool true) ∧ w' = w6) := Lib.hid (by
    have := sameW_any _ _ kl kl w6 (O4.out.below L6.out).bytes hO6.bytes
    rw [decide_eq_true rfl] at this
    exact this)
  have O36 := Lib.hid (O34.out.below L6.out)
  clear hO5 hB5 hX5 hO6 hL6 hB6 O34 O4 L4 L6 BL RB XB3 XB4 q1 q2
  go_wp2_with fail
  refine S6.out.mono ?_
  rintro _ q ⟨rfl, e1⟩
  obtain rfl := e1.symm
  clear S6
  go_wp2_with fail
  refine (OW1.out w6 XB6.out).mono ?_
  rintro _ w7 ⟨u7, rfl, ho7, hb7, hx7⟩
  have O7 := Lib.hid ho7
  have BB7 := Lib.hid hb7
  obtain ⟨a7, n7, c7, e7⟩ : ∃ a n c, u7 = .slice a n c := by obtain ⟨a, c, e, _⟩ := ho7.bytes.len; exact ⟨a, _, c, e⟩
  subst e7
  clear ho7 hb7 hx7
  go_wp2_with (at_builtin; refine app3g (.tmp 54) (.tmp 55) rfl rfl rfl O7.out BB7.out.size rfl HPL.out ?_)
  intro u8 w8 o8 g8
  have B8 : Hid (Below w6.heap.size w6 w8) := Lib.hid (BB7.out.trans (grown_below g8 O7.out BB7.out.size))
  have XB8 : Hid (Below X.heap.size X w8) := Lib.hid (XB6.out.trans (B8.out.mono XB6.out.size))
  obtain ⟨a8, n8, c8', e8⟩ : ∃ a n c, u8 = .slice a n c := by obtain ⟨a, c, e, _⟩ := o8.bytes.len; exact ⟨a, _, c, e⟩
  subst e8
  have S8 : Hid (Calls Try.prog 9 #[.slice a3 n3 c3, .slice a8 n8 c8'] w8 fun e w' => e = .returned (.bool true) ∧ w' = w8) := Lib.hid (by
    have := sameW_any _ _ (p ++ [165, 166, 167]) (p ++ [165, 166, 167]) w8 (O36.out.below B8.out).bytes o8.bytes
    rw [decide_eq_true rfl] at this
    exact this)
  clear o8 g8 O7 BB7 B8 O36 OW1 XB6
  go_wp2_with fail
  refine S8.out.mono ?_
  rintro _ q ⟨rfl, e1⟩
  obtain rfl := e1.symm
  clear S8
  go_wp2_with fail
  refine (OW4.out w8 XB8.out).mono ?_
  rintro _ w9 ⟨u9, rfl, ho9, hb9, _⟩
  have O9 := Lib.hid ho9
  have BB9 := Lib.hid hb9
  obtain ⟨a9, n9, c9, e9⟩ : ∃ a n c, u9 = .slice a n c := by obtain ⟨a, c, e, _⟩ := ho9.bytes.len; exact ⟨a, _, c, e⟩
  subst e9
  clear ho9 hb9
  go_wp2_with (at_builtin; refine app3 rfl (.tmp 61) (.tmp 62) rfl rfl O9.out BB9.out.size rfl HBL.out ?_)
  intro u10 w10 o10 g10
  have B10 : Hid (Below w8.heap.size w8 w10) := Lib.hid (BB9.out.trans (grown_below g10 O9.out BB9.out.size))
  have XB10 : Hid (Below X.heap.size X w10) := Lib.hid (XB8.out.trans (B10.out.mono XB8.out.size))
  obtain ⟨a10, c10, e10, l10, m10⟩ := o10.bytes.len
  obtain ⟨n10, hn10⟩ : ∃ n10, n10 = (b ++ [165, 166, 167]).length := ⟨_, rfl⟩
  rw [← hn10] at e10 l10
  subst e10
  have O10 := Lib.hid o10
  have N10 : Hid (n10 = n4 + 3) := Lib.hid (by rw [hn10, List.length_append, N4.out]; rfl)
  have q1 : (n4 : Int) ≤ (c10 : Int) := by have := N10.out; omega
  have q2 : n4 ≤ c10 := by omega
  have SB : Hid (Bytes w10 (.slice a10 n4 c10) b) := Lib.hid (by
    have hb := O10.out.bytes
    rw [hn10] at hb
    have ht := hb.take n4 (by rw [List.length_append]; have := N4.out; omega)
    rw [N4.out, List.take_left' rfl, ← N4.out] at ht
    exact ht)
  unfold maxLen at m10
  clear o10 g10 O9 BB9 XB8 hn10 B10
  go_wp2_with fail
  refine (UB.out w10 _ SB.out).mono ?_
  rintro _ w11 ⟨a11, n11, c11, rfl, ho11, hb11⟩
  have O11 := Lib.hid ho11
  have BB11 := Lib.hid hb11
  clear ho11 hb11 SB q1 q2
  obtain ⟨Y, hY⟩ : ∃ Y, Y = w11.alloc (.cells #[.int .i64 h0, .int .i64 h1, .int .i64 h2, .int .i64 h3, .int .i64 h4] 23) := ⟨_, rfl⟩
  obtain ⟨gy, hgy⟩ : ∃ gy, gy = w11.heap.size := ⟨_, rfl⟩
  have YB : Hid (Below w10.heap.size w10 Y) := Lib.hid (by rw [hY]; exact BB11.out.alloc BB11.out.size _)
  have YX : Hid (Below X.heap.size X Y) := Lib.hid (XB10.out.trans (YB.out.mono XB10.out.size))
  have YC : Hid (Y.heap[gy]? = some (.cells #[.int .i64 h0, .int .i64 h1, .int .i64 h2, .int .i64 h3, .int .i64 h4] 23 (0, 0))) := Lib.hid (by rw [hY, hgy]; exact heap_alloc_new _ _)
  have YO : Hid (Own w10.heap.size Y (.slice a11 n11 c11) ul) := Lib.hid (by rw [hY]; exact World.ownsRow.alloc O11.out _)
  have hY' := hY.symm
  have hgy' := hgy.symm
  clear hY hgy O11 BB11 XB10
  go_wp2_with fail
  refine (OW4.out Y YX.out).mono ?_
  rintro _ w12 ⟨u12, rfl, ho12, hb12, hx12⟩
  have BB12 := Lib.hid hb12
  have XB12 := Lib.hid hx12
  have RU12 := Lib.hid (RU.out w12 u12 ho12.bytes)
  clear ho12 hb12 hx12 hY' hgy' RU UB
  go_wp2_with fail
  refine RU12.out.mono ?_
  rintro _ w13 ⟨a13, n13, c13, rfl, ho13, hb13⟩
  obtain ⟨Z, hZ⟩ : ∃ Z, Z = w13.alloc (.cells #[.int .i64 h0, .int .i64 h1, .int .i64 h2, .int .i64 h3, .int .i64 h4] 23) := ⟨_, rfl⟩
  obtain ⟨gz, hgz⟩ : ∃ gz, gz = w13.heap.size := ⟨_, rfl⟩
  have ZB : Hid (Below Y.heap.size Y Z) := Lib.hid (by
    rw [hZ]
    have := BB12.out.trans (hb13.mono BB12.out.size)
    exact this.alloc this.size _)
  have ZX : Hid (Below X.heap.size X Z) := Lib.hid (YX.out.trans (ZB.out.mono YX.out.size))
  have ZC : Hid (Z.heap[gz]? = some (.cells #[.int .i64 h0, .int .i64 h1, .int .i64 h2, .int .i64 h3, .int .i64 h4] 23 (0, 0))) := Lib.hid (by rw [hZ, hgz]; exact heap_alloc_new _ _)
  have ZY : Hid (Z.heap[gy]? = some (.cells #[.int .i64 h0, .int .i64 h1, .int .i64 h2, .int .i64 h3, .int .i64 h4] 23 (0, 0))) := Lib.hid ((ZB.out.block gy (lt_of_heap YC.out)).trans YC.out)
  have ZO : Hid (Own w12.heap.size Z (.slice a13 n13 c13) ul) := Lib.hid (by rw [hZ]; exact World.ownsRow.alloc ho13 _)
  have S13 : Hid (Calls Try.prog 9 #[.slice a11 n11 c11, .slice a13 n13 c13] Z fun e w' => e = .returned (.bool true) ∧ w' = Z) := Lib.hid (by
    have := sameW_any _ _ ul ul Z (YO.out.below ZB.out).bytes ZO.out.bytes
    rw [decide_eq_true rfl] at this
    exact this)
  have O13 := Lib.hid ((O10.out.below YB.out).below ZB.out)
  have hZ' := hZ.symm
  have hgz' := hgz.symm
  have EQ := fun (w : World) => grp_eq h0 h1 h2 h3 h4 w
  obtain ⟨y0, y1, y2, y3, y4⟩ : Z.cell? ⟨gy, 0, none⟩ = some (.int .i64 h0) ∧ Z.cell? ⟨gy, 1, none⟩ = some (.int .i64 h1) ∧ Z.cell? ⟨gy, 2, none⟩ = some (.int .i64 h2) ∧ Z.cell? ⟨gy, 3, none⟩ = some (.int .i64 h3) ∧ Z.cell? ⟨gy, 4, none⟩ = some (.int .i64 h4) := by
    refine ⟨?_, ?_, ?_, ?_, ?_⟩ <;> (rw [cell_of_row Z gy _ _ _ _ ZY.out]; rfl)
  obtain ⟨z0, z1, z2, z3, z4⟩ : Z.cell? ⟨gz, 0, none⟩ = some (.int .i64 h0) ∧ Z.cell? ⟨gz, 1, none⟩ = some (.int .i64 h1) ∧ Z.cell? ⟨gz, 2, none⟩ = some (.int .i64 h2) ∧ Z.cell? ⟨gz, 3, none⟩ = some (.int .i64 h3) ∧ Z.cell? ⟨gz, 4, none⟩ = some (.int .i64 h4) := by
    refine ⟨?_, ?_, ?_, ?_, ?_⟩ <;> (rw [cell_of_row Z gz _ _ _ _ ZC.out]; rfl)
  clear ho13 hb13 hZ hgz RU12 BB12 XB12 YB YX YC YO ZY ZC ZO ZB O10
  go_wp2_with fail
  refine S13.out.mono ?_
  rintro _ q ⟨rfl, e1⟩
  obtain rfl := e1.symm
  clear S13 y0 y1 y2 y3 y4 z0 z1 z2 z3 z4 hZ' hgz' EQ
  go_wp2_with fail
  refine (OW4.out Z ZX.out).mono ?_
  rintro _ w14 ⟨u14, rfl, ho14, hb14, _⟩
  have O14 := Lib.hid ho14
  have BB14 := Lib.hid hb14
  obtain ⟨a14, n14, c14, e14⟩ : ∃ a n c, u14 = .slice a n c := by obtain ⟨a, c, e, _⟩ := ho14.bytes.len; exact ⟨a, _, c, e⟩
  subst e14
  clear ho14 hb14
  go_wp2_with (at_builtin; refine app3g (.tmp 96) (.tmp 97) rfl rfl rfl O14.out BB14.out.size rfl HBL.out ?_)
  intro u15 w15 o15 g15
  have B15 : Hid (Below Z.heap.size Z w15) := Lib.hid (BB14.out.trans (grown_below g15 O14.out BB14.out.size))
  have XB15 : Hid (Below X.heap.size X w15) := Lib.hid (ZX.out.trans (B15.out.mono ZX.out.size))
  obtain ⟨a15, n15, c15, e15⟩ : ∃ a n c, u15 = .slice a n c := by obtain ⟨a, c, e, _⟩ := o15.bytes.len; exact ⟨a, _, c, e⟩
  subst e15
  have S15 : Hid (Calls Try.prog 9 #[.slice a10 n10 c10, .slice a15 n15 c15] w15 fun e w' => e = .returned (.bool true) ∧ w' = w15) := Lib.hid (by
    have := sameW_any _ _ (b ++ [165, 166, 167]) (b ++ [165, 166, 167]) w15 (O13.out.below B15.out).bytes o15.bytes
    rw [decide_eq_true rfl] at this
    exact this)
  clear o15 g15 O14 BB14 B15 O13 OW4
  go_wp2_with fail
  refine S15.out.mono ?_
  rintro _ q ⟨rfl, e1⟩
  obtain rfl := e1.symm
  go_wp2_with fail
  go_ret
  exact ⟨rfl, (PW.out _ XB15.out).2.2⟩
end Go.Proofs.Ytfljbipnjfciaab
