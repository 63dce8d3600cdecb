/-
  The document's keysOf and leaf.
-/
import Derived.Test.YtcdejeejhdpkaaaPgRa
namespace Go.Proofs.Ytcdejeejhdpkaaa
open Go.RowKit Go.Maps
set_option maxHeartbeats 2000000 in
theorem keysOf_any (v : Value) (xs : List Ent) (w : World) (hv : Ents w v xs) (hn8 : xs.length ≤ 8796093022208) :
    Calls Try.prog 61 #[v] w fun e w' => ∃ v', e = .returned v' ∧ Strs w' v' (xs.map (·.1)) ∧ Below w.heap.size w w' := by
  have V := Lib.hid hv
  obtain ⟨a, cap, rfl, hlc, hcm⟩ := hv.len
  unfold maxLen at hcm
  obtain ⟨n, hn⟩ : ∃ n, n = xs.length := ⟨_, rfl⟩
  rw [← hn] at hlc hn8 ⊢
  have HN := Lib.hid hn
  obtain ⟨ts, hts⟩ : ∃ ts, ts = xs.map (·.1) := ⟨_, rfl⟩
  have TL : Hid (ts.length = n ∧ ∀ k, k < n → ts.getD k ⟨#[]⟩ = (xs.getD k (⟨#[]⟩, ⟨#[]⟩)).1) := Lib.hid ⟨by rw [hts, List.length_map, hn], fun k hk => by
    rw [hts, List.getD_eq_getElem?_getD, List.getD_eq_getElem?_getD, List.getElem?_map, List.getElem?_eq_getElem (by omega)]; rfl⟩
  rw [← hts]
  clear hv hn hts
  go_enter Try.func61, Try.ntmps61
  go_wp2_with fail
  go_loopg [3, 4] n (fun gg sv si wr => ∃ (k : Nat) (a6 : Option Addr) (c6 : Nat), k ≤ n ∧ gg = n - k ∧ si = .int .i64 k ∧ sv = .slice a6 k c6 ∧ OwnS w.heap.size wr (.slice a6 k c6) (ts.take k) ∧ Below w.heap.size w wr)
  case atStart => exact ⟨0, _, _, Nat.zero_le _, rfl, rfl, rfl, World.ownsRow_nil _ _ _ _, Below.refl _ _⟩
  case round =>
    obtain ⟨k, a6, c6, hk, hg, rfl, rfl, ho, hb⟩ := hrel
    have R : Aside (gk = n - k ∧ OwnS w.heap.size wr (.slice a6 k c6) (ts.take k) ∧ Below w.heap.size w wr) := ⟨hg, ho, hb⟩
    clear hg ho hb
    have TK : Hid ((ts.take k).length = k) := Lib.hid (by rw [List.length_take, TL.out.1]; omega)
    by_cases hlt : k < n
    · obtain ⟨b, off, ha, c0, c1⟩ := (V.out.below R.out.2.2).at k (by rw [← HN.out]; exact hlt)
      subst ha
      rw [← TL.out.2 k hlt] at c0
      obtain ⟨x, hx⟩ : ∃ x, x = ts.getD k ⟨#[]⟩ := ⟨_, rfl⟩
      rw [← hx] at c0
      have TO := Lib.hid (take_oneI ts k ⟨#[]⟩ (by rw [TL.out.1]; exact hlt))
      rw [← hx] at TO
      clear hx
      have hlt' : (k : Int) < (n : Int) := by omega
      have L9 : Hid (((ts.take k).length + 1) * 16 ≤ 140737488355328) := Lib.hid (by rw [TK.out]; omega)
      have SB := Lib.hid R.out.2.2.size
      go_wp2_with (at_builtin; refine app_txt rfl (.tmp 11) (.tmp 17) rfl (B := w.heap.size) (w0 := wr) (v := .slice a6 k c6) (ts := ts.take k) rfl R.out.2.1 SB.out x rfl L9.out ?_; intro v7 w7 h71 h72; have H7 := Lib.hid (And.intro h71 h72); clear h71 h72)
      obtain ⟨a7, c7, h7, -, -⟩ := H7.out.1.strs.len
      rw [List.length_append, TK.out] at h7
      have h7' : v7 = .slice a7 (k + 1) c7 := h7
      subst h7'
      clear h7
      have B7 := Lib.hid (R.out.2.2.trans ((grown_kept H7.out.2).below R.out.2.2.size (fun x hx => (R.out.2.1.lt x hx.symm).1)))
      go_wp2_with fail
      go_roundg (n - (k + 1))
      case measure => have := R.out.1; omega
      case rel => exact ⟨k + 1, a7, c7, by omega, rfl, by go_num, rfl, by rw [TO.out]; exact H7.out.1, B7.out⟩
    · have ek : ts.take k = ts := List.take_of_length_le (by rw [TL.out.1]; omega)
      have O2 := Lib.hid R.out.2.1
      rw [ek] at O2
      go_wp2_with fail
      go_ret
      exact ⟨_, rfl, O2.out.strs, R.out.2.2⟩
def stA : List Ent → List Int → Bool
  | [], _ => true
  | _ :: _, [] => false
  | e :: es, c :: cs => staB e.2 c && stA es cs
theorem leafG_split : ∀ (es : List Ent) (cs : List Int) (l : ByteArray), cs.length = es.length → leafG l es cs = (stA es cs && innG l (es.map (·.1)))
  | [], _, _, _ => rfl
  | e :: es, [], _, h => by simp at h
  | e :: es, c :: cs, l, h => by
    rw [leafG, stA, List.map_cons, innG, leafG_split es cs e.1 (by simpa using h)]
    cases folB l e.1 <;> cases staB e.2 c <;> simp
theorem stA_at (es : List Ent) (cs : List Int) (k : Nat) (h1 : k < es.length) (h2 : k < cs.length) : stA (es.drop k) (cs.drop k) = (staB (es.getD k (⟨#[]⟩, ⟨#[]⟩)).2 (cs.getD k 0) && stA (es.drop (k + 1)) (cs.drop (k + 1))) := by
  have e1 : es.drop k = es.getD k (⟨#[]⟩, ⟨#[]⟩) :: es.drop (k + 1) := by rw [List.getD_eq_getElem?_getD, List.getElem?_eq_getElem h1]; simp
  have e2 : cs.drop k = cs.getD k 0 :: cs.drop (k + 1) := by rw [List.getD_eq_getElem?_getD, List.getElem?_eq_getElem h2]; simp
  rw [e1, e2, stA]
/-- What the document asks of a leaf. -/
def rlB (n : Nd) : Bool := decide (n.ents.length ≠ 0) && (decide (n.chs.length = n.ents.length) && (decide (n.keys.length = 0) && (decide (n.kids.length = 0) && (decide (n.next = 0) && (decide (n.data.size = 0) && leafG ⟨#[]⟩ n.ents n.chs)))))
set_option maxHeartbeats 8000000 in
set_option maxRecDepth 100000 in
theorem rleaf_any (n : Nd) (v : Nv) (w : World) (hv : Ls w v n) (hz : Sz n) :
    Calls Try.prog 55 #[.agg (n.arr v)] w fun e w' => e = .returned (.bool (rlB n)) ∧ Below w.heap.size w w' := by
  have V := Lib.hid hv
  have Z := Lib.hid hz
  have BK := Lib.hid dblock_any
  obtain ⟨r, hr⟩ : ∃ r, r = rlB n := ⟨_, rfl⟩
  rw [← hr]
  have RR := Lib.hid hr
  obtain ⟨kind, ents, chs, keys, kids, next, data⟩ := n
  obtain ⟨ve, vc, vk, vh⟩ := v
  unfold rlB at RR
  simp only at RR
  obtain ⟨ae, ce, he, hle, hme⟩ := hv.e.len
  obtain ⟨ac, cc, hc, hlc, hmc⟩ := hv.c.len
  obtain ⟨ak, ck, hk, hlk, hmk⟩ := hv.k.len
  obtain ⟨ah, ch, hh, hlh, hmh⟩ := hv.h.len
  simp only at he hc hk hh hle hlc hlk hlh
  subst he hc hk hh
  unfold maxLen at hme hmc hmk hmh
  unfold Nd.arr
  simp only
  obtain ⟨ne, hne⟩ : ∃ k, k = ents.length := ⟨_, rfl⟩
  obtain ⟨nc, hnc⟩ : ∃ k, k = chs.length := ⟨_, rfl⟩
  obtain ⟨nk, hnk⟩ : ∃ k, k = keys.length := ⟨_, rfl⟩
  obtain ⟨nh, hnh⟩ : ∃ k, k = kids.length := ⟨_, rfl⟩
  rw [← hne, ← hnc, ← hnk, ← hnh] at RR
  rw [← hne, ← hnc, ← hnk, ← hnh]
  rw [← hne] at hle; rw [← hnc] at hlc; rw [← hnk] at hlk; rw [← hnh] at hlh
  have HE := Lib.hid hne; have HC := Lib.hid hnc; have HK := Lib.hid hnk; have HH := Lib.hid hnh
  obtain ⟨gx, hgx⟩ : ∃ gx, gx = w.heap.size := ⟨_, rfl⟩
  obtain ⟨X, hX⟩ : ∃ X, X = w.alloc (.cells #[.int .i64 kind, .slice ae ne ce, .slice ac nc cc, .slice ak nk ck, .slice ah nh ch, .int .i64 next, .string data] 27) := ⟨_, rfl⟩
  have XB : Hid (Below w.heap.size w X) := Lib.hid (by rw [hX]; exact (Below.refl _ _).alloc (Nat.le_refl _) _)
  have XG : Hid (X.heap[gx]? = some (.cells #[.int .i64 kind, .slice ae ne ce, .slice ac nc cc, .slice ak nk ck, .slice ah nh ch, .int .i64 next, .string data] 27 (0, 0))) := Lib.hid (by rw [hX, hgx]; exact heap_alloc_new _ _)
  have CX : Hid (∀ W, Below X.heap.size X W → W.heap[gx]? = some (.cells #[.int .i64 kind, .slice ae ne ce, .slice ac nc cc, .slice ak nk ck, .slice ah nh ch, .int .i64 next, .string data] 27 (0, 0))) := Lib.hid (fun W h => (h.block gx (lt_of_heap XG.out)).trans XG.out)
  have EN : Hid (∀ W, Below X.heap.size X W → Below w.heap.size w W) := Lib.hid (fun W h => XB.out.trans (h.mono XB.out.size))
  obtain ⟨x0, x1, x2, x3, x4, x5, x6⟩ := node_cells XG.out
  have hX' := hX.symm
  have hgx' := hgx.symm
  clear hr hv hz hne hnc hnk hnh hX hgx
  by_cases q0 : ne ≠ 0
  case neg =>
    have q := q0
    have f0_0 : ((ne : Int) == 0) = true := by rw [beq_iff_eq]; omega
    obtain rfl : r = false := by rw [RR.out, show decide (ne ≠ 0) = false from decide_eq_false q0]; simp
    clear RR q q0
    go_enter Try.func55, Try.ntmps55
    go_wp2_with fail
    go_ret
    exact ⟨rfl, XB.out⟩
  have q := q0
  have f0_0 : ((ne : Int) == 0) = false := by rw [beq_eq_false_iff_ne]; omega
  clear q
  by_cases q1 : nc = ne
  case neg =>
    have q := q1
    have f1_0 : ((nc : Int) != (ne : Int)) = true := by rw [bne_iff_ne]; omega
    obtain rfl : r = false := by rw [RR.out, show decide (ne ≠ 0) = true from decide_eq_true q0, show decide (nc = ne) = false from decide_eq_false q1]; simp
    clear RR q q0 q1
    go_enter Try.func55, Try.ntmps55
    go_wp2_with fail
    go_ret
    exact ⟨rfl, XB.out⟩
  have q := q1
  have f1_0 : ((nc : Int) != (ne : Int)) = false := by rw [bne_eq_false_iff_eq]; omega
  clear q
  by_cases q2 : nk = 0
  case neg =>
    have q := q2
    have f2_0 : decide ((nk : Int) > 0) = true := by exact decide_eq_true (by omega)
    have f2_1 : decide (0 < nk) = true := by exact decide_eq_true (by omega)
    obtain rfl : r = false := by rw [RR.out, show decide (ne ≠ 0) = true from decide_eq_true q0, show decide (nc = ne) = true from decide_eq_true q1, show decide (nk = 0) = false from decide_eq_false q2]; simp
    clear RR q q0 q1 q2
    go_enter Try.func55, Try.ntmps55
    go_wp2_with fail
    go_ret
    exact ⟨rfl, XB.out⟩
  have q := q2
  have f2_0 : decide ((nk : Int) > 0) = false := by exact decide_eq_false (by omega)
  have f2_1 : decide (0 < nk) = false := by exact decide_eq_false (by omega)
  clear q
  by_cases q3 : nh = 0
  case neg =>
    have q := q3
    have f3_0 : decide ((nh : Int) > 0) = true := by exact decide_eq_true (by omega)
    have f3_1 : decide (0 < nh) = true := by exact decide_eq_true (by omega)
    obtain rfl : r = false := by rw [RR.out, show decide (ne ≠ 0) = true from decide_eq_true q0, show decide (nc = ne) = true from decide_eq_true q1, show decide (nk = 0) = true from decide_eq_true q2, show decide (nh = 0) = false from decide_eq_false q3]; simp
    clear RR q q0 q1 q2 q3
    go_enter Try.func55, Try.ntmps55
    go_wp2_with fail
    go_ret
    exact ⟨rfl, XB.out⟩
  have q := q3
  have f3_0 : decide ((nh : Int) > 0) = false := by exact decide_eq_false (by omega)
  have f3_1 : decide (0 < nh) = false := by exact decide_eq_false (by omega)
  clear q
  by_cases q4 : next = 0
  case neg =>
    have q := q4
    have f4_0 : (next != 0) = true := by simp [q]
    obtain rfl : r = false := by rw [RR.out, show decide (ne ≠ 0) = true from decide_eq_true q0, show decide (nc = ne) = true from decide_eq_true q1, show decide (nk = 0) = true from decide_eq_true q2, show decide (nh = 0) = true from decide_eq_true q3, show decide (next = 0) = false from decide_eq_false q4]; simp
    clear RR q q0 q1 q2 q3 q4
    go_enter Try.func55, Try.ntmps55
    go_wp2_with fail
    go_ret
    exact ⟨rfl, XB.out⟩
  have q := q4
  have f4_0 : (next != 0) = false := by simp [q]
  clear q
  by_cases q5 : data.size = 0
  case neg =>
    have q := q5
    have f5_0 : data.toList.isEmpty = false := by rw [isEmpty_of]; exact decide_eq_false q
    obtain rfl : r = false := by rw [RR.out, show decide (ne ≠ 0) = true from decide_eq_true q0, show decide (nc = ne) = true from decide_eq_true q1, show decide (nk = 0) = true from decide_eq_true q2, show decide (nh = 0) = true from decide_eq_true q3, show decide (next = 0) = true from decide_eq_true q4, show decide (data.size = 0) = false from decide_eq_false q5]; simp
    clear RR q q0 q1 q2 q3 q4 q5
    go_enter Try.func55, Try.ntmps55
    go_wp2_with fail
    go_ret
    exact ⟨rfl, XB.out⟩
  have q := q5
  have f5_0 : data.toList.isEmpty = true := by rw [isEmpty_of]; exact decide_eq_true q
  clear q
  have RL : Hid (r = (stA ents chs && innG ⟨#[]⟩ (ents.map (·.1)))) := Lib.hid (by rw [RR.out, show decide (ne ≠ 0) = true from decide_eq_true q0, show decide (nc = ne) = true from decide_eq_true q1, show decide (nk = 0) = true from decide_eq_true q2, show decide (nh = 0) = true from decide_eq_true q3, show decide (next = 0) = true from decide_eq_true q4, show decide (data.size = 0) = true from decide_eq_true q5, leafG_split _ _ _ (by rw [← HE.out, ← HC.out]; exact q1)]; simp)
  have QS := Lib.hid q1
  clear RR q0 q1 q2 q3 q4 q5
  have KO : Hid (∀ W, Below X.heap.size X W → Calls Try.prog 61 #[.slice ae ne ce] W fun e w' => ∃ v', e = .returned v' ∧ Strs w' v' (ents.map (·.1)) ∧ Below W.heap.size W w') := Lib.hid (fun W h => by
    have q := V.out.e.below (EN.out W h)
    simp only at q
    rw [← HE.out] at q
    exact keysOf_any _ ents W q Z.out.e)
  go_enter Try.func55, Try.ntmps55
  go_wp2_with fail
  clear x0 x1 x2 x3 x4 x5 x6 hX' hgx'
  go_loopg [3] ne (fun gg si wr => ∃ (k : Nat), k ≤ ne ∧ gg = ne - k ∧ si = .int .i64 k ∧ r = (stA (ents.drop k) (chs.drop k) && innG ⟨#[]⟩ (ents.map (·.1))) ∧ Below X.heap.size X wr)
  case atStart => exact ⟨0, Nat.zero_le _, rfl, rfl, RL.out, Below.refl _ _⟩
  case round =>
    obtain ⟨k, hk, hg, rfl, hrr, hb⟩ := hrel
    have R : Aside (gk = ne - k ∧ r = (stA (ents.drop k) (chs.drop k) && innG ⟨#[]⟩ (ents.map (·.1))) ∧ Below X.heap.size X wr) := ⟨hg, hrr, hb⟩
    clear hg hrr hb
    obtain ⟨x0, x1, x2, x3, x4, x5, x6⟩ := node_cells (CX.out wr R.out.2.2)
    by_cases hlt : k < ne
    · obtain ⟨b, off, hae, c0, c1⟩ := (V.out.e.below (EN.out wr R.out.2.2)).at k (by rw [← HE.out]; exact hlt)
      obtain ⟨b', off', hac, d0⟩ := (V.out.c.below (EN.out wr R.out.2.2)).at k (by rw [← HC.out, QS.out]; exact hlt)
      simp only at hae hac c0 c1 d0
      subst hae hac
      have SA := Lib.hid (stA_at ents chs k (by rw [← HE.out]; exact hlt) (by rw [← HC.out, QS.out]; exact hlt))
      obtain ⟨x, hx⟩ : ∃ x, x = (ents.getD k (⟨#[]⟩, ⟨#[]⟩)).2 := ⟨_, rfl⟩
      obtain ⟨c, hc⟩ : ∃ c, c = chs.getD k 0 := ⟨_, rfl⟩
      rw [← hx] at c1 SA
      rw [← hc] at d0 SA
      clear hx hc c0
      have hlt' : (k : Int) < (ne : Int) := by omega
      have hlt2 : (k : Int) < (nc : Int) := by have := QS.out; omega
      by_cases h0 : c = 0
      · subst h0
        by_cases h6 : 64 < x.size
        · have g6 : decide ((x.size : Int) > 64) = true := decide_eq_true (by omega)
          have g6' : decide (64 < x.size) = true := decide_eq_true h6
          have FA : Hid (r = false) := Lib.hid (by rw [R.out.2.1, SA.out]; unfold staB; rw [if_pos rfl, show decide (x.size ≤ 64) = false from decide_eq_false (by omega)]; simp)
          go_wp2_with fail
          go_ret
          exact ⟨by rw [FA.out]; rfl, EN.out _ R.out.2.2⟩
        · have g6 : decide ((x.size : Int) > 64) = false := decide_eq_false (by omega)
          have g6' : decide (64 < x.size) = false := decide_eq_false h6
          have NX : Hid (r = (stA (ents.drop (k + 1)) (chs.drop (k + 1)) && innG ⟨#[]⟩ (ents.map (·.1)))) := Lib.hid (by rw [R.out.2.1, SA.out]; unfold staB; rw [if_pos rfl, show decide (x.size ≤ 64) = true from decide_eq_true (by omega)]; simp)
          go_wp2_with fail
          go_roundg (ne - (k + 1))
          case measure => have := R.out.1; omega
          case rel => exact ⟨k + 1, by omega, rfl, by go_num, NX.out, R.out.2.2⟩
      · have e0 : (c == 0) = false := by simp [h0]
        have e1 : (c != 0) = true := by simp [h0]
        have ST : Hid (staB x c = (blkB c && decide (x.size = 0))) := Lib.hid (by unfold staB; rw [if_neg h0])
        clear h0
        by_cases h6 : 0 < x.size
        · have g6 : decide ((x.size : Int) > 0) = true := decide_eq_true (by omega)
          have g6' : decide (0 < x.size) = true := decide_eq_true h6
          have FA : Hid (r = false) := Lib.hid (by rw [R.out.2.1, SA.out, ST.out, show decide (x.size = 0) = false from decide_eq_false (by omega)]; simp)
          go_wp2_with fail
          go_ret
          exact ⟨by rw [FA.out]; rfl, EN.out _ R.out.2.2⟩
        · have g6 : decide ((x.size : Int) > 0) = false := decide_eq_false (by omega)
          have g6' : decide (0 < x.size) = false := decide_eq_false h6
          cases hbk : blkB c with
          | false =>
            have FA : Hid (r = false) := Lib.hid (by rw [R.out.2.1, SA.out, ST.out, hbk]; simp)
            go_wp2_with (go_at_call 59; refine (BK.out _ _).mono ?_; rw [hbk]; rintro e wr ⟨rfl, rfl⟩)
            go_ret
            exact ⟨by rw [FA.out]; rfl, EN.out _ R.out.2.2⟩
          | true =>
            have NX : Hid (r = (stA (ents.drop (k + 1)) (chs.drop (k + 1)) && innG ⟨#[]⟩ (ents.map (·.1)))) := Lib.hid (by rw [R.out.2.1, SA.out, ST.out, hbk, show decide (x.size = 0) = true from decide_eq_true (by omega)]; simp)
            go_wp2_with (go_at_call 59; refine (BK.out _ _).mono ?_; rw [hbk]; rintro e wr ⟨rfl, rfl⟩)
            go_roundg (ne - (k + 1))
            case measure => have := R.out.1; omega
            case rel => exact ⟨k + 1, by omega, rfl, by go_num, NX.out, R.out.2.2⟩
    · have FA : Hid (r = innG ⟨#[]⟩ (ents.map (·.1))) := Lib.hid (by rw [R.out.2.1, List.drop_eq_nil_of_le (by rw [← HE.out]; omega)]; rfl)
      go_wp2_with (first | (go_at_call 61; refine (KO.out _ R.out.2.2).mono ?_; rintro e w5 ⟨v5, rfl, s5, hb⟩; have B5 := Lib.hid (And.intro s5 (R.out.2.2.trans (hb.mono R.out.2.2.size))); clear s5 hb) | (go_at_call 60; refine (rising_any _ _ w5 B5.out.1).mono ?_; rintro e w6 ⟨rfl, hb⟩; have B6 := Lib.hid (B5.out.2.trans (hb.mono B5.out.2.size)); clear hb))
      go_ret
      exact ⟨by rw [FA.out]; rfl, EN.out _ B6.out⟩
end Go.Proofs.Ytcdejeejhdpkaaa
