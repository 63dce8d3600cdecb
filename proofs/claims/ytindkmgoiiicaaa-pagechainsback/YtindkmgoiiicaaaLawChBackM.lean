/-
  PageChainsBack: a value that has a chain.
-/
import Derived.Test.YtindkmgoiiicaaaLawChBack
namespace Go.Proofs.Ytindkmgoiiicaaa
open Go.RowKit Go.Maps
def mkT : ByteArray := ⟨#[109, 97, 114, 107]⟩
theorem marks_next (ps : List Cp) (k : Nat) (h : k < ps.length) (m : Cp) : (List.replicate k m ++ ps.drop k).set k m = List.replicate (k + 1) m ++ ps.drop (k + 1) := by
  rw [List.set_append_right _ _ (by rw [List.length_replicate]; exact Nat.le_refl _), List.length_replicate, Nat.sub_self, List.replicate_succ', List.append_assoc]
  congr 1
  rw [List.drop_eq_getElem_cons h]
  rfl
/-- What is known of a value with a chain. -/
structure Vc (t : ByteArray) (n : Nat) (F S : Int) (bl : List Int) (ps : List Cp) : Prop where
  n1 : 1 ≤ n
  n17 : n ≤ 17
  z0 : 64 < t.size
  z1 : t.size ≤ 8192
  nn : n = lnk t
  n2 : n = (t.size + 499) / 500
  f : 1 ≤ F ∧ F ≤ 1024
  s : 1 ≤ S ∧ S ≤ 128
  b : bl = blF F S n
  bn : bl.length = n
  u : unlB bl = true
  i6 : In64 bl
  p : ps = pgs t bl
  pn : ps.length = n
theorem vc_mk (t : ByteArray) (F S : Int) (z0 : 64 < t.size) (z1 : t.size ≤ 8192) (hF : 1 ≤ F ∧ F ≤ 1024) (hS : 1 ≤ S ∧ S ≤ 128) : Vc t (lnk t) F S (blF F S (lnk t)) (pgs t (blF F S (lnk t))) := by
  have e : lnk t = (t.size + 499) / 500 := by unfold lnk; rw [if_neg (by omega)]
  have h17 : lnk t ≤ 17 := by omega
  exact ⟨by omega, h17, z0, z1, rfl, e, hF, hS, rfl, blF_length _ _ _, blF_unl hF hS h17, in64_small (fun x hx => by have := blF_mem hF hS h17 x hx; omega), rfl, by rw [pgs_length, blF_length]⟩
theorem Vc.at {t : ByteArray} {n : Nat} {F S : Int} {bl : List Int} {ps : List Cp} (h : Vc t n F S bl ps) (k : Nat) (hk : k < n) : ∃ nx d, ps.getD k (0, ⟨#[]⟩) = (nx, d) ∧ nx = bl.getD (k + 1) 0 ∧ d = t.extract (500 * k) (min (500 * k + 500) t.size) ∧ d.size ≠ 0 ∧ d.size ≤ 500 ∧ (k + 1 < n → d.size = 500) ∧ (¬ k + 1 < n → nx = 0) ∧ fitB (ndC (nx, d)) = true ∧ t.extract 0 (min (500 * k) t.size) ++ d = t.extract 0 (min (500 * (k + 1)) t.size) := by
  have hn := h.n2
  have h50 : 500 * k < t.size := by omega
  have hds : (t.extract (500 * k) (min (500 * k + 500) t.size)).size = min (500 * k + 500) t.size - 500 * k := by rw [ByteArray.size_extract]; omega
  refine ⟨_, _, by rw [h.p, pgs_at t bl k (by rw [h.bn]; exact hk)], rfl, rfl, by rw [hds]; omega, by rw [hds]; omega, fun h1 => by rw [hds]; omega, fun h1 => ?_, ?_, ?_⟩
  · rw [List.getD_eq_getElem?_getD, List.getElem?_eq_none (by rw [h.bn]; omega)]; rfl
  · refine fit_chain _ _ (by rw [hds]; omega) (by rw [hds]; omega) ?_
    by_cases h1 : k + 1 < n
    · right
      have hu := h.u
      unfold unlB at hu
      rw [Bool.and_eq_true, List.all_eq_true] at hu
      exact hu.1 _ (getD_mem (by rw [h.bn]; exact h1))
    · left
      rw [List.getD_eq_getElem?_getD, List.getElem?_eq_none (by rw [h.bn]; omega)]; rfl
  · rw [show min (500 * k) t.size = 500 * k by omega, show 500 * (k + 1) = 500 * k + 500 by omega]
    exact ext_join t _ _ (by omega)
theorem in64_take {l : List Int} (h : In64 l) (k : Nat) : In64 (l.take k) := fun n hn => h n (List.mem_of_mem_take hn)
theorem not_links {t : ByteArray} {n : Nat} {F S : Int} {bl : List Int} {ps : List Cp} (h : Vc t n F S bl ps) : In64 (bl ++ [4000]) ∧ ¬ ((bl ++ [4000]).length = lnk t ∧ unlB (bl ++ [4000]) = true) ∧ (1 < n → In64 (bl.take (n - 1) ++ [bl.getD 0 0]) ∧ ¬ ((bl.take (n - 1) ++ [bl.getD 0 0]).length = lnk t ∧ unlB (bl.take (n - 1) ++ [bl.getD 0 0]) = true)) := by
  refine ⟨?_, ?_, fun h1 => ⟨?_, ?_⟩⟩
  · intro x hx
    rcases List.mem_append.1 hx with q | q
    · exact h.i6 x q
    · simp only [List.mem_singleton] at q
      subst q
      decide
  · rw [List.length_append, h.bn, ← h.nn]
    simp
  · intro x hx
    rcases List.mem_append.1 hx with q | q
    · exact h.i6 x (List.mem_of_mem_take q)
    · simp only [List.mem_singleton] at q
      subst q
      exact h.i6 _ (getD_mem (by rw [h.bn]; omega))
  · rintro ⟨_, hu⟩
    unfold unlB at hu
    rw [Bool.and_eq_true] at hu
    refine not_nodupI (ls := bl.take (n - 1)) (ms := []) (l := bl.getD 0 0) ?_ (of_decide_eq_true hu.2)
    have e : (bl.take (n - 1)).getD 0 0 = bl.getD 0 0 := by
      rw [List.getD_eq_getElem?_getD, List.getD_eq_getElem?_getD, List.getElem?_take_of_lt (by omega)]
    rw [← e]
    exact getD_mem (by rw [List.length_take, h.bn]; omega)
theorem chain_no (t : ByteArray) (hl : t.size ≤ 8192) (W : World) (v : Value) (l : List Int) (hv : Ints W v l) (h6 : In64 l) (hn : ¬ (l.length = lnk t ∧ unlB l = true)) : Calls Try.prog 14 #[.string t, v] W fun e w' => ∃ vl, e = .returned (.tuple #[vl, .int .i64 1]) ∧ Below W.heap.size W w' := by
  have q := Chain_any t v l W hv h6 (by omega)
  rw [chR_no hl hn] at q
  refine q.mono ?_
  rintro e w' ⟨vl, he, _, hb⟩
  exact ⟨vl, he, hb⟩
theorem fits_page (w : World) (nx : Int) (d : ByteArray) (h : fitB (ndC (nx, d)) = true) : Calls Try.prog 11 #[.agg #[.int .i64 3, .slice none 0 0, .slice none 0 0, .slice none 0 0, .slice none 0 0, .int .i64 nx, .string d]] w fun e w' => e = .returned (.bool true) ∧ Below w.heap.size w w' := by
  have q := Fits_any (ndC (nx, d)) nv0 w (ls0 w _) ⟨by simp [ndC], by simp [ndC], by simp [ndC], by simp [ndC], fun n h => by simp [ndC] at h, fun n h => by simp [ndC] at h⟩
  rw [h] at q
  exact q
theorem OwnC.put' {B : Nat} {w : World} {g o n cap : Nat} {ps : List Cp} (H : OwnC B w (.slice (some ⟨g, o, none⟩) n cap) ps) (k : Nat) (hk : k < ps.length) (q : Cp) : OwnC B (w.setCells g (o + k * 7) (encC q)) (.slice (some ⟨g, o, none⟩) n cap) (ps.set k q) ∧ w.there g (o + k * 7) 7 := by
  have ho : o = 0 := by
    obtain ⟨_, ⟨hv, _⟩ | ⟨g', cap', cur, hv, _⟩⟩ := H
    · cases hv
    · simp only [Value.slice.injEq, Option.some.injEq, Addr.mk.injEq, and_true] at hv
      exact hv.1.2
  subst ho
  rw [Nat.zero_add]
  exact H.put k hk q
theorem ext_zero (t : ByteArray) : t.extract 0 (min (500 * 0) t.size) = ⟨#[]⟩ := by
  rw [Nat.mul_zero, Nat.zero_min]
  apply ByteArray.ext
  simp
theorem store_mark {ops : Array Oper} {rest : List Oper} {op : Oper} {a : Act} {w : World} {Q : Exit → Act → World → Prop} (hgd : op.guard = none) (x y : Operand) (ho : op.op = .store 27 x y)
    (g o : Nat) (hx : a.eval x = .pointer (some ⟨g, o, none⟩)) (hy : a.eval y = .agg #[.int .i64 3, .slice none 0 0, .slice none 0 0, .slice none 0 0, .slice none 0 0, .int .i64 0, .string ⟨#[109, 97, 114, 107]⟩])
    (ht : w.there g o 7) (W : World) (hW : w.setCells g o (encC (0, mkT)) = W) (h : wpList Try.prog ops Q rest (a.put op.dst undef) W) : wpList Try.prog ops Q (op :: rest) a w := by
  subst hW
  exact wpList_store_mid hgd 27 x y ho g o #[.int .i64 3, .slice none 0 0, .slice none 0 0, .slice none 0 0, .slice none 0 0, .int .i64 0, .string ⟨#[109, 97, 114, 107]⟩] hx hy ht size_node (by simp [Value.oneCell']) h
theorem OwnC.g {B : Nat} {w : World} {v : Value} {ps : List Cp} (H : OwnC B w v ps) : OwnG B w v ps.length (cellsC ps) := H
/-- The row of kram behind the marks. -/
def krams (n j : Nat) : List Value := cellsC (List.replicate n (0, mkT)) ++ (List.replicate j kramC).flatten
theorem krams_next (n j : Nat) : krams n (j + 1) = krams n j ++ kramC := by
  unfold krams
  rw [List.replicate_succ', List.flatten_append, List.append_assoc]
  simp
theorem krams_mark (n j : Nat) (h : 0 < n) : (krams n j)[6]? = some (.string mkT) := by
  unfold krams
  rw [List.getElem?_append_left (by rw [cellsC_length, List.length_replicate]; omega)]
  have := cellsC_at (List.replicate n (0, mkT)) 0 6 (by rw [List.length_replicate]; exact h) (by decide)
  rw [Nat.zero_mul, Nat.zero_add] at this
  rw [this, List.getD_eq_getElem?_getD, List.getElem?_replicate, if_pos h]
  rfl
theorem krams_kram (n j : Nat) (h : 0 < j) : (krams n j)[n * 7 + 6]? = some (.string ⟨#[107, 114, 97, 109]⟩) := by
  unfold krams
  rw [List.getElem?_append_right (by rw [cellsC_length, List.length_replicate]; omega), cellsC_length, List.length_replicate, show n * 7 + 6 - n * 7 = 6 by omega]
  obtain ⟨j, rfl⟩ : ∃ i, j = i + 1 := ⟨j - 1, by omega⟩
  rw [List.replicate_succ, List.flatten_cons, List.getElem?_append_left (by decide)]
  rfl
set_option maxHeartbeats 16000000 in
set_option maxRecDepth 100000 in
theorem chBack_main (t : ByteArray) (f s : Int) (w : World) (h64 : 64 < t.size) (hl : t.size ≤ 8192) :
    Calls Try.prog 4 #[.string t, .int .i64 f, .int .i64 s] w fun e w' => e = .returned (.bool true) ∧ Below w.heap.size w w' := by
  have FX := Lib.hid fixed_any
  have LK := Lib.hid (fun W => Links_any t W (by omega))
  obtain ⟨fN, hfN⟩ : ∃ x : Nat, x = (f % 1024).toNat := ⟨_, rfl⟩
  obtain ⟨sN, hsN⟩ : ∃ x : Nat, x = (s % 128).toNat := ⟨_, rfl⟩
  have hf1 : fN < 1024 := by omega
  have hs1 : sN < 128 := by omega
  have mf : bits BinOp.and IntKind.i64 f 1023 = (fN : Int) := by rw [hfN]; exact and_1023 f
  have ms : bits BinOp.and IntKind.i64 s 127 = (sN : Int) := by rw [hsN]; exact and_127 s
  have VC := Lib.hid (vc_mk t (1 + (fN : Int)) (1 + (sN : Int)) h64 hl ⟨by omega, by omega⟩ ⟨by omega, by omega⟩)
  obtain ⟨n, hn⟩ : ∃ n, n = lnk t := ⟨_, rfl⟩
  rw [← hn] at LK VC
  obtain ⟨bl, hbl⟩ : ∃ bl, bl = blF (1 + (fN : Int)) (1 + (sN : Int)) n := ⟨_, rfl⟩
  rw [← hbl] at VC
  obtain ⟨ps, hps⟩ : ∃ ps, ps = pgs t bl := ⟨_, rfl⟩
  rw [← hps] at VC
  have hn1 := VC.out.n1
  have hn17 := VC.out.n17
  have CR := Lib.hid (fun (W : World) (v : Value) (h : Ints W v bl) => Chain_any t v bl W h VC.out.i6 (by omega))
  rw [chR_yes hl (VC.out.bn.trans VC.out.nn) VC.out.u, ← hps] at CR
  have CN := Lib.hid (chain_no t hl)
  have hn2 := VC.out.n2
  have d1 : decide ((t.size : Int) ≤ 64) = false := decide_eq_false (by omega)
  have d2 : decide (t.size ≤ 64) = false := decide_eq_false (by omega)
  have d3 : decide ((t.size : Int) > 8192) = false := decide_eq_false (by omega)
  have d4 : decide (8192 < t.size) = false := decide_eq_false (by omega)
  have d5 : ((n : Int) != ((t.size : Int) + 499) / 500) = false := by rw [bne_eq_false_iff_eq]; omega
  have d6 : ((n : Int) != ((t.size : Int) + 499).tdiv 500) = false := by rw [bne_eq_false_iff_eq, Int.tdiv_eq_ediv_of_nonneg (by omega)]; omega
  clear hn hbl hps hfN hsN hn2
  go_enter Try.func4, Try.ntmps4
  go_wp2_with (first | (go_at_call 9; refine (FX.out _).mono ?_; rintro e w1 ⟨rfl, hb⟩; have B1 := Lib.hid hb; clear hb) | (go_at_call 13; refine (LK.out _).mono ?_; rintro e w1 ⟨rfl, rfl⟩))
  clear FX LK d1 d2 d3 d4 d5 d6 mf ms
  go_loopg [15, 16] n (fun gg s6 si wr => ∃ (k : Nat) (a6 : Option Addr) (c6 : Nat), k ≤ n ∧ gg = n - k ∧ si = .int .i64 k ∧ s6 = .slice a6 k c6 ∧ OwnI w.heap.size wr (.slice a6 k c6) (bl.take k) ∧ Below w.heap.size w wr)
  case atStart => exact ⟨0, _, _, Nat.zero_le _, rfl, rfl, rfl, World.ownsRow_nil _ _ _ _, B1.out⟩
  case round =>
    obtain ⟨k, a6, c6, hk, hg, rfl, rfl, ho, hb⟩ := hrel
    have R : Aside (gk = n - k ∧ OwnI w.heap.size wr (.slice a6 k c6) (bl.take k) ∧ Below w.heap.size w wr) := ⟨hg, ho, hb⟩
    clear hg ho hb
    have TL : Hid ((bl.take k).length = k) := Lib.hid (by rw [List.length_take, VC.out.bn]; omega)
    by_cases hlt : k < n
    · obtain ⟨sk, hsk⟩ : ∃ sk, sk = (1 + (sN : Int)) * (k : Int) := ⟨_, rfl⟩
      have hsk1 : 0 ≤ sk ∧ sk ≤ 128 * 17 := by
        rw [hsk]
        exact ⟨Int.mul_nonneg (by omega) (by omega), Int.mul_le_mul (by omega) (by omega) (by omega) (by omega)⟩
      obtain ⟨hsk1, hsk2⟩ := hsk1
      have hskw : IntKind.i64.wrap ((1 + (sN : Int)) * (k : Int)) = sk := by rw [← hsk]; exact wrap_in (by omega) (by omega)
      have hx : bl.getD k 0 = 1 + (fN : Int) + sk := by rw [VC.out.b, blF_at _ _ _ _ hlt, hsk]
      have TO := Lib.hid (take_oneI bl k 0 (by rw [VC.out.bn]; exact hlt))
      rw [hx] at TO
      clear hx
      have hsk' := hsk.symm
      clear hsk
      have hlt' : (k : Int) < (n : Int) := by omega
      have L9 : Hid ((bl.take k).length + [1 + (fN : Int) + sk].length ≤ 17592186044416) := Lib.hid (by rw [TL.out]; simp; omega)
      have SB := Lib.hid R.out.2.2.size
      go_wp2_with (refine app_wide1 rfl (.tmp 92) (.tmp 98) rfl (B := w.heap.size) (w0 := wr) (v := .slice a6 k c6) (l := bl.take k) [1 + (fN : Int) + sk] rfl R.out.2.1 SB.out rfl L9.out ?_; intro v7 w7 H7)
      obtain ⟨a7, c7, h7, -, -⟩ := H7.out.1.len
      rw [List.length_append, TL.out] at h7
      have h7' : v7 = .slice a7 (k + 1) c7 := h7
      subst h7'
      clear h7
      have B7 := Lib.hid (R.out.2.2.trans ((grown_kept H7.out.2).below R.out.2.2.size (fun x hx => (R.out.2.1.lt x hx.symm).1)))
      go_wp2_with fail
      go_roundg (n - (k + 1))
      case measure => have := R.out.1; omega
      case rel => exact ⟨k + 1, a7, c7, by omega, rfl, by go_num, rfl, by rw [TO.out]; exact H7.out.1, B7.out⟩
    · have ek : k = n := by omega
      subst ek
      have eb : bl.take k = bl := List.take_of_length_le (by rw [VC.out.bn]; exact Nat.le_refl _)
      have O0 := Lib.hid R.out.2.1
      rw [eb] at O0
      have BL0 := Lib.hid R.out.2.2
      have hdl : decide ((k : Int) < (k : Int)) = false := decide_eq_false (by omega)
      have gnn : ((k : Int) != (k : Int)) = false := by simp
      obtain ⟨gb, ob, ha6, -⟩ := O0.out.ints.at 0 (by rw [VC.out.bn]; exact hn1)
      subst ha6
      obtain ⟨hcb, hcb2⟩ : k ≤ c6 ∧ c6 ≤ 9223372036854775807 := by
        obtain ⟨a', c', e', h1, h2⟩ := O0.out.len
        rw [VC.out.bn] at e' h1
        simp only [Value.slice.injEq] at e'
        rw [e'.2.2]
        exact ⟨h1, h2⟩
      obtain ⟨w6, hw6⟩ : ∃ x, x = wr := ⟨_, rfl⟩
      subst hw6
      clear hk hlt eb TL
      have M1 : True := trivial
      go_wp2_with (go_at_call 14; clear M1; refine (CR.out w6 _ O0.out.ints).mono ?_; rintro e w8 ⟨v8, rfl, o8, hb⟩; have O8 := Lib.hid (And.intro o8 hb); obtain ⟨a8, c8, h8, h88, h89⟩ := o8.len; rw [VC.out.pn] at h8 h88; subst h8; clear o8 hb)
      clear gnn
      obtain ⟨gl, ol, ha8, -⟩ := O8.out.1.at 0 (by rw [VC.out.pn]; exact hn1)
      subst ha8
      have PS : Hid (Ints w8 (.slice (some ⟨gb, ob, none⟩) k c6) bl) := Lib.hid (O0.out.ints.below O8.out.2)
      have FP := Lib.hid fits_page
      go_loopg [19, 20] k (fun gg st si wq => ∃ (j : Nat), j ≤ k ∧ gg = k - j ∧ si = .int .i64 j ∧ st = .string (t.extract 0 (min (500 * j) t.size)) ∧ Below w8.heap.size w8 wq)
      case atStart => exact ⟨0, Nat.zero_le _, rfl, rfl, by rw [ext_zero], Below.refl _ _⟩
      case round =>
        obtain ⟨j, hj, hg, rfl, rfl, hb⟩ := hrel
        have Q : Aside (gk = k - j ∧ Below w8.heap.size w8 wr) := ⟨hg, hb⟩
        clear hg hb
        by_cases hlt : j < k
        · obtain ⟨nx, d, hp, hnx, hd, s0, s5, s6, hz, hfit, hjn⟩ := VC.out.at j hlt
          obtain ⟨b8, o8, e8, hc8⟩ := (O8.out.1.below Q.out.2).at j (by rw [VC.out.pn]; exact hlt)
          simp only [Option.some.injEq, Addr.mk.injEq, and_true] at e8
          obtain ⟨rfl, rfl⟩ := e8
          rw [hp] at hc8
          have KC : Hid (∀ W, Below wr.heap.size wr W → (W.cell? ⟨gl, ol + j * 7, none⟩ = some (.int .i64 3) ∧ W.cell? ⟨gl, ol + j * 7 + 1, none⟩ = some (.slice none 0 0) ∧ W.cell? ⟨gl, ol + j * 7 + 2, none⟩ = some (.slice none 0 0) ∧ W.cell? ⟨gl, ol + j * 7 + 3, none⟩ = some (.slice none 0 0) ∧ W.cell? ⟨gl, ol + j * 7 + 4, none⟩ = some (.slice none 0 0) ∧ W.cell? ⟨gl, ol + j * 7 + 5, none⟩ = some (.int .i64 nx) ∧ W.cell? ⟨gl, ol + j * 7 + 6, none⟩ = some (.string d))) := Lib.hid (fun W h => by
            have k8 : ∀ i u, (encC (nx, d))[i]? = some u → i < 7 → W.cell? ⟨gl, ol + j * 7 + i, none⟩ = some u := fun i u hu hi => by
              have q := hc8 i hi
              rw [hu] at q
              rw [h.cell (p := ⟨gl, ol + j * 7 + i, none⟩) (block_lt_of_cell q)]; exact q
            exact ⟨k8 0 _ rfl (by omega), k8 1 _ rfl (by omega), k8 2 _ rfl (by omega), k8 3 _ rfl (by omega), k8 4 _ rfl (by omega), k8 5 _ rfl (by omega), k8 6 _ rfl (by omega)⟩)
          obtain ⟨x0, x1, x2, x3, x4, x5, x6⟩ := KC.out wr (Below.refl _ _)
          have F1 := Lib.hid (FP.out wr nx d hfit)
          have hlt' : (j : Int) < (k : Int) := by omega
          have gnx : (nx != nx) = false := by simp
          obtain ⟨ac, hac⟩ : ∃ ac, ac = t.extract 0 (min (500 * j) t.size) := ⟨_, rfl⟩
          have hacs : ac.size ≤ 8192 := by rw [hac, ByteArray.size_extract]; omega
          rw [← hac] at hjn
          rw [← hac]
          have JN := Lib.hid hjn
          have S5 := Lib.hid (And.intro s5 s6)
          have HP : Hid (nx = bl.getD (j + 1) 0 ∧ (¬ j + 1 < k → nx = 0)) := Lib.hid ⟨hnx, hz⟩
          clear hc8 hp hnx hd hfit hjn hac s0 s6 hz
          by_cases hmo : j + 1 < k
          · have hmo' : (j : Int) + 1 < (k : Int) := by omega
            obtain ⟨b2, o2, e2, p0⟩ := (PS.out.below Q.out.2).at (j + 1) (by rw [VC.out.bn]; exact hmo)
            simp only [Option.some.injEq, Addr.mk.injEq, and_true] at e2
            rw [← e2.1, ← e2.2, ← HP.out.1] at p0
            clear e2
            have g5 : ((d.size : Int) != 500) = false := by rw [S5.out.2 hmo]; rfl
            go_wp2_with (go_at_call 11; refine F1.out.mono ?_; rintro e wq ⟨rfl, hq⟩; obtain ⟨x0, x1, x2, x3, x4, x5, x6⟩ := KC.out wq hq; have BQ := Lib.hid (Q.out.2.trans (hq.mono Q.out.2.size)); clear hq)
            go_roundg (k - (j + 1))
            case measure => have := Q.out.1; omega
            case rel => exact ⟨j + 1, by omega, rfl, by go_num, by rw [← JN.out], BQ.out⟩
          · have hmo' : ¬ (j : Int) + 1 < (k : Int) := by omega
            have gm : decide ((j : Int) + 1 < (k : Int)) = false := decide_eq_false hmo'
            have hnx0 : nx = 0 := HP.out.2 hmo
            subst hnx0
            go_wp2_with (go_at_call 11; refine F1.out.mono ?_; rintro e wq ⟨rfl, hq⟩; obtain ⟨x0, x1, x2, x3, x4, x5, x6⟩ := KC.out wq hq; have BQ := Lib.hid (Q.out.2.trans (hq.mono Q.out.2.size)); clear hq)
            go_roundg (k - (j + 1))
            case measure => have := Q.out.1; omega
            case rel => exact ⟨j + 1, by omega, rfl, by go_num, by rw [← JN.out], BQ.out⟩
        · have ej : j = k := by omega
          subst ej
          have et : t.extract 0 (min (500 * j) t.size) = t := by
            have := VC.out.n2
            rw [show min (500 * j) t.size = t.size by omega, ByteArray.extract_zero_size]
          rw [et]
          clear et FP
          obtain ⟨w9, hw9⟩ : ∃ x, x = wr := ⟨_, rfl⟩
          subst hw9
          have P9 : Hid (Ints w9 (.slice (some ⟨gb, ob, none⟩) j c6) bl) := Lib.hid (PS.out.below Q.out.2)
          have O9 : Hid (OwnC w6.heap.size w9 (.slice (some ⟨gl, ol, none⟩) j c8) ps) := Lib.hid (O8.out.1.below Q.out.2)
          have M2 : True := trivial
          go_wp2_with (go_at_call 14; clear M2; refine (CR.out w9 _ P9.out).mono ?_; rintro e w10 ⟨v10, rfl, o10, hb⟩; have O10 := Lib.hid (And.intro o10 hb); obtain ⟨a10, c10, h10, h108, h109⟩ := o10.len; rw [VC.out.pn] at h10 h108; subst h10; clear o10 hb)
          obtain ⟨gm, om, ha10, -⟩ := O10.out.1.at 0 (by rw [VC.out.pn]; exact hn1)
          subst ha10
          have LG : Hid (w6.heap.size ≤ gl ∧ gl < w9.heap.size ∧ gb < w6.heap.size ∧ w9.heap.size ≤ gm ∧ gm < w10.heap.size ∧ w9.heap.size ≤ w10.heap.size) := Lib.hid (by
            have h1 := O9.out.lt gl rfl
            have h2 := O0.out.lt gb rfl
            have h3 := O10.out.1.lt gm rfl
            have h4 := O10.out.2.size
            omega)
          go_loopg [23] j (fun gg si wq => ∃ (i : Nat), i ≤ j ∧ gg = j - i ∧ si = .int .i64 i ∧ OwnC w6.heap.size wq (.slice (some ⟨gl, ol, none⟩) j c8) (List.replicate i (0, mkT) ++ ps.drop i) ∧ Kept (fun y => y = gl) w10 wq)
          case atStart => exact ⟨0, Nat.zero_le _, rfl, rfl, by simpa using O9.out.below O10.out.2, Kept.refl _ _⟩
          case round =>
            obtain ⟨i, hi, hg, rfl, ho, hb⟩ := hrel
            have T : Aside (gk = j - i ∧ OwnC w6.heap.size wr (.slice (some ⟨gl, ol, none⟩) j c8) (List.replicate i (0, mkT) ++ ps.drop i) ∧ Kept (fun y => y = gl) w10 wr) := ⟨hg, ho, hb⟩
            clear hg ho hb
            by_cases hlt : i < j
            · have hlt' : (i : Int) < (j : Int) := by omega
              have PU := Lib.hid (T.out.2.1.put' i (by rw [List.length_append, List.length_replicate, List.length_drop, VC.out.pn]; omega) (0, mkT))
              rw [marks_next ps i (by rw [VC.out.pn]; exact hlt)] at PU
              obtain ⟨WS, hWS⟩ : ∃ WS, wr.setCells gl (ol + i * 7) (encC (0, mkT)) = WS := ⟨_, rfl⟩
              have KS : Hid (Kept (fun y => y = gl) wr WS) := Lib.hid (by rw [← hWS]; exact kept_setCells gl _ _ _)
              rw [hWS] at PU
              have HW := Lib.hid hWS
              clear hWS
              go_wp2_with (refine store_mark rfl (.tmp 187) (.tmp 186) rfl gl (ol + i * 7) rfl rfl PU.out.2 WS HW.out ?_)
              go_roundg (j - (i + 1))
              case measure => have := T.out.1; omega
              case rel => exact ⟨i + 1, by omega, rfl, by go_num, PU.out.1, T.out.2.2.trans KS.out (fun _ _ h => h)⟩
            · have ei : i = j := by omega
              subst ei
              have OM : Hid (OwnG w6.heap.size wr (.slice (some ⟨gl, ol, none⟩) i c8) (i + 0) (krams i 0)) := Lib.hid (by
                have q := T.out.2.1.g
                rw [List.drop_eq_nil_of_le (by rw [VC.out.pn]; exact Nat.le_refl _), List.append_nil, List.length_replicate] at q
                unfold krams
                simpa using q)
              have KM := Lib.hid T.out.2.2
              obtain ⟨w11, hw11⟩ : ∃ x, x = wr := ⟨_, rfl⟩
              subst hw11
              go_wp2_with fail
              go_loopg [17, 24] 64 (fun gg s17 si wq => ∃ (p : Nat), p ≤ 64 ∧ gg = 64 - p ∧ si = .int .i64 p ∧ OwnG w6.heap.size wq s17 (i + p) (krams i p) ∧ (∀ g, s17.ownBlock = some g → g = gl ∨ w10.heap.size ≤ g) ∧ Kept (fun y => y = gl ∨ w10.heap.size ≤ y) w10 wq)
              case atStart => exact ⟨0, Nat.zero_le _, rfl, rfl, OM.out, fun g hg => by injection hg with e; exact Or.inl e.symm, KM.out.mono (fun x _ h => Or.inl h)⟩
              case round =>
                obtain ⟨p, hp, hg, rfl, ho, hw, hb⟩ := hrel
                obtain ⟨g17, c17, h17, hc17, hc18, hcell⟩ := ho.at (by omega)
                subst h17
                have U : Aside (gk = 64 - p ∧ OwnG w6.heap.size wr (.slice (some ⟨g17, 0, none⟩) (i + p) c17) (i + p) (krams i p) ∧ (g17 = gl ∨ w10.heap.size ≤ g17) ∧ Kept (fun y => y = gl ∨ w10.heap.size ≤ y) w10 wr) := ⟨hg, ho, hw g17 rfl, hb⟩
                have CE := Lib.hid hcell
                clear hg ho hw hb hcell
                have SB : Hid (w6.heap.size ≤ wr.heap.size) := Lib.hid (by have := U.out.2.2.2.size; have := LG.out; omega)
                by_cases hlt : p < 64
                · have hlt' : (p : Int) < 64 := by omega
                  have L7 : Hid (i + p ≤ 1000000) := Lib.hid (by omega)
                  go_wp2_with (refine app_kram rfl (.tmp 192) (.tmp 194) rfl (B := w6.heap.size) (w0 := wr) (v := .slice (some ⟨g17, 0, none⟩) (i + p) c17) (n := i + p) (cs := krams i p) rfl U.out.2.1 SB.out rfl L7.out ?_; intro v18 w18 H18)
                  go_roundg (64 - (p + 1))
                  case measure => have := U.out.1; omega
                  case rel =>
                    refine ⟨p + 1, by omega, rfl, by go_num, by rw [krams_next]; exact H18.out.1, fun g hg => ?_, U.out.2.2.2.trans (grown_kept H18.out.2.1) (fun x _ hx => ?_)⟩
                    · rcases H18.out.2.2 g hg.symm with q | q
                      · injection q with q; rw [q]; exact U.out.2.2.1
                      · exact Or.inr (by have := U.out.2.2.2.size; omega)
                    · injection hx with hx; rw [hx]; exact U.out.2.2.1
                · have ep : p = 64 := by omega
                  subst ep
                  obtain ⟨i1, hi1⟩ : ∃ i1, i = i1 + 1 := ⟨i - 1, by omega⟩
                  have MO : Hid (OwnC w9.heap.size wr (.slice (some ⟨gm, om, none⟩) i c10) ps) := Lib.hid (O10.out.1.kept U.out.2.2.2 (fun g hg h => by have e : gm = g := (by injection hg); rw [← e] at h; have := LG.out; omega))
                  have OB : Hid (OwnI w.heap.size wr (.slice (some ⟨gb, ob, none⟩) i c6) bl) := Lib.hid ((((O0.out.below O8.out.2).below Q.out.2).below O10.out.2).kept U.out.2.2.2 (fun g hg h => by have e : gb = g := (by injection hg); rw [← e] at h; have := LG.out; omega))
                  have BW : Hid (Below w.heap.size w wr) := Lib.hid (by
                    have h1 := BL0.out.trans (O8.out.2.mono BL0.out.size)
                    have h2 := h1.trans (Q.out.2.mono h1.size)
                    have h3 := h2.trans (O10.out.2.mono h2.size)
                    exact h3.trans (U.out.2.2.2.below h3.size (fun x hx => by have h' : x = gl ∨ w10.heap.size ≤ x := hx; have := LG.out; have := BL0.out.size; have := h3.size; omega)))
                  obtain ⟨nx0, d0, hp0, -, hd0, -, -, -, -, -, -⟩ := VC.out.at 0 (by omega)
                  obtain ⟨nxN, dN, hpN, -, -, -, -, -, hzN, -, -⟩ := VC.out.at i1 (by omega)
                  have hzN' : nxN = 0 := hzN (by omega)
                  subst hzN'
                  obtain ⟨b1, o1, e1, hm0⟩ := MO.out.at 0 (by rw [VC.out.pn]; omega)
                  obtain ⟨b2, o2, e2, hmN⟩ := MO.out.at i1 (by rw [VC.out.pn]; omega)
                  simp only [Option.some.injEq, Addr.mk.injEq, and_true] at e1 e2
                  rw [← e1.1, ← e1.2, hp0] at hm0
                  rw [← e2.1, ← e2.2, hpN] at hmN
                  have m0 := hm0 6 (by decide)
                  have mN := hmN 5 (by decide)
                  simp only [encC, List.getElem?_cons_succ, List.getElem?_cons_zero, Nat.zero_mul, Nat.add_zero] at m0 mN
                  have q0 := CE.out 6 _ (krams_mark i 64 (by omega))
                  have qN := CE.out (i * 7 + 6) _ (krams_kram i 64 (by decide))
                  have qe : mkT = ⟨#[109, 97, 114, 107]⟩ := rfl
                  rw [qe] at q0
                  obtain ⟨M, hM⟩ : ∃ M, M = min 500 t.size := ⟨_, rfl⟩
                  have hd0' : d0 = t.extract 0 M := by rw [hd0, hM]
                  rw [hd0'] at m0
                  have hM1 : (if (t.size : Int) < 500 then (t.size : Int) else 500) = (M : Int) := by split <;> omega
                  have hM2 : M ≤ t.size := by omega
                  have hM3 : (M : Int) ≤ (t.size : Int) := by omega
                  have hi2 : (i : Int) - 1 = (i1 : Int) := by omega
                  have hi3 : (i1 : Int) < (i : Int) := by omega
                  have hi4 : (0 : Int) < (i : Int) := by omega
                  have hi5 : (i : Int) < ((i + 64 : Nat) : Int) := by omega
                  have gii : ((i : Int) != (i : Int)) = false := by simp
                  have H1 := Lib.hid hi1
                  clear hi1 hp0 hpN hzN hm0 hmN hd0 hd0' e1 e2 qe hM hlt hp
                  go_wp2_with fail
                  go_quiet (fail)
                  go_wp2_with fail
                  obtain ⟨X0, hX0⟩ : ∃ X0, X0 = wr.drewN nq := ⟨_, rfl⟩
                  rw [← hX0]
                  have BX0 : Below wr.heap.size wr X0 := by rw [hX0]; exact below_drawn _ _
                  have P0 : Hid (Ints X0 (.slice (some ⟨gb, ob, none⟩) i c6) bl ∧ Below w.heap.size w X0) := Lib.hid ⟨OB.out.ints.below BX0, BW.out.trans (BX0.mono BW.out.size)⟩
                  clear BX0 hX0 m0 mN q0 qN
                  have NL := Lib.hid (not_links VC.out)
                  refine (CN.out X0 _ _ (P0.out.1.clip i1 (by omega)).1 (in64_take VC.out.i6 i1) (by rw [List.length_take, VC.out.bn, ← VC.out.nn]; have := H1.out; omega)).mono ?_
                  rintro e w12 ⟨v12, rfl, hb12⟩
                  have P1 : Hid (Ints w12 (.slice (some ⟨gb, ob, none⟩) i c6) bl ∧ Below w.heap.size w w12) := Lib.hid ⟨P0.out.1.below hb12, P0.out.2.trans (hb12.mono P0.out.2.size)⟩
                  have PC : Hid (Ints w12 (.slice (some ⟨gb, ob, none⟩) i i) bl) := Lib.hid (by
                    have q := (P1.out.1.clip i (Nat.le_refl _)).2 (by omega)
                    rw [List.take_of_length_le (by rw [VC.out.bn]; exact Nat.le_refl _)] at q
                    exact q)
                  have L8 : Hid (i ≤ 1000000) := Lib.hid (by omega)
                  have M3 : True := trivial
                  clear hb12
                  by_cases hgt : 1 < i
                  · have g1 : (1 : Int) < (i : Int) := by omega
                    have g2 : decide ((i : Int) > 1) = true := decide_eq_true g1
                    go_wp2_with (first | (at_builtin; refine app_grows rfl (.tmp 254) (.tmp 255) rfl (w0 := w12) (ad := some ⟨gb, ob, none⟩) (n := i) (l := bl) 4000 rfl PC.out rfl L8.out ?_; intro v13 w13 H13) | (go_at_call 14; clear M3; refine (CN.out w13 _ _ H13.out.1.ints NL.out.1 NL.out.2.1).mono ?_; rintro e w14 ⟨v14, rfl, hb14⟩; have P2 : Hid (Ints w14 (.slice (some ⟨gb, ob, none⟩) i c6) bl ∧ Below w.heap.size w w14) := Lib.hid (by have r1 := H13.out.2.trans (hb14.mono H13.out.2.size); exact ⟨P1.out.1.below r1, P1.out.2.trans (r1.mono P1.out.2.size)⟩); clear hb14))
                    obtain ⟨b0, o0, e0, p0⟩ := P2.out.1.at 0 (by rw [VC.out.bn]; omega)
                    simp only [Option.some.injEq, Addr.mk.injEq, and_true, Nat.add_zero] at e0 p0
                    rw [← e0.1, ← e0.2] at p0
                    obtain ⟨x0, hx0⟩ : ∃ x0, x0 = bl.getD 0 0 := ⟨_, rfl⟩
                    rw [← hx0] at p0
                    have NX := Lib.hid (NL.out.2.2 hgt)
                    rw [← hx0, show i - 1 = i1 by have := H1.out; omega] at NX
                    clear e0 hx0
                    have PD : Hid (Ints w14.drew (.slice (some ⟨gb, ob, none⟩) i1 i1) (bl.take i1) ∧ Below w.heap.size w w14.drew) := Lib.hid (by
                      have hb : Below w14.heap.size w14 w14.drew := ⟨rfl, rfl, rfl, Nat.le_refl _, fun _ _ => rfl⟩
                      exact ⟨((P2.out.1.below hb).clip i1 (by have := H1.out; omega)).2 (by have := H1.out; omega), P2.out.2.trans (hb.mono P2.out.2.size)⟩)
                    have L7 : Hid (i1 ≤ 1000000) := Lib.hid (by omega)
                    have hi6 : (i1 : Int) ≤ (c6 : Int) := by omega
                    have hi7 : i1 ≤ c6 := by omega
                    have hwr : IntKind.i64.wrap (i1 : Int) = (i1 : Int) := wrap_in (by omega) (by omega)
                    have hmx : max (i1 : Int) 0 = (i1 : Int) := by omega
                    have hi8 : 0 < i := by omega
                    go_region_law (refine step_grows rfl (.tmp 267) (.tmp 271) rfl (w0 := w14.drew) (b := gb) (off := ob) (n := i1) (l := bl.take i1) x0 rfl PD.out.1 rfl L7.out ?_; intro a15 n15 c15 w15 H15)
                    all_goals
                      have P3 : Hid (Ints w15 (.slice a15 n15 c15) (bl.take i1 ++ [x0]) ∧ Below w.heap.size w w15) := Lib.hid ⟨H15.out.1.ints, PD.out.2.trans (H15.out.2.mono PD.out.2.size)⟩
                      have M4 : True := trivial
                      go_wp2_with (go_at_call 14; clear M4; refine (CN.out w15 _ _ P3.out.1 NX.out.1 NX.out.2).mono ?_; rintro e w16 ⟨v16, rfl, hb16⟩; have P4 := Lib.hid (P3.out.2.trans (hb16.mono P3.out.2.size)); clear hb16)
                      go_ret
                      exact ⟨rfl, P4.out⟩
                  · have g1 : ¬ (1 : Int) < (i : Int) := by omega
                    have g2 : decide ((i : Int) > 1) = false := decide_eq_false g1
                    go_wp2_with (first | (at_builtin; refine app_grows rfl (.tmp 254) (.tmp 255) rfl (w0 := w12) (ad := some ⟨gb, ob, none⟩) (n := i) (l := bl) 4000 rfl PC.out rfl L8.out ?_; intro v13 w13 H13) | (go_at_call 14; clear M3; refine (CN.out w13 _ _ H13.out.1.ints NL.out.1 NL.out.2.1).mono ?_; rintro e w14 ⟨v14, rfl, hb14⟩; have P2 : Hid (Ints w14 (.slice (some ⟨gb, ob, none⟩) i c6) bl ∧ Below w.heap.size w w14) := Lib.hid (by have r1 := H13.out.2.trans (hb14.mono H13.out.2.size); exact ⟨P1.out.1.below r1, P1.out.2.trans (r1.mono P1.out.2.size)⟩); clear hb14))
                    go_ret
                    exact ⟨rfl, P2.out.2⟩
theorem pageChainsBack_walk (t : ByteArray) (f s : Int) (w : World) (hs : t.size ≤ 140737488351232) (_hf : -9223372036854775808 ≤ f ∧ f < 9223372036854775808) (_hs : -9223372036854775808 ≤ s ∧ s < 9223372036854775808) :
    Calls Try.prog 4 #[.string t, .int .i64 f, .int .i64 s] w fun e w' => e = .returned (.bool true) ∧ Below w.heap.size w w' := by
  by_cases h1 : t.size ≤ 64
  · exact chBack_short t f s w h1
  · by_cases h2 : t.size ≤ 8192
    · exact chBack_main t f s w (by omega) h2
    · exact chBack_long t f s w (by omega) hs
end Go.Proofs.Ytindkmgoiiicaaa
