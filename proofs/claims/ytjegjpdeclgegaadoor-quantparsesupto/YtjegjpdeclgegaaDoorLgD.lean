/-
  The document's Long: times.
-/
import Derived.Test.YtjegjpdeclgegaaDoorLgC
import Derived.Test.YtjegjpdeclgegaaDoorNrE
import Derived.OwnWalk
namespace Go.Proofs.YtjegjpdeclgegaaDoor
open Go.RowKit Go.Lib
open Go.Sort (grow)
namespace Lg
theorem made_int (n : Nat) : (madeCells (Value.int .i64 0).cells (n * 1)).toList = cellsR kI (List.replicate n 0) := by
  have e : (Value.int .i64 0).cells = #[.int .i64 0] := rfl
  rw [e, madeCells, Nat.mul_one]
  apply List.ext_getElem
  · rw [cellsR_length okI, List.length_replicate]; simp [kI]
  · intro i h1 h2
    have hi : i < n := by simpa using h1
    have q := cellsR_at okI (List.replicate n 0) i (by simpa using hi) 0 (by decide)
    have e2 : i * kI.k + 0 = i := by show i * 1 + 0 = i; omega
    rw [e2, List.getElem?_eq_getElem h2] at q
    have q2 : (cellsR kI (List.replicate n 0))[i] = .int .i64 ((((List.replicate n 0).getD i 0 : Nat)) : Int) := by
      have : some (cellsR kI (List.replicate n 0))[i] = some (Value.int .i64 ((((List.replicate n 0).getD i 0 : Nat)) : Int)) := q
      injection this
    rw [q2]
    have e3 : (List.replicate n 0).getD i 0 = 0 := by rw [List.getD_eq_getElem?_getD]; simp [hi]
    rw [e3]
    simp [Nat.mod_one]
theorem int_info : ∃ i0, Tryd.prog.info? 3 = some i0 ∧ i0.zero = some (.int .i64 0) ∧ i0.size = 1 ∧ i0.bytes = 8 := by
  obtain ⟨i0, hi, hz⟩ := Option.map_eq_some_iff.1 (by kernel_rfl : (Tryd.prog.info? 3).map (fun i => (i.zero, i.size, i.bytes)) = some (some (.int .i64 0), 1, 8))
  simp only [Prod.mk.injEq] at hz
  exact ⟨i0, hi, hz.1, hz.2.1, hz.2.2⟩
theorem make_int (w : World) {ops : Array Oper} {rest : List Oper} {o : Oper} {a : Act} {Q : Exit → Act → World → Prop} (hg : o.guard = none) (l c : Operand) (hop : o.op = Op.makeSlice 38 l c)
    (L C : Int) (n : Nat) (hl : a.eval l = .int .i64 L) (hc : a.eval c = .int .i64 C) (hL : L = (n : Int)) (hC : C = (n : Int)) (hn : n ≤ 1000000)
    (hK : ∀ w', OwnR kI w.heap.size w' (.slice (some ⟨w.heap.size, 0, none⟩) n n) (List.replicate n 0) → Below w.heap.size w w' → wpList Tryd.prog ops Q rest (a.put o.dst (.slice (some ⟨w.heap.size, 0, none⟩) n n)) w') :
    wpList Tryd.prog ops Q (o :: rest) a w := by
  obtain ⟨i0, h1, h2, h3, h4⟩ := int_info
  refine wpList_make_full w hg l c 38 hop w.heap.size 3 i0 (.int .i64 0) 1 Tryd.underlying38 h1 h2 h3 .i64 .i64 L C n hl hc hL hC (by rw [h4]; omega) (by unfold maxLen; omega) (Nat.le_refl _) ?_
  intro w' ho hgr
  refine hK w' ?_ ((Below.refl _ w).grown hgr (Nat.le_refl _) (fun k hk => by cases hk))
  show w'.ownsRow _ _ _ _ _ _
  rw [List.length_replicate, ← made_int]; exact ho
theorem vl_rep (n : Nat) : vl (List.replicate n 0) = 0 := by
  induction n with
  | zero => rfl
  | succ n ih => rw [List.replicate_succ, vl, ih]
theorem times_step {B d : List Nat} {i j t cr x ai y s D0 : Nat} (ht : t = i + j) (h : vl d + 10 ^ t * cr = D0 + 10 ^ i * (ai * vl (B.take j))) (hl : t < d.length) (hx : x = d.getD t 0) (hy : y = B.getD j 0) (hs : s = x + ai * y + cr) : vl (d.set t (s % 10)) + 10 ^ (t + 1) * (s / 10) = D0 + 10 ^ i * (ai * vl (B.take (j + 1))) := by
  have e0 := vl_set d t (s % 10) hl
  rw [← hx] at e0
  rw [vl_take_succ', ← hy, Nat.pow_succ]
  have e1 : 10 ^ t * (s % 10) + 10 ^ t * 10 * (s / 10) = 10 ^ t * s := by
    rw [Nat.mul_assoc, ← Nat.mul_add]; congr 1; omega
  have e2 : 10 ^ t * s = 10 ^ t * x + 10 ^ t * (ai * y) + 10 ^ t * cr := by rw [hs, Nat.mul_add, Nat.mul_add]
  have e3 : 10 ^ i * (ai * (vl (B.take j) + 10 ^ j * y)) = 10 ^ i * (ai * vl (B.take j)) + 10 ^ t * (ai * y) := by
    rw [Nat.mul_add, Nat.mul_add, ht, Nat.pow_add]
    congr 1
    simp only [Nat.mul_comm, Nat.mul_left_comm, Nat.mul_assoc]
  rw [e3]
  omega
set_option maxHeartbeats 16000000 in
set_option maxRecDepth 100000 in
theorem times_fr (a a' : Option Addr) (n n' c c' : Nat) (p q : Nat) (w : World) (hv : Row kI w (.slice a n c) (dg p)) (hu : Row kI w (.slice a' n' c') (dg q)) (hn : n ≤ 1000) (hn' : n' ≤ 1000) :
    Calls Tryd.prog 27 #[.agg #[.slice a n c], .agg #[.slice a' n' c']] w fun e w' => ∃ a n c, e = .returned (.agg #[.slice a n c]) ∧ Row kI w' (.slice a n c) (dg (p * q)) ∧ Fr w.heap.size a ∧ Below w.heap.size w w' := by
  have V := Lib.hid hv
  have U := Lib.hid hu
  have HN : Hid (n = (dg p).length) := Lib.hid (by obtain ⟨_, _, e, _⟩ := hv.len; simp only [Value.slice.injEq] at e; exact e.2.1)
  have HN' : Hid (n' = (dg q).length) := Lib.hid (by obtain ⟨_, _, e, _⟩ := hu.len; simp only [Value.slice.injEq] at e; exact e.2.1)
  obtain ⟨A, hA⟩ : ∃ A, A = dg p := ⟨_, rfl⟩
  obtain ⟨B, hB⟩ : ∃ B, B = dg q := ⟨_, rfl⟩
  rw [← hA] at V HN
  rw [← hB] at U HN'
  have DD : Hid (Dgs A ∧ Dgs B ∧ vl A = p ∧ vl B = q ∧ A = dg p ∧ B = dg q) := Lib.hid (by rw [hA, hB]; exact ⟨dgs_dg _, dgs_dg _, vl_dg _, vl_dg _, rfl, rfl⟩)
  obtain ⟨W3, hW3⟩ : ∃ W, W = ((w.alloc (.cells #[.slice a n c] 40)).alloc (.cells #[.slice a' n' c'] 40)).alloc (.cells #[.slice none 0 0] 40) := ⟨_, rfl⟩
  have F3 : Hid (W3.heap.size = w.heap.size + 3 ∧ Below w.heap.size w W3 ∧ W3.heap[w.heap.size]? = some (.cells #[.slice a n c] 40 (0, 0)) ∧ W3.heap[w.heap.size + 1]? = some (.cells #[.slice a' n' c'] 40 (0, 0)) ∧ W3.heap[w.heap.size + 1 + 1]? = some (.cells #[.slice none 0 0] 40 (0, 0))) := Lib.hid (by
    subst hW3
    refine ⟨by simp, (((Below.refl _ w).alloc (Nat.le_refl _) _).alloc (by simp) _).alloc (by simp; omega) _, ?_, ?_, ?_⟩
    · rw [Below.heap_alloc _ _ _ (by simp; omega), Below.heap_alloc _ _ _ (by simp), heap_alloc_new]
    · rw [Below.heap_alloc _ _ _ (by simp)]
      have q := heap_alloc_new (w.alloc (.cells #[.slice a n c] 40)) (.cells #[.slice a' n' c'] 40)
      simpa using q
    · have q := heap_alloc_new ((w.alloc (.cells #[.slice a n c] 40)).alloc (.cells #[.slice a' n' c'] 40)) (.cells #[.slice none 0 0] 40)
      simpa using q)
  have EW := Lib.hid hW3
  clear hW3
  obtain ⟨N, hN⟩ : ∃ N, N = n + n' + 1 := ⟨_, rfl⟩
  obtain ⟨G, hG⟩ : ∃ G, G = w.heap.size + 1 + 1 + 1 := ⟨_, rfl⟩
  have GE : Hid (G = w.heap.size + 1 + 1 + 1) := Lib.hid hG
  have NE : Hid (N = n + n' + 1) := Lib.hid hN
  have hN1 : n < N := by omega
  have hN2 : n + n' < N := by omega
  have hN3 : N ≤ 2001 := by omega
  have p0 := cell1 F3.out.2.2.1
  have p1 := cell1 F3.out.2.2.2.1
  clear hA hB hv hu hG hN
  go_enter Tryd.func27, Tryd.ntmps27
  go_wp2_with (refine make_int _ rfl _ _ rfl _ _ N rfl rfl (by rw [NE.out]; first | omega | (unfold wrap64; omega)) (by rw [NE.out]; first | omega | (unfold wrap64; omega)) (by omega) ?_)
  rw [← EW.out]
  clear EW
  intro w4 hO4 hB4
  rw [← GE.out] at hO4 hB4 ⊢
  have O4 : Hid (OwnR kI (w.heap.size + 3) w4 (.slice (some ⟨G, 0, none⟩) N N) (List.replicate N 0) ∧ Below (w.heap.size + 3) W3 w4) := Lib.hid (by
    have e : G = w.heap.size + 3 := GE.out
    rw [e] at hO4 hB4 ⊢
    exact ⟨hO4, hB4⟩)
  clear hO4 hB4 p0 p1
  go_wp2_with fail
  go_loopg [6] n (fun g si wr => ∃ (i : Nat) (d : List Nat), g = n - i ∧ i ≤ n ∧ si = .int .i64 i ∧ Dgs d ∧ d.length = N ∧ vl d = vl (A.take i) * q ∧ (∀ k, i + n' ≤ k → d.getD k 0 = 0) ∧ OwnR kI (w.heap.size + 3) wr (.slice (some ⟨G, 0, none⟩) N N) d ∧ Below (w.heap.size + 3) W3 wr)
  case atStart => exact ⟨0, List.replicate N 0, rfl, Nat.zero_le _, rfl, (fun x hx => by rw [List.eq_of_mem_replicate hx]; decide), List.length_replicate, by rw [vl_rep]; simp [vl], (fun k _ => by rw [List.getD_eq_getElem?_getD, List.getElem?_replicate]; split <;> rfl), O4.out.1, O4.out.2⟩
  case round =>
    obtain ⟨i, d0, hg, hi, rfl, hD, hlen, hval, hz, ho, hb⟩ := hrel
    have R0 : Hid (gk = n - i ∧ Dgs d0 ∧ d0.length = N ∧ vl d0 = vl (A.take i) * q ∧ (∀ k, i + n' ≤ k → d0.getD k 0 = 0) ∧ OwnR kI (w.heap.size + 3) wr (.slice (some ⟨G, 0, none⟩) N N) d0 ∧ Below (w.heap.size + 3) W3 wr) := Lib.hid ⟨hg, hD, hlen, hval, hz, ho, hb⟩
    clear hg hD hlen hval hz ho hb
    have p0 := cell1 ((R0.out.2.2.2.2.2.2.block _ (by omega)).trans F3.out.2.2.1)
    have p1 := cell1 ((R0.out.2.2.2.2.2.2.block _ (by omega)).trans F3.out.2.2.2.1)
    by_cases hlt : i < n
    · have hin : (i : Int) < (n : Int) := by omega
      obtain ⟨ai, hai⟩ : ∃ ai, ai = A.getD i 0 := ⟨_, rfl⟩
      have ha9 : ai < 10 := by rw [hai]; exact getD_lt DD.out.1 i
      have AI := Lib.hid hai
      obtain ⟨b, off, ea, hrd⟩ : ∃ b off, a = some ⟨b, off, none⟩ ∧ ∀ W, Below w.heap.size w W → W.cell? ⟨b, off + i, none⟩ = some (.int .i64 (ai : Int)) := by
        obtain ⟨b, off, e, q⟩ := Row.one V.out i (by rw [← HN.out]; omega)
        refine ⟨b, off, e, fun W hW => ?_⟩
        rw [hW.cell (block_lt_of_cell q), hai]; exact q
      subst ea
      have RD := Lib.hid hrd
      clear hai hrd
      go_wp2_with fail
      go_loopg [7, 8] (n' + 1) (fun g sc sj wr => ∃ (j cr : Nat) (d : List Nat), g = n' + 1 - j ∧ j ≤ n' + 1 ∧ sj = .int .i64 j ∧ sc = .int .i64 cr ∧ (j ≤ n' ∨ cr = 0) ∧ cr ≤ 9 ∧ Dgs d ∧ d.length = N ∧ vl d + 10 ^ (i + j) * cr = vl d0 + 10 ^ i * (ai * vl (B.take j)) ∧ (∀ k, i + max j n' ≤ k → d.getD k 0 = 0) ∧ OwnR kI (w.heap.size + 3) wr (.slice (some ⟨G, 0, none⟩) N N) d ∧ Below (w.heap.size + 3) W3 wr)
      case atStart => exact ⟨0, 0, d0, rfl, by omega, rfl, rfl, Or.inr rfl, by omega, R0.out.2.1, R0.out.2.2.1, by simp [vl], (fun k hk => R0.out.2.2.2.2.1 k (by omega)), R0.out.2.2.2.2.2.1, R0.out.2.2.2.2.2.2⟩
      case round =>
        obtain ⟨j, cr, d, hg, hj, rfl, rfl, hor, hcr, hD, hlen, hval, hz, ho, hb⟩ := hrel
        have R : Hid (gk = n' + 1 - j ∧ (j ≤ n' ∨ cr = 0) ∧ d.length = N ∧ Dgs d ∧ vl d + 10 ^ (i + j) * cr = vl d0 + 10 ^ i * (ai * vl (B.take j)) ∧ (∀ k, i + max j n' ≤ k → d.getD k 0 = 0) ∧ OwnR kI (w.heap.size + 3) wr (.slice (some ⟨G, 0, none⟩) N N) d ∧ Below (w.heap.size + 3) W3 wr) := Lib.hid ⟨hg, hor, hlen, hD, hval, hz, ho, hb⟩
        clear hg hor hlen hD hval hz ho hb
        have BW : Hid (Below w.heap.size w wr) := Lib.hid (F3.out.2.1.trans (R.out.2.2.2.2.2.2.2.mono (by omega)))
        have p0 := cell1 ((R.out.2.2.2.2.2.2.2.block _ (by omega)).trans F3.out.2.2.1)
        have p1 := cell1 ((R.out.2.2.2.2.2.2.2.block _ (by omega)).trans F3.out.2.2.2.1)
        by_cases gg : j < n' ∨ 0 < cr
        · obtain ⟨t, ht⟩ : ∃ t, t = i + j := ⟨_, rfl⟩
          have hjn : j ≤ n' := R.out.2.1.elim id (fun q => by omega)
          have HT := Lib.hid ht
          have htN : (t : Int) < (N : Int) := by omega
          have t1 : IntKind.i64.wrap ((i : Int) + (j : Int)) = (t : Int) := by rw [ht]; simp [IntKind.wrap, IntKind.bits, IntKind.signed]; omega
          have t2 : wrap64 ((i : Int) + (j : Int)) = (t : Int) := by rw [ht]; unfold wrap64; omega
          obtain ⟨x, hx⟩ : ∃ x, x = d.getD t 0 := ⟨_, rfl⟩
          obtain ⟨y, hy⟩ : ∃ y, y = B.getD j 0 := ⟨_, rfl⟩
          have hx9 : x < 10 := by rw [hx]; exact getD_lt R.out.2.2.2.1 t
          have hy9 : y < 10 := by rw [hy]; exact getD_lt DD.out.2.1 j
          obtain ⟨ay, hay⟩ : ∃ ay, ay = ai * y := ⟨_, rfl⟩
          have hay9 : ay ≤ 81 := by rw [hay]; exact Nat.mul_le_mul (show ai ≤ 9 by omega) (show y ≤ 9 by omega)
          obtain ⟨s, hs⟩ : ∃ s, s = x + ay + cr := ⟨_, rfl⟩
          obtain ⟨r, hr⟩ : ∃ r, r = s % 10 := ⟨_, rfl⟩
          obtain ⟨qt, hq⟩ : ∃ qt, qt = s / 10 := ⟨_, rfl⟩
          have e0 : IntKind.i64.wrap ((ai : Int) * (y : Int)) = (ay : Int) := by
            have e : (ai : Int) * (y : Int) = (ay : Int) := by rw [hay]; exact (Int.natCast_mul ai y).symm
            rw [e]; simp [IntKind.wrap, IntKind.bits, IntKind.signed]; omega
          have e00 : IntKind.i64.wrap ((x : Int) + (ay : Int)) = (x : Int) + (ay : Int) := by simp [IntKind.wrap, IntKind.bits, IntKind.signed]; omega
          have e000 : IntKind.i64.wrap ((x : Int) + (ay : Int) + (cr : Int)) = (s : Int) := by rw [hs]; simp [IntKind.wrap, IntKind.bits, IntKind.signed]; omega
          have e1 : (s : Int).tmod 10 = (r : Int) := by rw [hr, Int.tmod_eq_emod_of_nonneg (by omega)]; omega
          have e2 : (s : Int).tdiv 10 = (qt : Int) := by rw [hq, Int.tdiv_eq_ediv_of_nonneg (by omega)]; omega
          have hq9 : qt ≤ 9 := by omega
          have Q : Hid (x = d.getD t 0 ∧ ay = ai * y ∧ y = B.getD j 0 ∧ s = x + ay + cr ∧ r = s % 10 ∧ qt = s / 10 ∧ cr ≤ 9) := Lib.hid ⟨hx, hay, hy, hs, hr, hq, hcr⟩
          have NX : Hid (vl (d.set t r) + 10 ^ (i + (j + 1)) * qt = vl d0 + 10 ^ i * (ai * vl (B.take (j + 1))) ∧ ∀ k, i + max (j + 1) n' ≤ k → (d.set t r).getD k 0 = 0) := Lib.hid (by
            refine ⟨?_, fun k hk => ?_⟩
            · have q := times_step (s := s) (D0 := vl d0) ht (by rw [ht]; exact R.out.2.2.2.2.1) (by rw [R.out.2.2.1]; omega) hx hy (by rw [← hay]; exact hs)
              rw [← hr, ← hq] at q
              have e : i + (j + 1) = t + 1 := by omega
              rw [e]; exact q
            · rw [getD_set _ _ _ (by rw [R.out.2.2.1]; omega), if_neg (by omega)]
              exact R.out.2.2.2.2.2.1 k (by omega))
          have A1 := Lib.hid (at_q (U.out.below BW.out) j y hy)
          have c0 := RD.out wr BW.out
          have c1 : wr.cell? ⟨G, t, none⟩ = some (.int .i64 (x : Int)) := by
            obtain ⟨b5, off5, e5, q5⟩ := Row.one (R.out.2.2.2.2.2.2.1.row okI) t (by rw [R.out.2.2.1]; omega)
            simp only [Option.some.injEq, Addr.mk.injEq, and_true] at e5
            obtain ⟨rfl, rfl⟩ := e5
            rw [Nat.zero_add, ← hx] at q5; exact q5
          have r0 : ∀ (dq : Nat) (os : Array Obj), (grow (redrawn wr dq) os).cell? ⟨w.heap.size, 0, none⟩ = some (.slice (some ⟨b, off, none⟩) n c) := fun dq os => cell_regrown p0 dq os
          have r1 : ∀ (dq : Nat) (os : Array Obj), (grow (redrawn wr dq) os).cell? ⟨w.heap.size + 1, 0, none⟩ = some (.slice a' n' c') := fun dq os => cell_regrown p1 dq os
          have r2 : ∀ (dq : Nat) (os : Array Obj), (grow (redrawn wr dq) os).cell? ⟨b, off + i, none⟩ = some (.int .i64 (ai : Int)) := fun dq os => cell_regrown c0 dq os
          have r3 : ∀ (dq : Nat) (os : Array Obj), (grow (redrawn wr dq) os).cell? ⟨G, t, none⟩ = some (.int .i64 (x : Int)) := fun dq os => cell_regrown c1 dq os
          clear ht hx hy hay hs hr hq hcr
          by_cases g1 : j < n'
          · have ORR : Hid (j + 1 ≤ n' ∨ qt = 0) := Lib.hid (Or.inl (by omega))
            have g1 : decide ((j : Int) < (n' : Int)) = true := decide_eq_true (by omega)
            go_wp2_with fail
            refine wp_region_quiet_below (by kernel_rfl) (by kernel_rfl) ?_
            repeat (go_big_quiet_step (first | with_reducible exact A1.out _ _))
            refine wpQuiet_nil ?_
            rintro _ ⟨⟨dq, osq⟩, hw''⟩
            subst hw''
            have QB := below_regrown wr dq osq
            obtain ⟨W5, hW5⟩ : ∃ W, W = grow (redrawn wr dq) osq := ⟨_, rfl⟩
            rw [← hW5] at QB ⊢
            have S5 : Hid (OwnR kI (w.heap.size + 3) W5 (.slice (some ⟨G, 0, none⟩) N N) d ∧ Below (w.heap.size + 3) W3 W5) := Lib.hid (by have q := R.out.2.2.2.2.2.2.2.size; rw [F3.out.1] at q; exact ⟨R.out.2.2.2.2.2.2.1.below QB, R.out.2.2.2.2.2.2.2.trans (QB.mono q)⟩)
            clear hW5 QB r0 r1 r2 r3 p0 p1 c0 c1
            obtain ⟨cur, -, hBg, hG5, -⟩ := S5.out.1.parts
            have f5 := frozen_row hG5 t
            have c5 : W5.cell? ⟨G, t, none⟩ = some (.int .i64 (x : Int)) := by
                obtain ⟨b5, off5, e5, q5⟩ := Row.one (S5.out.1.row okI) t (by rw [R.out.2.2.1]; omega)
                simp only [Option.some.injEq, Addr.mk.injEq, and_true] at e5
                obtain ⟨rfl, rfl⟩ := e5
                rw [Nat.zero_add, ← Q.out.1] at q5; exact q5
            have ST : Hid (OwnR kI (w.heap.size + 3) (W5.setCell ⟨G, t, none⟩ (.int .i64 (r : Int))) (.slice (some ⟨G, 0, none⟩) N N) (d.set t r) ∧ Below (w.heap.size + 3) W3 (W5.setCell ⟨G, t, none⟩ (.int .i64 (r : Int)))) := Lib.hid ⟨by
                have q := S5.out.1.set okI t 0 (by rw [R.out.2.2.1]; omega) (by decide) r (.int .i64 (r : Int)) rfl
                have e : t * kI.k + 0 = t := by show t * 1 + 0 = t; omega
                rw [e] at q; exact q, S5.out.2.setCell (p := ⟨G, t, none⟩) hBg _⟩
            clear hG5 hBg
            go_wp2_with fail
            obtain ⟨W7, hW7⟩ : ∃ W, W = W5.setCell ⟨G, t, none⟩ (.int .i64 (r : Int)) := ⟨_, rfl⟩
            rw [← hW7] at ST ⊢
            clear hW7 f5 c5
            go_wp2_with fail
            go_roundg (n' + 1 - (j + 1))
            case measure => have := R.out.1; omega
            case rel => exact ⟨j + 1, qt, d.set t r, rfl, by omega, by first | rfl | go_num, by first | rfl | go_num, ORR.out, by omega, dgs_set R.out.2.2.2.1 _ _ (by have := Q.out.2.2.2.2.1; omega), by rw [List.length_set]; exact R.out.2.2.1, NX.out.1, NX.out.2, ST.out.1, ST.out.2⟩
          · have hjn : j = n' := R.out.2.1.elim (fun q => by omega) (fun q => by omega)
            have ORR : Hid (j + 1 ≤ n' ∨ qt = 0) := Lib.hid (Or.inr (by
                have z1 : x = 0 := by rw [Q.out.1]; exact R.out.2.2.2.2.2.1 t (by rw [HT.out]; omega)
                have z2 : y = 0 := by rw [Q.out.2.2.1, List.getD_eq_getElem?_getD, List.getElem?_eq_none (by rw [← HN'.out]; omega)]; rfl
                have z3 : ay = 0 := by rw [Q.out.2.1, z2, Nat.mul_zero]
                have := Q.out.2.2.2
                omega))
            clear hjn
            have g1 : decide ((j : Int) < (n' : Int)) = false := decide_eq_false (by omega)
            have g2 : decide ((cr : Int) > 0) = true := decide_eq_true (by omega)
            go_wp2_with fail
            refine wp_region_quiet_below (by kernel_rfl) (by kernel_rfl) ?_
            repeat (go_big_quiet_step (first | with_reducible exact A1.out _ _))
            refine wpQuiet_nil ?_
            rintro _ ⟨⟨dq, osq⟩, hw''⟩
            subst hw''
            have QB := below_regrown wr dq osq
            obtain ⟨W5, hW5⟩ : ∃ W, W = grow (redrawn wr dq) osq := ⟨_, rfl⟩
            rw [← hW5] at QB ⊢
            have S5 : Hid (OwnR kI (w.heap.size + 3) W5 (.slice (some ⟨G, 0, none⟩) N N) d ∧ Below (w.heap.size + 3) W3 W5) := Lib.hid (by have q := R.out.2.2.2.2.2.2.2.size; rw [F3.out.1] at q; exact ⟨R.out.2.2.2.2.2.2.1.below QB, R.out.2.2.2.2.2.2.2.trans (QB.mono q)⟩)
            clear hW5 QB r0 r1 r2 r3 p0 p1 c0 c1
            obtain ⟨cur, -, hBg, hG5, -⟩ := S5.out.1.parts
            have f5 := frozen_row hG5 t
            have c5 : W5.cell? ⟨G, t, none⟩ = some (.int .i64 (x : Int)) := by
                obtain ⟨b5, off5, e5, q5⟩ := Row.one (S5.out.1.row okI) t (by rw [R.out.2.2.1]; omega)
                simp only [Option.some.injEq, Addr.mk.injEq, and_true] at e5
                obtain ⟨rfl, rfl⟩ := e5
                rw [Nat.zero_add, ← Q.out.1] at q5; exact q5
            have ST : Hid (OwnR kI (w.heap.size + 3) (W5.setCell ⟨G, t, none⟩ (.int .i64 (r : Int))) (.slice (some ⟨G, 0, none⟩) N N) (d.set t r) ∧ Below (w.heap.size + 3) W3 (W5.setCell ⟨G, t, none⟩ (.int .i64 (r : Int)))) := Lib.hid ⟨by
                have q := S5.out.1.set okI t 0 (by rw [R.out.2.2.1]; omega) (by decide) r (.int .i64 (r : Int)) rfl
                have e : t * kI.k + 0 = t := by show t * 1 + 0 = t; omega
                rw [e] at q; exact q, S5.out.2.setCell (p := ⟨G, t, none⟩) hBg _⟩
            clear hG5 hBg
            go_wp2_with fail
            obtain ⟨W7, hW7⟩ : ∃ W, W = W5.setCell ⟨G, t, none⟩ (.int .i64 (r : Int)) := ⟨_, rfl⟩
            rw [← hW7] at ST ⊢
            clear hW7 f5 c5
            go_wp2_with fail
            go_roundg (n' + 1 - (j + 1))
            case measure => have := R.out.1; omega
            case rel => exact ⟨j + 1, qt, d.set t r, rfl, by omega, by first | rfl | go_num, by first | rfl | go_num, ORR.out, by omega, dgs_set R.out.2.2.2.1 _ _ (by have := Q.out.2.2.2.2.1; omega), by rw [List.length_set]; exact R.out.2.2.1, NX.out.1, NX.out.2, ST.out.1, ST.out.2⟩
        · have cr0 : cr = 0 := by omega
          subst cr0
          have g1 : decide ((j : Int) < (n' : Int)) = false := decide_eq_false (by omega)
          have EX : Hid (vl d = vl (A.take (i + 1)) * q ∧ ∀ k, i + 1 + n' ≤ k → d.getD k 0 = 0) := Lib.hid (by
            refine ⟨?_, fun k hk => R.out.2.2.2.2.2.1 k (by omega)⟩
            have q1 := R.out.2.2.2.2.1
            rw [List.take_of_length_le (l := B) (by rw [← HN'.out]; omega), DD.out.2.2.2.1, R0.out.2.2.2.1, Nat.mul_zero, Nat.add_zero] at q1
            rw [q1, vl_take_succ', ← AI.out, Nat.add_mul, Nat.mul_assoc])
          go_wp2_with fail
          go_roundg (n - (i + 1))
          case measure => have := R0.out.1; omega
          case rel => exact ⟨i + 1, d, rfl, by omega, by first | rfl | go_num, R.out.2.2.2.1, R.out.2.2.1, EX.out.1, EX.out.2, R.out.2.2.2.2.2.2.1, R.out.2.2.2.2.2.2.2⟩
    · have hin : ¬ (i : Int) < (n : Int) := by omega
      have EQ : Hid (vl d0 = p * q) := Lib.hid (by rw [R0.out.2.2.2.1, List.take_of_length_le (l := A) (by rw [← HN.out]; omega), DD.out.2.2.1])
      have CT := Lib.hid (cut_at (some ⟨G, 0, none⟩) N N d0 wr (R0.out.2.2.2.2.2.1.row okI) R0.out.2.1)
      rw [EQ.out] at CT
      go_wp2_with fail
      refine CT.out.mono ?_
      rintro e w6 ⟨n6, c6, rfl, hr6, hb6⟩
      have B6 : Hid (Below (w.heap.size + 3) W3 w6) := Lib.hid (R0.out.2.2.2.2.2.2.trans (hb6.mono (by have q := R0.out.2.2.2.2.2.2.size; rw [F3.out.1] at q; exact q)))
      have R6 := Lib.hid hr6
      have H6 : Hid (w6.heap[w.heap.size + 1 + 1]? = some (.cells #[.slice none 0 0] 40 (0, 0))) := Lib.hid ((B6.out.block _ (by omega)).trans F3.out.2.2.2.2)
      have t6 := cell1 H6.out
      have f6 := frz H6.out 0
      clear hr6 hb6 p0 p1
      go_wp2_with fail
      refine bodyPost_ret (results_cell_row rfl _ _ (w.heap.size + 1 + 1) 40 #[_] (0, 0) _ rfl (set1 H6.out _) Tryd.underlying40 rfl size_long) rfl ?_
      have B7 : Below w.heap.size w (w6.setCell ⟨w.heap.size + 1 + 1, 0, none⟩ (.slice (some ⟨G, 0, none⟩) n6 c6)) := (F3.out.2.1.trans (B6.out.mono (by omega))).setCell (show w.heap.size ≤ w.heap.size + 1 + 1 by omega) _
      exact ⟨some ⟨G, 0, none⟩, n6, c6, rfl, row_set H6.out R6.out _, (fun ad e => by injection e with e; subst e; show w.heap.size ≤ G; have := GE.out; omega), B7⟩
theorem times_any (a a' : Option Addr) (n n' c c' : Nat) (p q : Nat) (w : World) (hv : Row kI w (.slice a n c) (dg p)) (hu : Row kI w (.slice a' n' c') (dg q)) (hn : n ≤ 1000) (hn' : n' ≤ 1000) :
    Calls Tryd.prog 27 #[.agg #[.slice a n c], .agg #[.slice a' n' c']] w fun e w' => ∃ a n c, e = .returned (.agg #[.slice a n c]) ∧ Row kI w' (.slice a n c) (dg (p * q)) ∧ Below w.heap.size w w' :=
  (times_fr a a' n n' c c' p q w hv hu hn hn').mono fun _ _ ⟨a, n, c, h1, h2, _, h4⟩ => ⟨a, n, c, h1, h2, h4⟩
end Lg
end Go.Proofs.YtjegjpdeclgegaaDoor
