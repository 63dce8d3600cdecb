/-
  The document's suffixes, walked.
-/
import Derived.Test.YtjegjpdeclgegaaDoorLgS
namespace Go.Proofs.YtjegjpdeclgegaaDoor
open Go.RowKit Go.Lib
open Go.Sort (grow)
namespace Lg
theorem row_lt {w : World} {a : Option Addr} {n c p : Nat} (h : Row kI w (.slice a n c) (dg p)) (hp : 0 < p) : ∀ ad, a = some ad → ad.block < w.heap.size := by
  intro ad e
  obtain ⟨b, off, ea, hc⟩ := Row.one h 0 (by rw [dg_pos hp]; simp)
  rw [e] at ea
  injection ea with ea
  subst ea
  exact block_lt_of_cell hc
theorem row_nn {w : World} {a : Option Addr} {n c x : Nat} (h : Row kI w (.slice a n c) (dg x)) {k : Nat} (hx : x < 10 ^ k) : n ≤ k := by
  obtain ⟨_, _, e, _⟩ := h.len
  simp only [Value.slice.injEq] at e
  rw [e.2.1]; exact dg_len_lt hx
theorem sufN_pos (j : Nat) : 0 < sufN j := by unfold sufN; split <;> decide
theorem Sf.lts {B m : Nat} {W : World} {v : Value} {xs : List Su} (h : Sf B W v m xs) : ∀ j, j < m → ∀ ad, (xs.getD j kS.z).a = some ad → ad.block < W.heap.size := fun j hj => row_lt (h.row j hj) (sufN_pos j)
/-- An append of one element, as a step of a drawn region. -/
theorem step_one {α : Type} {K' : Kd α} (ok : K'.Ok) {ops : Array Oper} {o : Oper} {a : Act} {w : World} {K : Act → World → Prop} {Q : Exit → Act → World → Prop} {E : Prop} (hgd : o.guard = none) (so x : Operand)
    (ho : o.op = .call { callee := .builtin .append, args := #[so, x], argTypes := #[K'.s, K'.s] })
    {B : Nat} {v : Value} {L : List α} (hs : a.eval so = v) (hown : OwnR K' B w v L) (hB : B ≤ w.heap.size) (p : α) {cs : Array Value} (hcs : cs = (K'.c p).toArray) (hx : a.eval x = .slice (some ⟨w.heap.size, 0, none⟩) 1 1) (hl : (L.length + 1) * K'.b ≤ 140737488355328)
    (h : ∀ a' n' c' w', Hid (OwnR K' B w' (.slice a' n' c') (L ++ [p]) ∧ (w.alloc (.cells cs K'.t)).grownBy w' v.ownBlock ∧ ((Value.slice a' n' c').ownBlock = v.ownBlock ∨ (Value.slice a' n' c').ownBlock = some (w.alloc (.cells cs K'.t)).heap.size)) → K (a.put o.dst (.slice a' n' c')) w') :
    if Region.wanted o (yielded ops a.tmps) = true then Oper.wp Tryd.prog o a (w.alloc (.cells cs K'.t)) K Q else E := by
  subst hcs
  have hw : Region.wanted o (yielded ops a.tmps) = true := by simp [Region.wanted, hgd]
  rw [if_pos hw]
  obtain ⟨zv, hinf, hzc⟩ := ok.inf
  obtain ⟨i0, hi, hz0, hz1, hz2⟩ := info_parts hinf
  have hb := ok.by0
  obtain ⟨v', w', hr, h2, h3, _, h5⟩ := run_append_own_at (P := Tryd.prog) (w.alloc (.cells (K'.c p).toArray K'.t)) B K'.s o.type K'.t i0 zv K'.k K'.b ok.und hi hz0 hz1 hz2 hzc ok.pos v L.length (cellsR K' L) (World.ownsRow.alloc hown _) ⟨w.heap.size, 0, none⟩ 1 1 (K'.c p) (by rw [ok.len, Nat.one_mul]) (by
    intro j u hj
    rw [add_plain, Nat.zero_add, World.cell?_alloc_new, ← Array.getElem?_toList]; exact hj) (ok.one p) (by have := Nat.le_mul_of_pos_right (L.length + 1) hb.1; unfold maxLen; omega) hl (by simp; omega)
  unfold Oper.wp execOp
  simp only [ho, resolve, invoke, builtin, Sem.run_bind, Sem.run_pure, Result.andThen_ok, List.map_toArray, List.map_cons, List.map_nil, hs, hx, hr]
  have o2 : OwnR K' B w' v' (L ++ [p]) := by
    show w'.ownsRow _ _ _ _ _ _
    rw [cellsR_app, List.length_append, cellsR_single]; exact h2
  obtain ⟨a7, c7, e7⟩ := o2.slice
  subst e7
  exact h a7 _ c7 w' (Lib.hid ⟨o2, h3, h5⟩)
/-- The append's world: one suffix more. -/
theorem Sf.next {B m : Nat} {w0 wr w7 w8 : World} {a : Option Addr} {n c : Nat} {xs : List Su} (H : Sf B wr (.slice a n c) m xs) (hb : Below B w0 wr) (hB : B ≤ wr.heap.size) (B7 : Below wr.heap.size wr w7) (x : Su) (ht : x.t = sufT m) (hr : Row kI w7 (.slice x.a x.n x.c) (dg (sufN m))) (hfr : Fr wr.heap.size x.a) {v' : Value} {ob : Obj}
    (ho : OwnR kS B w8 v' (xs ++ [x])) (hg : (w7.alloc ob).grownBy w8 (Value.slice a n c).ownBlock) (hat : v'.ownBlock = (Value.slice a n c).ownBlock ∨ v'.ownBlock = some (w7.alloc ob).heap.size) : Sf B w8 v' (m + 1) (xs ++ [x]) ∧ Below B w0 w8 := by
  have q : Below w7.heap.size w7 (w7.alloc ob) := (Below.refl _ w7).alloc (Nat.le_refl _) _
  have h7 := H.below B7
  have h8 := h7.below q
  refine ⟨h8.more x ht (hr.below q) (fun ad e => ⟨fun z => ?_, ?_⟩) h8.lts ho hg hat, ?_⟩
  · have q1 := (H.own.lt _ z).2
    have q2 := hfr ad e
    omega
  · exact row_lt (hr.below q) (sufN_pos m) ad e
  · have s7 : B ≤ w7.heap.size := Nat.le_trans hB B7.size
    have b8 : Below B w0 (w7.alloc ob) := (hb.trans (B7.mono hB)).trans (q.mono s7)
    exact b8.trans (grown_belowR hg h8.own (Nat.le_trans s7 q.size))
theorem dec_at (k : Nat) (h : k < 5) : (⟨#[107, 77, 71, 84, 80]⟩ : ByteArray).extract k (k + 1) = sufT (k + 2) ∧ 1000 ^ (k + 2) = sufN (k + 2) := by
  match k, h with
  | 0, _ => exact ⟨rfl, by decide⟩
  | 1, _ => exact ⟨rfl, by decide⟩
  | 2, _ => exact ⟨rfl, by decide⟩
  | 3, _ => exact ⟨rfl, by decide⟩
  | 4, _ => exact ⟨rfl, by decide⟩
theorem bin_at (k : Nat) (h : k < 5) : (⟨#[75, 77, 71, 84, 80]⟩ : ByteArray).extract k (k + 1) ++ ⟨#[105]⟩ = sufT (k + 7) ∧ 1024 ^ (k + 1) * 1000 = sufN (k + 7) := by
  match k, h with
  | 0, _ => exact ⟨rfl, by decide⟩
  | 1, _ => exact ⟨rfl, by decide⟩
  | 2, _ => exact ⟨rfl, by decide⟩
  | 3, _ => exact ⟨rfl, by decide⟩
  | 4, _ => exact ⟨rfl, by decide⟩
set_option maxHeartbeats 8000000 in
set_option maxRecDepth 100000 in
theorem suffixes_any (w : World) :
    Calls Tryd.prog 14 #[] w fun e w' => ∃ a n c xs, e = .returned (.slice a n c) ∧ Sf w.heap.size w' (.slice a n c) 12 xs ∧ Below w.heap.size w w' := by
  have L1 := Lib.hid (fun W => long_fr 1 W (by decide))
  have L2 := Lib.hid (fun W => long_fr 1000 W (by decide))
  go_enter Tryd.func14, Tryd.ntmps14
  go_wp2_with fail
  refine (L1.out w).mono ?_
  rintro e w1 ⟨a1, n1, c1, rfl, hr1, -, hb1⟩
  have S1 : Hid (Row kI w1 (.slice a1 n1 c1) (dg 1) ∧ Below w.heap.size w w1) := Lib.hid ⟨hr1, hb1⟩
  clear hr1 hb1
  go_wp2_with fail
  refine (L2.out w1).mono ?_
  rintro e w2 ⟨a2, n2, c2, rfl, hr2, -, hb2⟩
  have S2 : Hid (Row kI w2 (.slice a1 n1 c1) (dg 1) ∧ Row kI w2 (.slice a2 n2 c2) (dg 1000) ∧ Below w.heap.size w w2) := Lib.hid ⟨S1.out.1.below hb2, hr2, S1.out.2.trans (hb2.mono S1.out.2.size)⟩
  clear hr2 hb2 S1
  obtain ⟨W3, hW3⟩ : ∃ W, W = w2.alloc (.cells #[.string ⟨#[109]⟩, .slice a1 n1 c1, .string ⟨#[]⟩, .slice a2 n2 c2] 48) := ⟨_, rfl⟩
  obtain ⟨g3, hg3⟩ : ∃ g, g = w2.heap.size := ⟨_, rfl⟩
  have S3 : Hid (Sf w.heap.size W3 (.slice (some ⟨g3, 0, none⟩) 2 2) 2 [⟨⟨#[109]⟩, a1, n1, c1⟩, ⟨⟨#[]⟩, a2, n2, c2⟩] ∧ Below w.heap.size w W3) := Lib.hid (by
    have q : Below w2.heap.size w2 W3 := by rw [hW3]; exact (Below.refl _ w2).alloc (Nat.le_refl _) _
    refine ⟨⟨?_, rfl, ?_, ?_, ?_⟩, S2.out.2.2.trans (q.mono S2.out.2.2.size)⟩
    · rw [hW3, hg3]
      exact (row_built (K := kS) w2 [⟨⟨#[109]⟩, a1, n1, c1⟩, ⟨⟨#[]⟩, a2, n2, c2⟩] okS rfl rfl (by unfold maxLen; show 2 ≤ _; decide)).mono S2.out.2.2.size
    · intro j hj
      match j, hj with
      | 0, _ => rfl
      | 1, _ => rfl
    · intro j hj
      match j, hj with
      | 0, _ => exact S2.out.1.below q
      | 1, _ => exact S2.out.2.1.below q
    · intro j hj ad e z
      injection z with z
      have z' : g3 = ad.block := z
      match j, hj with
      | 0, _ => have := row_lt S2.out.1 (by decide) ad e; omega
      | 1, _ => have := row_lt S2.out.2.1 (by decide) ad e; omega)
  have EW := Lib.hid (And.intro hW3 hg3)
  clear hW3 hg3
  go_wp2_with fail
  rw [← EW.out.1, ← EW.out.2]
  clear EW S2
  go_loopg [1, 2] 5 (fun g sl si wr => ∃ (i : Nat) (a : Option Addr) (n c : Nat) (xs : List Su), g = 6 - i ∧ 1 ≤ i ∧ i ≤ 6 ∧ si = .int .i64 i ∧ sl = .slice a n c ∧ Sf w.heap.size wr (.slice a n c) (i + 1) xs ∧ Below w.heap.size w wr)
  case atStart => exact ⟨1, _, _, _, _, rfl, by decide, by decide, rfl, rfl, S3.out.1, S3.out.2⟩
  case round =>
    obtain ⟨i, a, n, c, xs, hg, hi1, hi2, rfl, rfl, hs, hb⟩ := hrel
    have R : Hid (gk = 6 - i ∧ Sf w.heap.size wr (.slice a n c) (i + 1) xs ∧ Below w.heap.size w wr) := Lib.hid ⟨hg, hs, hb⟩
    clear hg hs hb
    by_cases hlt : i ≤ 5
    · obtain ⟨k, hk⟩ : ∃ k, k = i - 1 := ⟨_, rfl⟩
      obtain ⟨j, hj⟩ : ∃ j, j = i + 1 := ⟨_, rfl⟩
      have g5 : decide ((i : Int) ≤ 5) = true := decide_eq_true (by omega)
      have e1 : IntKind.i64.wrap ((i : Int) - 1) = (k : Int) := by rw [hk]; simp [IntKind.wrap, IntKind.bits, IntKind.signed]; omega
      have e2 : IntKind.i64.wrap ((i : Int) + 1) = (j : Int) := by rw [hj]; simp [IntKind.wrap, IntKind.bits, IntKind.signed]; omega
      have e1' : wrap64 ((i : Int) - 1) = (k : Int) := by rw [hk]; unfold wrap64; omega
      have e2' : wrap64 ((i : Int) + 1) = (j : Int) := by rw [hj]; unfold wrap64; omega
      have s1 : (k : Int) ≤ (i : Int) := by omega
      have s2 : (i : Int) ≤ 5 := by omega
      obtain ⟨T, hT⟩ : ∃ T, T = sufT j := ⟨_, rfl⟩
      have ex : (⟨#[107, 77, 71, 84, 80]⟩ : ByteArray).extract k i = T := by
        have q := (dec_at k (by omega)).1
        have e : k + 1 = i := by omega
        have e' : k + 2 = j := by omega
        rw [e, e'] at q; rw [hT]; exact q
      have PW : Hid (∀ W, Calls Tryd.prog 26 #[.int .i64 1000, .int .i64 (j : Int)] W (Tells W (sufN j))) := Lib.hid fun W => by
        have q := power_fr 1000 j W (by decide) (by omega)
        have e : 1000 ^ j = sufN j := by
          have q := (dec_at k (by omega)).2
          have e' : k + 2 = j := by omega
          rw [e'] at q; exact q
        rw [e] at q; exact q
      have JJ : Hid (j = i + 1 ∧ T = sufT j) := Lib.hid ⟨hj, hT⟩
      have WB : Hid (w.heap.size ≤ wr.drew.heap.size) := Lib.hid R.out.2.2.size
      have LQ : Hid ((xs.length + 1) * kS.b ≤ 140737488355328) := Lib.hid (by rw [R.out.2.1.len]; show (i + 1 + 1) * 40 ≤ _; omega)
      clear hk hj hT
      go_wp2_with fail
      go_region_law (first | (refine step_power rfl (.const (.int .i64 1000)) (.tmp 19) #[2, 3] rfl (.int .i64 1000) (.int .i64 (j : Int)) rfl rfl (sufN j) (PW.out _) ?_; intro a7 n7 c7 w7 H7; have B7 : Hid (Below wr.heap.size wr w7) := Lib.hid ((Below.refl _ wr).drew.trans H7.out.2.2); have S7 : Hid (Sf w.heap.size w7 (.slice a n c) (i + 1) xs) := Lib.hid (R.out.2.1.below B7.out); have Z7 : Hid (w.heap.size ≤ w7.heap.size) := Lib.hid (Nat.le_trans R.out.2.2.size B7.out.size)) | (refine step_one okS rfl (.tmp 13) (.tmp 22) rfl (B := w.heap.size) (w := w7) (v := .slice a n c) (L := xs) rfl S7.out.own Z7.out ⟨T, a7, n7, c7⟩ rfl rfl LQ.out ?_; intro a8 n8 c8 w8 H8))
      all_goals
        have S8 := Lib.hid (R.out.2.1.next R.out.2.2 R.out.2.2.size B7.out ⟨T, a7, n7, c7⟩ (by rw [← JJ.out.1]; exact JJ.out.2) (by rw [← JJ.out.1]; exact H7.out.1) H7.out.2.1 H8.out.1 H8.out.2.1 H8.out.2.2)
        go_wp2_with fail
        go_roundg (6 - (i + 1))
        case measure => have := R.out.1; omega
        case rel => exact ⟨i + 1, a8, n8, c8, _, rfl, by omega, by omega, by first | rfl | (rw [JJ.out.1]; done) | (rw [e2', JJ.out.1]; done) | (congr 1; unfold wrap64; omega), rfl, S8.out.1, S8.out.2⟩
    · obtain rfl : i = 6 := by omega
      have g5 : decide (((6 : Nat) : Int) ≤ 5) = false := by decide
      obtain ⟨WB, hWB⟩ : ∃ W, W = wr := ⟨_, rfl⟩
      rw [← hWB] at R ⊢
      clear hWB
      go_wp2_with fail
      go_loopg [1, 3] 5 (fun g sl si wr => ∃ (i : Nat) (a : Option Addr) (n c : Nat) (xs : List Su), g = 6 - i ∧ 1 ≤ i ∧ i ≤ 6 ∧ si = .int .i64 i ∧ sl = .slice a n c ∧ Sf w.heap.size wr (.slice a n c) (i + 6) xs ∧ Below w.heap.size w wr)
      case atStart => exact ⟨1, _, _, _, _, rfl, by decide, by decide, rfl, rfl, R.out.2.1, R.out.2.2⟩
      case round =>
        obtain ⟨i, a, n, c, xs, hg, hi1, hi2, rfl, rfl, hs, hb⟩ := hrel
        have R2 : Hid (gk = 6 - i ∧ Sf w.heap.size wr (.slice a n c) (i + 6) xs ∧ Below w.heap.size w wr) := Lib.hid ⟨hg, hs, hb⟩
        clear hg hs hb R
        by_cases hlt : i ≤ 5
        · obtain ⟨k, hk⟩ : ∃ k, k = i - 1 := ⟨_, rfl⟩
          have g6 : decide ((i : Int) ≤ 5) = true := decide_eq_true (by omega)
          have e1 : IntKind.i64.wrap ((i : Int) - 1) = (k : Int) := by rw [hk]; simp [IntKind.wrap, IntKind.bits, IntKind.signed]; omega
          have e1' : wrap64 ((i : Int) - 1) = (k : Int) := by rw [hk]; unfold wrap64; omega
          have s1 : (k : Int) ≤ (i : Int) := by omega
          have s2 : (i : Int) ≤ 5 := by omega
          obtain ⟨T, hT⟩ : ∃ T, T = (⟨#[75, 77, 71, 84, 80]⟩ : ByteArray).extract k i := ⟨_, rfl⟩
          have ex : (⟨#[75, 77, 71, 84, 80]⟩ : ByteArray).extract k i = T := hT.symm
          have JJ : Hid (T ++ ⟨#[105]⟩ = sufT (i + 6) ∧ 1024 ^ i * 1000 = sufN (i + 6)) := Lib.hid (by
            have q := bin_at k (by omega)
            have e : k + 1 = i := by omega
            have e' : k + 7 = i + 6 := by omega
            rw [e, e'] at q; rw [hT]; exact q)
          have TS : T.size + 1 ≤ 9223372036854775807 := by
            rw [hT, ByteArray.size_extract]
            have : min i (⟨#[75, 77, 71, 84, 80]⟩ : ByteArray).size ≤ 5 := Nat.le_trans (Nat.min_le_right _ _) (by decide)
            omega
          have hs1 : ¬ (T.size + 1 > 9223372036854775807) := by omega
          have hs2 : ¬ (T.size + (⟨#[105]⟩ : ByteArray).size > 9223372036854775807) := hs1
          have PW : Hid (∀ W, Calls Tryd.prog 26 #[.int .i64 1024, .int .i64 (i : Int)] W (Tells W (1024 ^ i))) := Lib.hid fun W => power_fr 1024 i W (by decide) (by omega)
          have LG : Hid (∀ W, Calls Tryd.prog 12 #[.int .i64 1000] W (Tells W 1000)) := Lib.hid fun W => L2.out W
          have P9 : Hid (1024 ^ i < 10 ^ 100) := Lib.hid (Nat.lt_of_le_of_lt (Nat.pow_le_pow_right (by decide) hlt) (by decide))
          have WB2 : Hid (w.heap.size ≤ wr.drew.heap.size) := Lib.hid R2.out.2.2.size
          have LQ : Hid ((xs.length + 1) * kS.b ≤ 140737488355328) := Lib.hid (by rw [R2.out.2.1.len]; show (i + 6 + 1) * 40 ≤ _; omega)
          clear hk hT
          go_wp2_with fail
          go_region_law (first | (refine step_power rfl (.const (.int .i64 1024)) (.tmp 34) #[2, 3] rfl (.int .i64 1024) (.int .i64 (i : Int)) rfl rfl (1024 ^ i) (PW.out _) ?_; intro a7 n7 c7 w7 H7; have B7 : Hid (Below wr.heap.size wr w7) := Lib.hid ((Below.refl _ wr).drew.trans H7.out.2.2)) | (refine step_long rfl (.const (.int .i64 1000)) #[2] rfl (.int .i64 1000) rfl 1000 (LG.out w7) ?_; intro a9 n9 c9 w9 H9; have B9 : Hid (Below wr.heap.size wr w9) := Lib.hid (B7.out.trans (H9.out.2.2.mono B7.out.size)); have TM := Lib.hid (times_fr a7 a9 n7 n9 c7 c9 (1024 ^ i) 1000 w9 (H7.out.1.below H9.out.2.2) H9.out.1 (Nat.le_trans (row_nn H7.out.1 P9.out) (by decide)) (Nat.le_trans (row_nn H9.out.1 (k := 4) (by decide)) (by decide)))) | (refine step_times rfl (.tmp 35) (.tmp 36) #[40, 40] rfl (.agg #[.slice a7 n7 c7]) (.agg #[.slice a9 n9 c9]) rfl rfl (1024 ^ i * 1000) TM.out ?_; intro a6 n6 c6 w6 H6; have B6 : Hid (Below wr.heap.size wr w6) := Lib.hid (B9.out.trans (H6.out.2.2.mono B9.out.size)); have S6 : Hid (Sf w.heap.size w6 (.slice a n c) (i + 6) xs) := Lib.hid (R2.out.2.1.below B6.out); have Z6 : Hid (w.heap.size ≤ w6.heap.size) := Lib.hid (Nat.le_trans R2.out.2.2.size B6.out.size)) | (refine step_one okS rfl (.tmp 28) (.tmp 39) rfl (B := w.heap.size) (w := w6) (v := .slice a n c) (L := xs) rfl S6.out.own Z6.out ⟨T ++ ⟨#[105]⟩, a6, n6, c6⟩ rfl rfl LQ.out ?_; intro a8 n8 c8 w8 H8))
          all_goals
            have S8 := Lib.hid (R2.out.2.1.next R2.out.2.2 R2.out.2.2.size B6.out ⟨T ++ ⟨#[105]⟩, a6, n6, c6⟩ JJ.out.1 (by rw [← JJ.out.2]; exact H6.out.1) (H6.out.2.1.mono B9.out.size) H8.out.1 H8.out.2.1 H8.out.2.2)
            go_wp2_with fail
            go_roundg (6 - (i + 1))
            case measure => have := R2.out.1; omega
            case rel => exact ⟨i + 1, a8, n8, c8, _, rfl, by omega, by omega, by first | rfl | go_num | (congr 1; unfold wrap64; omega), rfl, by have q := S8.out.1; rw [show i + 6 + 1 = i + 1 + 6 by omega] at q; exact q, S8.out.2⟩
        · obtain rfl : i = 6 := by omega
          have g6 : decide (((6 : Nat) : Int) ≤ 5) = false := by decide
          go_wp2_with fail
          go_ret
          exact ⟨a, n, c, xs, rfl, R2.out.2.1, R2.out.2.2⟩
end Lg
end Go.Proofs.YtjegjpdeclgegaaDoor
