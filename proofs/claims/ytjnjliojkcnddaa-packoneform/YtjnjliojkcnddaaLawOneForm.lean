/-
  THE WALK of PackOneForm.
-/
import Derived.Test.YtjnjliojkcnddaaFwd
namespace Go.Proofs.Ytjnjliojkcnddaa
open Go.RowKit

/-- The slice v holds the whole numbers ks. -/
def Nums (w : World) (v : Value) (ks : List Int) : Prop :=
  ∃ a cap, v = .slice a ks.length cap ∧ ks.length ≤ cap ∧ cap ≤ maxLen ∧ (∀ k, k < ks.length → ∃ b off, a = some ⟨b, off, none⟩ ∧ w.cell? ⟨b, off + k, none⟩ = some (.int .i64 (ks.getD k 0)))
theorem Nums.below {w w' : World} {v : Value} {ks : List Int} (H : Nums w v ks) (hb : Below w.heap.size w w') : Nums w' v ks := by
  obtain ⟨a, cap, e, h1, h2, h3⟩ := H
  refine ⟨a, cap, e, h1, h2, fun k hk => ?_⟩
  obtain ⟨b, off, ea, hc⟩ := h3 k hk
  exact ⟨b, off, ea, by rw [hb.cell (p := ⟨b, off + k, none⟩) (block_lt_of_cell hc)]; exact hc⟩
/-- written of one value whose bytes fit. -/
theorem written_fits (x : V) (w : World) (hf : x.fits) (hk : x.ok) (hl : x.enc.length ≤ 1048576) (v : Value) (hv : Vals w v [x]) :
    Calls Try.prog 10 #[v] w fun e w' => ∃ v', e = .returned (.tuple #[v', .bool true]) ∧ Own w.heap.size w' v' x.enc ∧ Below w.heap.size w w' := by
  have e : wrt [x] = ⟨x.enc, 1048576, 0⟩ := by
    have := wrt_ok [x] (fun y hy => by simp at hy; rw [hy]; exact hk) (by rw [encs_one]; exact hl)
    rw [encs_one] at this; exact this
  refine (written_any v [x] w hv (fun y hy => by simp at hy; rw [hy]; exact hf)).mono ?_
  rintro en w' ⟨v', rfl, ho, hb⟩
  rw [e] at ho ⊢
  exact ⟨v', rfl, ho, hb⟩
theorem kfits (k : Int) (h : -9223372036854775808 ≤ k ∧ k < 9223372036854775808) : (⟨k, 0, 0, ⟨#[]⟩⟩ : V).fits := ⟨h, by simp, ⟨by simp, by simp⟩, by simp [nosz]⟩
theorem Bytes.part {w : World} {a : Option Addr} {n cap : Nat} {l : List UInt8} (H : Bytes w (.slice a n cap) l) (p f : Nat) (hf : 0 < f) (hp : p + f ≤ l.length) :
    ∃ b off, a = some ⟨b, off, none⟩ ∧ Bytes w (.slice (some ⟨b, off + p, none⟩) f (cap - p)) ((l.drop p).take f) := by
  obtain ⟨a', cap', e', h1, h2, h0, hc⟩ := H
  simp only [Value.slice.injEq] at e'
  obtain ⟨rfl, rfl, rfl⟩ := e'
  obtain ⟨b, off, ea, _⟩ := hc 0 (by omega)
  subst ea
  refine ⟨b, off, rfl, ?_⟩
  have H2 : Bytes w (.slice (some ⟨b, off, none⟩) l.length cap) l := ⟨_, cap, rfl, h1, h2, h0, hc⟩
  have H3 := H2.drop p (by omega)
  rw [Option.map_some, add_plain] at H3
  exact H3.take' f (by omega)

theorem field0 (w : World) (a : Int) (b : Int) (c : Int) (d : ByteArray) : (Instr.field 28 (.agg #[.int .i64 a, .int .u64 b, .int .i64 c, .string d]) 0).run Try.prog w = .ok (.int .i64 a) w := by
  simp [Instr.field, asAgg, go_sem, run_underlying Try.underlying28]

set_option maxHeartbeats 8000000 in
set_option maxRecDepth 100000 in
theorem packOneForm_walk (v : Value) (l : List UInt8) (vk : Value) (ks : List Int) (w : World) (hv : Bytes w v l) (hl : l.length ≤ 140737488351232) (hk : Nums w vk ks) (hks : ∀ k ∈ ks, -9223372036854775808 ≤ k ∧ k < 9223372036854775808) :
    Calls Try.prog 8 #[v, vk] w fun e w' => e = .returned (.bool true) ∧ Below w.heap.size w w' := by
  obtain ⟨a, cap, rfl, hlc, hcm⟩ := hv.len
  have Hk : Aside (Nums w vk ks ∧ ∀ k ∈ ks, -9223372036854775808 ≤ k ∧ k < 9223372036854775808) := ⟨hk, hks⟩
  obtain ⟨ak, capk, rfl, hkc, hkm, _⟩ := hk
  unfold maxLen at hcm hkm
  have Hv : Aside (Bytes w (.slice a l.length cap) l) := hv
  clear hv hks
  go_enter Try.func8, Try.ntmps8
  go_wp2_with fail
  refine (fixed_any w).mono ?_
  rintro e w1 ⟨rfl, hb⟩
  have B1 : Aside (Below w.heap.size w w1) := hb
  clear hb
  go_wp2_with fail
  refine (own_any _ l w1 (Hv.out.below B1.out) (by omega)).mono ?_
  rintro e w2 ⟨v2, rfl, ho, hb⟩
  have B2 : Aside (Below w.heap.size w w2 ∧ Bytes w2 v2 l) := ⟨B1.out.trans (hb.mono B1.out.size), ho.bytes⟩
  clear ho hb
  go_wp2_with fail
  refine (newReader_any v2 l w2 B2.out.2 (by omega)).mono ?_
  rintro e w3 ⟨g, rfl, hr, hg, hb⟩
  have B3 : Aside (Below w.heap.size w w3 ∧ RAt w3 g ⟨l, 0⟩ ∧ w2.heap.size ≤ g ∧ Below w2.heap.size w2 w3) := ⟨B2.out.1.trans (hb.mono B2.out.1.size), hr, hg, hb⟩
  clear hr hg hb
  go_wp2_with fail
  refine (rLeft_any g _ w3 B3.out.2.1).mono ?_
  rintro e w3 ⟨rfl, rfl⟩
  go_wp2_with fail
  go_loopg [7, 8] ks.length (fun g0 sp si wr => ∃ (k p : Nat), k ≤ ks.length ∧ p ≤ l.length ∧ g0 = ks.length - k ∧ si = .int .i64 k ∧ sp = .int .i64 p ∧ RAt wr g ⟨l.drop p, 0⟩ ∧ Below w2.heap.size w2 wr)
  case atStart => exact ⟨0, 0, Nat.zero_le _, Nat.zero_le _, rfl, rfl, rfl, B3.out.2.1, B3.out.2.2.2⟩
  case round =>
    obtain ⟨k, p, hk, hp, hg, rfl, rfl, hr, hb⟩ := hrel
    have R : Aside (gk = ks.length - k ∧ RAt wr g ⟨l.drop p, 0⟩ ∧ Below w2.heap.size w2 wr ∧ Below w.heap.size w wr) := ⟨hg, hr, hb, B2.out.1.trans (hb.mono B2.out.1.size)⟩
    clear hg hr hb
    by_cases hlt : k < ks.length
    · obtain ⟨ak', capk', e', _, _, hc⟩ := (Hk.out.1.below R.out.2.2.2)
      simp only [Value.slice.injEq, true_and] at e'
      obtain ⟨rfl, rfl⟩ := e'
      obtain ⟨b, off, rfl, hcell⟩ := hc k hlt
      clear hc
      obtain ⟨kk, hkk⟩ : ∃ kk, kk = ks.getD k 0 := ⟨_, rfl⟩
      rw [← hkk] at hcell
      have kb : -9223372036854775808 ≤ kk ∧ kk < 9223372036854775808 := Hk.out.2 kk (by rw [hkk]; simp [List.getD, hlt])
      clear hkk
      go_wp2_with fail
      refine (right_any ⟨kk, 0, 0, ⟨#[]⟩⟩ wr (kfits kk kb)).mono ?_
      rintro e w4 ⟨rfl, hb4⟩
      have hrk : (⟨kk, 0, 0, ⟨#[]⟩⟩ : V).right.k = kd kk := right_k _
      obtain ⟨q, hq⟩ : ∃ q, q = kd kk := ⟨_, rfl⟩
      have hqb := kd_bd kk
      rw [← hq] at hrk hqb
      have R4 : Aside (RAt w4 g ⟨l.drop p, 0⟩ ∧ Below w2.heap.size w2 w4) := ⟨R.out.2.1.below hb4, R.out.2.2.1.trans (hb4.mono R.out.2.2.1.size)⟩
      have hfield := field0 w4 q (⟨kk, 0, 0, ⟨#[]⟩⟩ : V).right.u (⟨kk, 0, 0, ⟨#[]⟩⟩ : V).right.i (⟨kk, 0, 0, ⟨#[]⟩⟩ : V).right.s
      unfold V.agg
      clear hb4 hq hcell
      go_wp2_with fail
      have tf := take_fwd q (l.drop p) hqb
      obtain ⟨x, hx⟩ : ∃ x, x = (RS.take ⟨l.drop p, 0⟩ q 1048576).1 := ⟨_, rfl⟩
      obtain ⟨s, hs⟩ : ∃ s, s = (RS.take ⟨l.drop p, 0⟩ q 1048576).2 := ⟨_, rfl⟩
      rw [← hx, ← hs] at tf
      refine (take_eq (k := q) (most := 1048576) rfl rfl g _ x s w4 (by rw [hx, hs]) (by decide) (by decide) R4.out.1).mono ?_
      rintro e w5 ⟨rfl, hrd⟩
      have R5 : Aside (RAt w5 g s ∧ Below w2.heap.size w2 w5) := ⟨hrd.1, R4.out.2.trans (hrd.below R4.out.2.size B3.out.2.2.1)⟩
      have T : Aside (Fwd q (l.drop p) x s) := tf
      clear tf hx hs hrd hrk
      have b6 : Below w5.heap.size w5 (w5.alloc (.cells #[.int .i64 x.k, .int .u64 x.u, .int .i64 x.i, .string x.s] 28)) := (Below.refl _ _).alloc (Nat.le_refl _) _
      obtain ⟨q0, q1, q2, q3⟩ := val_cells w5 x
      have R6 : Aside (RAt (w5.alloc (.cells #[.int .i64 x.k, .int .u64 x.u, .int .i64 x.i, .string x.s] 28)) g s ∧ Below w2.heap.size w2 (w5.alloc (.cells #[.int .i64 x.k, .int .u64 x.u, .int .i64 x.i, .string x.s] 28))) := ⟨R5.out.1.below b6, R5.out.2.trans (b6.mono R5.out.2.size)⟩
      unfold V.agg
      clear b6
      go_wp2_with fail
      obtain ⟨w6, hw6⟩ : ∃ w6, w6 = w5.alloc (.cells #[.int .i64 x.k, .int .u64 x.u, .int .i64 x.i, .string x.s] 28) := ⟨_, rfl⟩
      rw [← hw6] at q0 q1 q2 q3 R6 ⊢
      have H6 : Aside (w6 = w5.alloc (.cells #[.int .i64 x.k, .int .u64 x.u, .int .i64 x.i, .string x.s] 28)) := hw6
      clear hw6
      refine (rErr_any g s w6 R6.out.1).mono ?_
      rintro e w6 ⟨rfl, rfl⟩
      rcases T.out with ⟨t1, t2, t3⟩ | ⟨t1, t2, t3, t4, t5, t6, t7⟩
      · have he : ¬ (s.e : Int) = 0 := by omega
        have TT : Aside (s.l = l.drop p) := t2
        subst t3
        clear t1 t2
        go_wp2_with fail
        refine (rLeft_any g s w6 R6.out.1).mono ?_
        rintro e w6 ⟨rfl, rfl⟩
        rw [TT.out, List.length_drop]
        have hsub : ((l.length - p : Nat) : Int) = (l.length : Int) - (p : Int) := by omega
        go_wp2_with fail
        go_ret
        exact ⟨rfl, B2.out.1.trans (R6.out.2.mono B2.out.1.size)⟩
      · rw [t1]
        have se0 : Aside (s.e = 0) := t1
        have TT : Aside (x.fits ∧ x.ok ∧ l.drop p = x.enc ++ s.l ∧ (x.k = 4 ∨ x.s = ⟨#[]⟩)) := ⟨t3, t4, t5, by rw [t2]; exact t6⟩
        clear t1 t2 t3 t4 t5 t6
        by_cases hbig : x.s.size > 1048573
        · have hbig' : ((x.s.size : Int) > 1048573) := by omega
          go_wp2_with fail
          go_ret
          exact ⟨rfl, B2.out.1.trans (R6.out.2.mono B2.out.1.size)⟩
        · have hbig' : ¬ ((x.s.size : Int) > 1048573) := by omega
          go_wp2_with fail
          have hel := enc_fits x TT.out.1 TT.out.2.1 TT.out.2.2.2 (by omega)
          refine (written_fits x _ TT.out.1 TT.out.2.1 hel _ (one_val w6 x)).mono ?_
          rintro e w7 ⟨v7, rfl, ho7, hb7⟩
          have b67 : Below w6.heap.size w6 w7 := ((Below.refl _ _).alloc (Nat.le_refl _) _).trans (hb7.mono (by simp))
          obtain ⟨f, hf⟩ : ∃ f, f = x.enc.length := ⟨_, rfl⟩
          have f1 := (enc_len x TT.out.1 TT.out.2.1).1
          have hpl : l.length - p = x.enc.length + s.l.length := by
            have := congrArg List.length TT.out.2.2.1
            rw [List.length_drop, List.length_append] at this; exact this
          obtain ⟨a7, cap7, rfl, _, _⟩ := ho7.bytes.len
          rw [← hf] at f1 hpl hel ⊢
          have F : Aside (f = x.enc.length) := hf
          have B7 : Below w2.heap.size w2 w7 := R6.out.2.trans (b67.mono R6.out.2.size)
          have Bw7 : Below w.heap.size w w7 := B2.out.1.trans (B7.mono B2.out.1.size)
          have O7 : Aside (Bytes w7 (.slice a7 f cap7) x.enc) := by rw [F.out]; exact ho7.bytes
          obtain ⟨bd, od, rfl, hpart⟩ := (Hv.out.below Bw7).part p f f1 (by omega)
          have e7 : (l.drop p).take f = x.enc := by rw [TT.out.2.2.1, F.out, List.take_left]
          rw [e7] at hpart
          have P7 : Aside (Bytes w7 (.slice (some ⟨bd, od + p, none⟩) f (cap - p)) x.enc ∧ RAt w7 g s ∧ Below w2.heap.size w2 w7 ∧ Below w.heap.size w w7 ∧ s.l = l.drop (p + f)) := by
            refine ⟨hpart, R6.out.1.below b67, B7, Bw7, ?_⟩
            rw [← List.drop_drop, TT.out.2.2.1, F.out, List.drop_left]
          have hf0 : ((f : Int) == 0) = false := by rw [beq_eq_false_iff_ne]; omega
          have hpf : p + f ≤ l.length := by omega
          clear hf ho7 hb7 b67 B7 Bw7 hpart e7
          go_wp2_with fail
          refine (same_any _ _ x.enc x.enc w7 O7.out P7.out.1).mono ?_
          rintro e w7 ⟨rfl, rfl⟩
          rw [decide_eq_true rfl]
          go_wp2_with fail
          refine (rLeft_any g s w7 P7.out.2.1).mono ?_
          rintro e w7 ⟨rfl, rfl⟩
          have hsl : s.l.length = l.length - (p + f) := by omega
          rw [hsl]
          have hsub : ((l.length - (p + f) : Nat) : Int) = (l.length : Int) - ((p : Int) + (f : Int)) := by omega
          clear hsl
          go_wp2_with fail
          go_roundg (ks.length - (k + 1))
          case measure => have := R.out.1; omega
          case rel =>
            refine ⟨k + 1, p + f, by omega, hpf, rfl, by go_num, by go_num, ?_, P7.out.2.2.1⟩
            have := P7.out.2.1
            have e : s = ⟨l.drop (p + f), 0⟩ := by
              have h1 := P7.out.2.2.2.2
              have h2 := se0.out
              cases s; simp_all
            rw [e] at this; exact this
    · go_wp2_with fail
      go_ret
      exact ⟨rfl, R.out.2.2.2⟩
end Go.Proofs.Ytjnjliojkcnddaa
