/-
  THE WALK of PackReads.
-/
import Derived.Test.YtmabmmmiljkeeaaFix
import Derived.Test.YtmabmmmiljkeeaaTakeRef
import Derived.Test.YtmabmmmiljkeeaaRefR5
import Derived.Test.YtmabmmmiljkeeaaRoomy
import Derived.Test.YtmabmmmiljkeeaaROps
namespace Go.Proofs.Ytmabmmmiljkeeaa
open Go.RowKit

/-- The two readers, in one state. -/
def Both (w : World) (g g' : Nat) (v0 : Value) (d : List UInt8) (s t : RS) : Prop := RAt w g s ∧ YAt w g' v0 d t ∧ g ≠ g'
theorem Both.readR {w w' : World} {g g' : Nat} {v0 : Value} {d : List UInt8} {s s' t : RS} (h : Both w g g' v0 d s t) (hr : Read g s' w w') : Both w' g g' v0 d s' t :=
  ⟨hr.1, h.2.1.kept hr.2 (fun e => h.2.2 e.symm) h.1.no8, h.2.2⟩
theorem Both.readY {w w' : World} {g g' : Nat} {v0 : Value} {d : List UInt8} {s t t' : RS} (h : Both w g g' v0 d s t) (hr : ReadY g' v0 d t' w w') : Both w' g g' v0 d s t' :=
  ⟨h.1.kept hr.2 h.2.2 h.2.1.no8, hr.1, h.2.2⟩
theorem Both.below {w w' : World} {g g' : Nat} {v0 : Value} {d : List UInt8} {s t : RS} (h : Both w g g' v0 d s t) (hb : Below w.heap.size w w') : Both w' g g' v0 d s t :=
  ⟨h.1.below hb, h.2.1.below hb, h.2.2⟩
theorem Read.bel {B g : Nat} {s : RS} {w w' : World} (h : Read g s w w') (hB : B ≤ w.heap.size) (hg : B ≤ g) : Below B w w' := h.2.below hB (fun x hx => by rw [hx]; exact hg)
theorem ReadY.bel {B g : Nat} {v0 : Value} {d : List UInt8} {s : RS} {w w' : World} (h : ReadY g v0 d s w w') (hB : B ≤ w.heap.size) (hg : B ≤ g) : Below B w w' := h.2.below hB (fun x hx => by rw [hx]; exact hg)
theorem flip8 (c : UInt8) : c8 (UInt8.ofNat (255 - c.toNat)) = 255 - c8 c := by
  have := c.toNat_lt
  unfold c8; rw [UInt8.toNat_ofNat']; omega

theorem xor_all : ∀ n : Nat, n < 256 → bits BinOp.xor IntKind.u8 IntKind.u8.max (n : Int) = 255 - (n : Int) := by decide +kernel
theorem xor8 (c : UInt8) : bits BinOp.xor IntKind.u8 IntKind.u8.max (c8 c) = 255 - c8 c := xor_all c.toNat c.toNat_lt
set_option maxHeartbeats 16000000 in
set_option maxRecDepth 100000 in
theorem packReads_walk (v : Value) (d : List UInt8) (vo : Value) (os : List RO) (w : World) (hv : Bytes w v d) (hd : d.length ≤ 140737488351232) (ho : ROps w vo os) (hx : ∀ x ∈ os, x.fits) :
    Calls Try.prog 6 #[v, vo] w fun e w' => e = .returned (.bool true) ∧ Below w.heap.size w w' := by
  have Vv : Aside (Bytes w v d ∧ ROps w vo os ∧ ∀ x ∈ os, x.fits) := ⟨hv, ho, hx⟩
  obtain ⟨a, cap, rfl, hlc, hcm⟩ := hv.len
  obtain ⟨ao, co, rfl, hoc, hom, _⟩ := ho
  unfold maxLen at hcm hom
  clear hx hv
  go_enter Try.func6, Try.ntmps6
  go_wp2_with fail
  refine (fixed_any w).mono ?_
  rintro e w1 ⟨rfl, hb⟩
  have B1 : Aside (Below w.heap.size w w1) := hb
  clear hb
  go_wp2_with fail
  refine (roomy_any _ d w1 (Vv.out.1.below B1.out) hd).mono ?_
  rintro e w2 ⟨v2, rfl, ho2, hb2⟩
  obtain ⟨g2, cap2, cur2, rfl, hB2, hl2, hn2, hm2, _⟩ := ho2.row (by rw [List.length_append]; unfold marks; rw [List.length_replicate]; omega)
  obtain ⟨N, hN⟩ : ∃ N, N = (d ++ marks).length := ⟨_, rfl⟩
  have hN' : N = d.length + 64 := by rw [hN, List.length_append]; unfold marks; rw [List.length_replicate]
  rw [← hN] at ho2 hn2 ⊢
  have hN1 : d.length ≤ N := by omega
  have hN2 : N < 140737488355328 := by omega
  unfold maxLen at hm2
  have A2 : Aside (Own w1.heap.size w2 (.slice (some ⟨g2, 0, none⟩) N cap2) (d ++ marks) ∧ Below w1.heap.size w1 w2 ∧ w1.heap.size ≤ g2 ∧ g2 < w2.heap.size ∧ N = (d ++ marks).length) := ⟨ho2, hb2, hB2, hl2, hN⟩
  have T2 : Aside (Bytes w2 (.slice (some ⟨g2, 0, none⟩) d.length cap2) d) := by
    have h := A2.out.1.bytes.take' d.length (by omega)
    rw [List.take_append_of_le_length (Nat.le_refl _), List.take_of_length_le (Nat.le_refl _)] at h
    exact h
  clear ho2 hb2 hB2 hl2 hN hN'
  go_wp2_with fail
  refine (newReader_own _ d w2 T2.out (by omega)).mono ?_
  rintro e w3 ⟨g, u, rfl, hg3, ho3, hgg, hb3⟩
  have A3 : Aside (w3.heap[g]? = some (.cells #[u, .int .i64 0] 78 (0, 0)) ∧ Own w2.heap.size w3 u d ∧ w2.heap.size ≤ g ∧ Below w2.heap.size w2 w3) := ⟨hg3, ho3, hgg, hb3⟩
  clear hg3 ho3 hgg hb3
  have b13 : Below w.heap.size w w3 := (B1.out.trans (A2.out.2.1.mono B1.out.size)).trans (A3.out.2.2.2.mono (Nat.le_trans B1.out.size A2.out.2.1.size))
  have B3 : Aside (Below w.heap.size w w3) := b13
  clear b13
  go_wp2_with fail
  refine (roomy_any _ d w3 (Vv.out.1.below B3.out) hd).mono ?_
  rintro e w4 ⟨v4, rfl, ho4, hb4⟩
  have A4 : Aside (Own w3.heap.size w4 v4 (d ++ marks) ∧ Below w3.heap.size w3 w4) := ⟨ho4, hb4⟩
  clear ho4 hb4
  have o4 : Own w1.heap.size w4 (.slice (some ⟨g2, 0, none⟩) N cap2) (d ++ marks) := (A2.out.1.below A3.out.2.2.2).below A4.out.2
  have O4 : Aside (Own w1.heap.size w4 (.slice (some ⟨g2, 0, none⟩) N cap2) (d ++ marks)) := o4
  clear o4
  go_wp2_with fail
  refine (same_any _ _ _ _ w4 O4.out.bytes A4.out.1.bytes).mono ?_
  rintro e w4 ⟨rfl, rfl⟩
  rw [decide_eq_true rfl]
  have gl3 : g < w3.heap.size := by
    rcases Nat.lt_or_ge g w3.heap.size with q | q
    · exact q
    · have := A3.out.1; rw [Array.getElem?_eq_none q] at this; simp at this
  have S4 : Aside (w4.heap[g]? = some (.cells #[u, .int .i64 0] 78 (0, 0)) ∧ Own w2.heap.size w4 u d ∧ Below w.heap.size w w4) :=
    ⟨by rw [A4.out.2.block g gl3]; exact A3.out.1, A3.out.2.1.below A4.out.2, B3.out.trans (A4.out.2.mono B3.out.size)⟩
  have GL : Aside (g2 < w2.heap.size ∧ w2.heap.size ≤ g ∧ g < w3.heap.size ∧ w3.heap.size ≤ w4.heap.size ∧ w.heap.size ≤ g2) := ⟨A2.out.2.2.2.1, A3.out.2.2.1, gl3, A4.out.2.size, Nat.le_trans B1.out.size A2.out.2.2.1⟩
  clear gl3
  go_wp2_with fail
  go_loopg [8] N (fun g0 si wr => ∃ (k : Nat) (l' : List UInt8), k ≤ N ∧ g0 = N - k ∧ si = .int .i64 k ∧ l'.length = N ∧ Own w1.heap.size wr (.slice (some ⟨g2, 0, none⟩) N cap2) l' ∧ wr.heap[g]? = some (.cells #[u, .int .i64 0] 78 (0, 0)) ∧ Own w2.heap.size wr u d ∧ Below w.heap.size w wr ∧ w4.heap.size ≤ wr.heap.size)
  case atStart => exact ⟨0, d ++ marks, Nat.zero_le _, rfl, rfl, A2.out.2.2.2.2.symm, O4.out, S4.out.1, S4.out.2.1, S4.out.2.2, Nat.le_refl _⟩
  case round =>
    obtain ⟨k, l', hk, hg, rfl, hl', ho', h1, h2, h3, h4⟩ := hrel
    have R : Aside (gk = N - k ∧ l'.length = N ∧ Own w1.heap.size wr (.slice (some ⟨g2, 0, none⟩) N cap2) l' ∧ wr.heap[g]? = some (.cells #[u, .int .i64 0] 78 (0, 0)) ∧ Own w2.heap.size wr u d ∧ Below w.heap.size w wr ∧ w4.heap.size ≤ wr.heap.size) := ⟨hg, hl', ho', h1, h2, h3, h4⟩
    clear hg hl' ho' h1 h2 h3 h4
    by_cases hlt : k < N
    · have hlt' : (k : Int) < (N : Int) := by omega
      obtain ⟨hc, hf⟩ := R.out.2.2.1.cellAt k (by have := R.out.2.1; omega)
      obtain ⟨c, hcc⟩ : ∃ c, c = l'.getD k 0 := ⟨_, rfl⟩
      rw [← hcc] at hc
      have c0 := c8_lo c
      have c1 := c8_hi c
      clear hcc
      go_wp2_with fail
      go_roundg (N - (k + 1))
      case measure => have := R.out.1; omega
      case rel =>
        have ks : Kept (fun x => x = g2) wr (wr.setCell ⟨g2, k, none⟩ (.int .u8 (c8 (UInt8.ofNat (255 - c.toNat))))) := kept_set wr ⟨g2, k, none⟩ _ rfl
        have hgl := GL.out
        refine ⟨k + 1, l'.set k (UInt8.ofNat (255 - c.toNat)), by omega, rfl, by go_num, by rw [List.length_set]; exact R.out.2.1, ?_⟩
        have key : ∀ q : Int, q = c8 (UInt8.ofNat (255 - c.toNat)) → Own w1.heap.size (wr.setCell ⟨g2, k, none⟩ (.int .u8 q)) (.slice (some ⟨g2, 0, none⟩) N cap2) (l'.set k (UInt8.ofNat (255 - c.toNat))) ∧ (wr.setCell ⟨g2, k, none⟩ (.int .u8 q)).heap[g]? = some (.cells #[u, .int .i64 0] 78 (0, 0)) ∧ Own w2.heap.size (wr.setCell ⟨g2, k, none⟩ (.int .u8 q)) u d ∧ Below w.heap.size w (wr.setCell ⟨g2, k, none⟩ (.int .u8 q)) ∧ w4.heap.size ≤ (wr.setCell ⟨g2, k, none⟩ (.int .u8 q)).heap.size := by
          rintro q rfl
          refine ⟨R.out.2.2.1.set k (by have := R.out.2.1; omega) _, ?_, ?_, ?_, Nat.le_trans R.out.2.2.2.2.2.2 ks.size⟩
          · rw [ks.block g (by have := R.out.2.2.2.2.2.2; omega) (by omega)]; exact R.out.2.2.2.1
          · refine R.out.2.2.2.2.1.kept ks (fun x hx => ?_)
            have := (R.out.2.2.2.2.1.lt x hx).1; omega
          · exact R.out.2.2.2.2.2.1.trans (ks.below R.out.2.2.2.2.2.1.size (fun x hx => by omega))
        refine key _ ?_
        rw [flip8]
        exact xor8 c
    · have rr : RAt wr g ⟨d, 0⟩ := ⟨u, R.out.2.2.2.1, R.out.2.2.2.2.1.bytes, by show 0 < 256; decide⟩
      have RR : Aside (RAt wr g ⟨d, 0⟩ ∧ Below w.heap.size w wr) := ⟨rr, R.out.2.2.2.2.2.1⟩
      clear rr
      go_wp2_with fail
      refine (ynewReader_any _ d wr (Vv.out.1.below RR.out.2) (by omega)).mono ?_
      rintro e w5 ⟨rfl, ⟨v0, hy⟩, hb5⟩
      have A5 : Aside (Both w5 g wr.heap.size v0 d ⟨d, 0⟩ ⟨d, 0⟩ ∧ Below w.heap.size w w5 ∧ w.heap.size ≤ wr.heap.size ∧ w.heap.size ≤ g) :=
        ⟨⟨RR.out.1.below hb5, hy, Nat.ne_of_lt RR.out.1.lt⟩, RR.out.2.trans (hb5.mono RR.out.2.size), RR.out.2.size, by have := GL.out; omega⟩
      obtain ⟨gy, hgy⟩ : ∃ gy, gy = wr.heap.size := ⟨_, rfl⟩
      rw [← hgy] at A5 ⊢
      clear hy hb5 hgy RR R
      go_wp2_with fail
      go_loopg [10] os.length (fun g0 si wq => ∃ (k : Nat) (s : RS), k ≤ os.length ∧ g0 = os.length - k ∧ si = .int .i64 k ∧ Both wq g gy v0 d s s ∧ Below w.heap.size w wq)
      case atStart => exact ⟨0, ⟨d, 0⟩, Nat.zero_le _, rfl, rfl, A5.out.1, A5.out.2.1⟩
      case round =>
        obtain ⟨k, s, hk, hg, rfl, hboth, hbel⟩ := hrel
        have R : Aside (gk = os.length - k ∧ Both wr g gy v0 d s s ∧ Below w.heap.size w wr) := ⟨hg, hboth, hbel⟩
        clear hg hboth hbel
        by_cases hlt : k < os.length
        · have hlt' : (k : Int) < (os.length : Int) := by omega
          obtain ⟨b, off, rfl, p0, p1, p2⟩ := (Vv.out.2.1.below R.out.2.2).at k hlt
          obtain ⟨o, hoo⟩ : ∃ o, o = os.getD k RO.zero := ⟨_, rfl⟩
          rw [← hoo] at p0 p1 p2
          have OF : Aside o.fits := Vv.out.2.2 o (by rw [hoo]; simp [List.getD, hlt])
          clear hoo
          obtain ⟨ok, om, oe⟩ := o
          simp only at p0 p1 p2
          have bA : Below wr.heap.size wr (wr.alloc (.cells #[.int .i64 ok, .int .i64 om, .bool oe] 58)) := (Below.refl _ _).alloc (Nat.le_refl _) _
          have HA : Aside (Both (wr.alloc (.cells #[.int .i64 ok, .int .i64 om, .bool oe] 58)) g gy v0 d s s ∧ Below w.heap.size w (wr.alloc (.cells #[.int .i64 ok, .int .i64 om, .bool oe] 58)) ∧ (wr.alloc (.cells #[.int .i64 ok, .int .i64 om, .bool oe] 58)).heap[wr.heap.size]? = some (.cells #[.int .i64 ok, .int .i64 om, .bool oe] 58 (0, 0))) :=
            ⟨R.out.2.1.below bA, R.out.2.2.trans (bA.mono R.out.2.2.size), heap_alloc_new wr _⟩
          have eA : (wr.alloc (.cells #[.int .i64 ok, .int .i64 om, .bool oe] 58)).heap.size = wr.heap.size + 1 := by simp
          have EA : Aside ((wr.alloc (.cells #[.int .i64 ok, .int .i64 om, .bool oe] 58)).heap.size = wr.heap.size + 1) := eA
          clear bA eA
          cases oe with
          | true =>
            go_wp2_with fail
            refine (rEnd_any g s _ HA.out.1.1).mono ?_
            rintro e w6 ⟨rfl, hr⟩
            have A6 : Aside (Both w6 g gy v0 d ⟨s.l, s.fin⟩ s ∧ Below w.heap.size w w6) := ⟨HA.out.1.readR hr, HA.out.2.1.trans (hr.bel HA.out.2.1.size A5.out.2.2.2)⟩
            clear hr
            go_wp2_with fail
            refine (yEnd_any gy v0 d s w6 A6.out.1.2.1).mono ?_
            rintro e w7 ⟨rfl, hr⟩
            have A7 : Aside (Both w7 g gy v0 d ⟨s.l, s.fin⟩ ⟨s.l, s.fin⟩ ∧ Below w.heap.size w w7) := ⟨A6.out.1.readY hr, A6.out.2.trans (hr.bel A6.out.2.size A5.out.2.2.1)⟩
            clear hr
            go_wp2_with fail
            refine (rLeft_any g _ w7 A7.out.1.1).mono ?_
            rintro e w7 ⟨rfl, rfl⟩
            go_wp2_with fail
            refine (yLeft_any gy v0 d _ w7 A7.out.1.2.1).mono ?_
            rintro e w8 ⟨rfl, hr⟩
            have A8 : Aside (Both w8 g gy v0 d ⟨s.l, s.fin⟩ ⟨s.l, s.fin⟩ ∧ Below w.heap.size w w8) := ⟨A7.out.1.readY hr, A7.out.2.trans (hr.bel A7.out.2.size A5.out.2.2.1)⟩
            clear hr
            go_wp2_with fail
            refine (rErr_any g _ w8 A8.out.1.1).mono ?_
            rintro e w8 ⟨rfl, rfl⟩
            go_wp2_with fail
            refine (yErr_any gy v0 d _ w8 A8.out.1.2.1).mono ?_
            rintro e w8 ⟨rfl, rfl⟩
            go_wp2_with fail
            go_roundg (os.length - (k + 1))
            case measure => have := R.out.1; omega
            case rel => exact ⟨k + 1, _, by omega, rfl, by go_num, A8.out.1, A8.out.2⟩
          | false =>
            obtain ⟨x, s', hxs⟩ : ∃ x s', s.take ok om = (x, s') := ⟨_, _, rfl⟩
            go_wp2_with fail
            refine (take_any g ok om s _ OF.out.1 OF.out.2 HA.out.1.1).mono ?_
            rintro e w6 ⟨rfl, hr⟩
            rw [hxs] at hr ⊢
            have hr' : Read g s' _ w6 := hr
            have h6 : w6.heap[wr.heap.size]? = _ := (hr'.2.block wr.heap.size (by rw [EA.out]; omega) (fun e => by have := R.out.2.1.1.lt; omega)).trans HA.out.2.2
            have r0 : w6.cell? ⟨wr.heap.size, 0, none⟩ = some (.int .i64 ok) := by rw [cell_of_row w6 _ 0 _ _ _ h6]; rfl
            have r1 : w6.cell? ⟨wr.heap.size, 1, none⟩ = some (.int .i64 om) := by rw [cell_of_row w6 _ 1 _ _ _ h6]; rfl
            have sz6 : wr.heap.size < w6.heap.size := by have := hr'.2.size; rw [EA.out] at this; omega
            have A6 : Aside (Both w6 g gy v0 d s' s ∧ Below w.heap.size w w6) := ⟨HA.out.1.readR hr', HA.out.2.1.trans (hr'.bel HA.out.2.1.size A5.out.2.2.2)⟩
            have X : Aside (s.take ok om = (x, s')) := hxs
            clear hr hr' h6 hxs p0 p1 p2
            obtain ⟨xk, xu, xi, xs⟩ := x
            simp only [V.agg]
            have bB : Below w6.heap.size w6 (w6.alloc (.cells #[.int .i64 xk, .int .u64 xu, .int .i64 xi, .string xs] 43)) := (Below.refl _ _).alloc (Nat.le_refl _) _
            have HB : Aside (Both (w6.alloc (.cells #[.int .i64 xk, .int .u64 xu, .int .i64 xi, .string xs] 43)) g gy v0 d s' s ∧ Below w.heap.size w (w6.alloc (.cells #[.int .i64 xk, .int .u64 xu, .int .i64 xi, .string xs] 43)) ∧ (w6.alloc (.cells #[.int .i64 xk, .int .u64 xu, .int .i64 xi, .string xs] 43)).heap[w6.heap.size]? = some (.cells #[.int .i64 xk, .int .u64 xu, .int .i64 xi, .string xs] 43 (0, 0)) ∧ (w6.alloc (.cells #[.int .i64 xk, .int .u64 xu, .int .i64 xi, .string xs] 43)).heap.size = w6.heap.size + 1) :=
              ⟨A6.out.1.below bB, A6.out.2.trans (bB.mono A6.out.2.size), heap_alloc_new w6 _, by simp⟩
            clear bB
            go_wp2_with fail
            refine (takeRef_any gy v0 d ok om s _ OF.out.1 OF.out.2 HB.out.1.2.1).mono ?_
            rintro e w7 ⟨rfl, hr⟩
            rw [X.out] at hr ⊢
            have hr' : ReadY gy v0 d s' _ w7 := hr
            have h7 : w7.heap[w6.heap.size]? = _ := (hr'.2.block w6.heap.size (by rw [HB.out.2.2.2]; omega) (fun e => by have := A6.out.1.2.1.lt; omega)).trans HB.out.2.2.1
            have t0 : w7.cell? ⟨w6.heap.size, 0, none⟩ = some (.int .i64 xk) := by rw [cell_of_row w7 _ 0 _ _ _ h7]; rfl
            have t1 : w7.cell? ⟨w6.heap.size, 1, none⟩ = some (.int .u64 xu) := by rw [cell_of_row w7 _ 1 _ _ _ h7]; rfl
            have t2 : w7.cell? ⟨w6.heap.size, 2, none⟩ = some (.int .i64 xi) := by rw [cell_of_row w7 _ 2 _ _ _ h7]; rfl
            have t3 : w7.cell? ⟨w6.heap.size, 3, none⟩ = some (.string xs) := by rw [cell_of_row w7 _ 3 _ _ _ h7]; rfl
            have sz7 : w6.heap.size < w7.heap.size := by have := hr'.2.size; rw [HB.out.2.2.2] at this; omega
            have A7 : Aside (Both w7 g gy v0 d s' s' ∧ Below w.heap.size w w7) := ⟨HB.out.1.readY hr', HB.out.2.1.trans (hr'.bel HB.out.2.1.size A5.out.2.2.1)⟩
            clear hr hr' h7 r0 r1
            simp only [V.agg]
            have bC : Below w7.heap.size w7 (w7.alloc (.cells #[.int .i64 xk, .int .u64 xu, .int .i64 xi, .string xs] 43)) := (Below.refl _ _).alloc (Nat.le_refl _) _
            have HC : Aside (Both (w7.alloc (.cells #[.int .i64 xk, .int .u64 xu, .int .i64 xi, .string xs] 43)) g gy v0 d s' s' ∧ Below w.heap.size w (w7.alloc (.cells #[.int .i64 xk, .int .u64 xu, .int .i64 xi, .string xs] 43))) :=
              ⟨A7.out.1.below bC, A7.out.2.trans (bC.mono A7.out.2.size)⟩
            clear bC
            go_wp2_with fail
            refine (rLeft_any g _ _ HC.out.1.1).mono ?_
            rintro e w8 ⟨rfl, e8⟩
            have A8 : Aside (Both w8 g gy v0 d s' s' ∧ Below w.heap.size w w8) := by rw [e8]; exact HC.out
            clear e8 t0 t1 t2 t3
            go_wp2_with fail
            refine (yLeft_any gy v0 d _ w8 A8.out.1.2.1).mono ?_
            rintro e w9 ⟨rfl, hr⟩
            have A9 : Aside (Both w9 g gy v0 d s' s' ∧ Below w.heap.size w w9) := ⟨A8.out.1.readY hr, A8.out.2.trans (hr.bel A8.out.2.size A5.out.2.2.1)⟩
            clear hr
            go_wp2_with fail
            refine (rErr_any g _ w9 A9.out.1.1).mono ?_
            rintro e w9 ⟨rfl, rfl⟩
            go_wp2_with fail
            refine (yErr_any gy v0 d _ w9 A9.out.1.2.1).mono ?_
            rintro e w9 ⟨rfl, rfl⟩
            go_wp2_with fail
            go_roundg (os.length - (k + 1))
            case measure => have := R.out.1; omega
            case rel => exact ⟨k + 1, _, by omega, rfl, by go_num, A9.out.1, A9.out.2⟩
        · go_wp2_with fail
          refine (rEnd_any g s _ R.out.2.1.1).mono ?_
          rintro e w6 ⟨rfl, hr⟩
          have A6 : Aside (Both w6 g gy v0 d ⟨s.l, s.fin⟩ s ∧ Below w.heap.size w w6) := ⟨R.out.2.1.readR hr, R.out.2.2.trans (hr.bel R.out.2.2.size A5.out.2.2.2)⟩
          clear hr
          go_wp2_with fail
          refine (yEnd_any gy v0 d s w6 A6.out.1.2.1).mono ?_
          rintro e w7 ⟨rfl, hr⟩
          have A7 : Aside (Both w7 g gy v0 d ⟨s.l, s.fin⟩ ⟨s.l, s.fin⟩ ∧ Below w.heap.size w w7) := ⟨A6.out.1.readY hr, A6.out.2.trans (hr.bel A6.out.2.size A5.out.2.2.1)⟩
          clear hr
          go_wp2_with fail
          refine (rErr_any g _ w7 A7.out.1.1).mono ?_
          rintro e w7 ⟨rfl, rfl⟩
          go_wp2_with fail
          refine (yErr_any gy v0 d _ w7 A7.out.1.2.1).mono ?_
          rintro e w7 ⟨rfl, rfl⟩
          go_wp2_with fail
          go_ret
          exact ⟨rfl, A7.out.2⟩
end Go.Proofs.Ytmabmmmiljkeeaa
