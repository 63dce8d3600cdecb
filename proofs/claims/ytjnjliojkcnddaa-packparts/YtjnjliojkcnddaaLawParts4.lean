/-
  THE WALK of PackParts.
-/
import Derived.Test.YtjnjliojkcnddaaPref
import Derived.Deep.CutBlock
import Derived.Deep.DeepCutAuto
namespace Go.Proofs.Ytjnjliojkcnddaa
open Go.RowKit

/-- The other values with the ones kinds. -/
def mixed (ys os : List V) : List V := List.zipWith (fun y o => ⟨y.k, o.u, o.i, o.s⟩) ys os
theorem mixed_len (ys os : List V) : (mixed ys os).length = min ys.length os.length := by simp [mixed]
theorem mixed_get (ys os : List V) (k : Nat) (d : V) (h1 : k < ys.length) (h2 : k < os.length) : (mixed ys os).getD k d = ⟨(ys.getD k d).k, (os.getD k d).u, (os.getD k d).i, (os.getD k d).s⟩ := by
  have h : k < (List.zipWith (fun (y o : V) => (⟨y.k, o.u, o.i, o.s⟩ : V)) ys os).length := by simp; omega
  simp only [mixed, List.getD, List.getElem?_eq_getElem h, List.getElem?_eq_getElem h1, List.getElem?_eq_getElem h2, Option.getD_some, List.getElem_zipWith]
theorem mem_getD {l : List V} {x d : V} (h : x ∈ l) : ∃ k, k < l.length ∧ l.getD k d = x := by
  obtain ⟨k, hk, e⟩ := List.getElem_of_mem h
  exact ⟨k, hk, by simp [List.getD, hk, e]⟩
theorem getD_mem {l : List V} {k : Nat} {d : V} (h : k < l.length) : l.getD k d ∈ l := by simp [List.getD, h]

theorem bytesEq {s t : ByteArray} (h : s.toList = t.toList) : s = t := by
  rw [ByteArray.toList_eq, ByteArray.toList_eq] at h
  rw [← list_txt s, h, list_txt]
theorem same_val (l m : List UInt8) {b : Bool} (hb : decide (l = m) = b) (v v' : Value) (w : World) (hv : Bytes w v l) (hv' : Bytes w v' m) :
    Calls Try.prog 17 #[v, v'] w fun e w' => e = .returned (.bool b) ∧ w' = w := by
  rw [← hb]; exact same_any v v' l m w hv hv'

set_option maxHeartbeats 16000000 in
set_option maxRecDepth 100000 in
theorem packParts_walk (v : Value) (xs : List V) (u : Value) (os : List V) (w : World) (hv : Vals w v xs) (hx : ∀ x ∈ xs, x.fits) (hu : Vals w u os) (ho : ∀ x ∈ os, x.fits) :
    Calls Try.prog 5 #[v, u] w fun e w' => e = .returned (.bool true) ∧ Below w.heap.size w w' := by
  obtain ⟨a, cap, rfl, hlc, hcm⟩ := hv.len
  obtain ⟨ao, capo, rfl, hoc, hom⟩ := hu.len
  unfold maxLen at hcm hom
  have Vv : Aside (Vals w (.slice a xs.length cap) xs ∧ (∀ x ∈ xs, x.fits) ∧ Vals w (.slice ao os.length capo) os ∧ (∀ x ∈ os, x.fits)) := ⟨hv, hx, hu, ho⟩
  clear hv hx hu ho
  go_enter Try.func5, Try.ntmps5
  go_wp2_with fail
  refine (fixed_any w).mono ?_
  rintro e w1 ⟨rfl, hb⟩
  have B1 : Aside (Below w.heap.size w w1) := hb
  clear hb
  go_wp2_with fail
  refine (small_any _ xs w1 (Vv.out.1.below B1.out) Vv.out.2.1).mono ?_
  rintro e w2 ⟨v2, rfl, ho, hb⟩
  obtain ⟨ys, hys⟩ : ∃ ys, ys = sm xs 0 := ⟨_, rfl⟩
  rw [← hys] at ho
  have Y : Aside ((∀ x ∈ ys, x.fits ∧ x.ok) ∧ (∀ x ∈ ys, x.norm) ∧ (encs ys).length ≤ 1048576) := by
    rw [hys]
    have h := sm_len xs 0 Vv.out.2.1 (by omega)
    exact ⟨sm_all xs 0 Vv.out.2.1, sm_norm xs 0, by omega⟩
  have yl : ys.length ≤ 104857 := by
    have h := sm_len xs 0 Vv.out.2.1 (by omega)
    rw [← hys] at h; omega
  clear hys
  obtain ⟨a2, cap2, rfl, hc2, hm2⟩ := ho.vals.len
  unfold maxLen at hm2
  have B2 : Aside (Below w.heap.size w w2 ∧ Vals w2 (.slice a2 ys.length cap2) ys) := ⟨B1.out.trans (hb.mono B1.out.size), ho.vals⟩
  clear ho hb
  go_upto_block 0 with fail
  go_cut [6, 7, 8] (fun so si sv wx => OwnV w2.heap.size wx so (mixed ys os) ∧ Below w2.heap.size w2 wx)
  case first =>
    go_wp2_with fail
    go_loopg [6, 7] ys.length (fun g so si wr => ∃ (k : Nat) (vo : Value), k ≤ ys.length ∧ k ≤ os.length ∧ g = ys.length - k ∧ si = .int .i64 k ∧ vo = so ∧ OwnV w2.heap.size wr vo ((mixed ys os).take k) ∧ Below w2.heap.size w2 wr)
    case atStart => exact ⟨0, _, Nat.zero_le _, Nat.zero_le _, rfl, rfl, rfl, World.ownsRow_nil _ _ _ _, Below.refl _ _⟩
    case round =>
      obtain ⟨k, vo, hk, hko, hg, rfl, rfl, hov, hb⟩ := hrel
      have R : Aside (gk = ys.length - k ∧ Below w2.heap.size w2 wr ∧ Below w.heap.size w wr ∧ OwnV w2.heap.size wr vo ((mixed ys os).take k)) := ⟨hg, hb, B2.out.1.trans (hb.mono B2.out.1.size), hov⟩
      clear hg hb hov
      by_cases hlt : k < ys.length ∧ k < os.length
      · obtain ⟨l1, l2⟩ := hlt
        obtain ⟨b, off, rfl, p0, p1, p2, p3⟩ := (B2.out.2.below R.out.2.1).at k l1
        obtain ⟨bo, oo, rfl, q0, q1, q2, q3⟩ := (Vv.out.2.2.1.below R.out.2.2.1).at k l2
        have mg := mixed_get ys os k ⟨0, 0, 0, ⟨#[]⟩⟩ l1 l2
        obtain ⟨y, hy⟩ : ∃ y, y = ys.getD k ⟨0, 0, 0, ⟨#[]⟩⟩ := ⟨_, rfl⟩
        obtain ⟨o, ho⟩ : ∃ o, o = os.getD k ⟨0, 0, 0, ⟨#[]⟩⟩ := ⟨_, rfl⟩
        rw [← hy] at p0 p1 p2 p3
        rw [← ho] at q0 q1 q2 q3
        rw [← hy, ← ho] at mg
        have tk := take_one (mixed ys os) k ⟨0, 0, 0, ⟨#[]⟩⟩ (by rw [mixed_len]; omega)
        rw [mg] at tk
        have TK : Aside ((mixed ys os).take (k + 1) = (mixed ys os).take k ++ [⟨y.k, o.u, o.i, o.s⟩]) := tk
        clear hy ho mg tk
        have O2 : Hid (OwnV w2.heap.size (wr.alloc (.cells #[.int .i64 y.k, .int .u64 o.u, .int .i64 o.i, .string o.s] 28)) vo ((mixed ys os).take k)) := World.ownsRow.alloc R.out.2.2.2 _
        have S2 : Hid (w2.heap.size ≤ (wr.alloc (.cells #[.int .i64 y.k, .int .u64 o.u, .int .i64 o.i, .string o.s] 28)).heap.size) := by have := R.out.2.1.size; show _ ≤ _; simp; omega
        have L : Hid (((mixed ys os).take k).length < 1000000000) := by show _ < _; rw [List.length_take]; omega
        have hbl : b < wr.heap.size := block_lt_of_cell p0
        go_wp2_with (at_builtin; refine app_val (gg := wr.heap.size + 1) rfl _ _ rfl rfl O2.out S2.out ⟨y.k, o.u, o.i, o.s⟩ ?hgg rfl L.out ?_)
        case hgg => simp
        intro v' w' h1 h2
        have A : Aside (OwnV w2.heap.size w' v' ((mixed ys os).take (k + 1)) ∧ Below w2.heap.size w2 w') := ⟨by rw [TK.out]; exact h1, (R.out.2.1.alloc R.out.2.1.size _).trans (grown_belowV h2 O2.out S2.out)⟩
        clear h1 h2 O2 S2 L p0 p1 p2 p3 q0 q1 q2 q3 hbl
        go_wp2_with fail
        go_roundg (ys.length - (k + 1))
        case measure => have := R.out.1; omega
        case rel => exact ⟨k + 1, v', by omega, by omega, rfl, by go_num, rfl, A.out.1, A.out.2⟩
      · have hfull : (mixed ys os).take k = mixed ys os := List.take_of_length_le (by rw [mixed_len]; omega)
        have R2 : Aside (Below w2.heap.size w2 wr ∧ Below w.heap.size w wr ∧ OwnV w2.heap.size wr vo (mixed ys os)) := ⟨R.out.2.1, R.out.2.2.1, by have := R.out.2.2.2; rw [hfull] at this; exact this⟩
        by_cases hky : k < ys.length
        all_goals
          go_wp2_with fail
          go_meet
          exact ⟨R2.out.2.2, R2.out.1⟩
  case rest =>
    obtain ⟨hov, hbw⟩ := hcut
    have R2 : Aside (Below w2.heap.size w2 wc ∧ Below w.heap.size w wc ∧ OwnV w2.heap.size wc u6 (mixed ys os)) := ⟨hbw, B2.out.1.trans (hbw.mono B2.out.1.size), hov⟩
    clear hov hbw
    have mf : Aside (∀ x ∈ mixed ys os, x.fits) := fun x hx => by
      obtain ⟨j, hj, e⟩ := mem_getD (d := ⟨0, 0, 0, ⟨#[]⟩⟩) hx
      rw [mixed_len] at hj
      rw [← e, mixed_get ys os j _ (by omega) (by omega)]
      have h1 := (Y.out.1 _ (getD_mem (l := ys) (k := j) (d := ⟨0, 0, 0, ⟨#[]⟩⟩) (by omega))).1
      have h2 := Vv.out.2.2.2 _ (getD_mem (l := os) (k := j) (d := ⟨0, 0, 0, ⟨#[]⟩⟩) (by omega))
      exact ⟨h1.1, h2.2.1, h2.2.2.1, h2.2.2.2⟩
    go_wp2_with fail
    refine (small_any _ (mixed ys os) wc R2.out.2.2.vals mf.out).mono ?_
    rintro e w3 ⟨v3, rfl, ho3, hb3⟩
    obtain ⟨zs, hzs⟩ : ∃ zs, zs = sm (mixed ys os) 0 := ⟨_, rfl⟩
    rw [← hzs] at ho3
    have zl : zs.length ≤ ys.length := by
      rcases Nat.eq_zero_or_pos zs.length with q | q
      · omega
      · have := (sm_get (mixed ys os) 0 (zs.length - 1) ⟨0, 0, 0, ⟨#[]⟩⟩ (by rw [← hzs]; omega)).2
        rw [mixed_len] at this; omega
    have Z : Aside ((∀ x ∈ zs, x.fits ∧ x.ok) ∧ (∀ x ∈ zs, x.norm) ∧ (encs zs).length ≤ 1048576 ∧ ∀ j, j < zs.length → (zs.getD j ⟨0, 0, 0, ⟨#[]⟩⟩).k = (ys.getD j ⟨0, 0, 0, ⟨#[]⟩⟩).k) := by
      have h := sm_len (mixed ys os) 0 mf.out (by omega)
      refine ⟨by rw [hzs]; exact sm_all _ 0 mf.out, by rw [hzs]; exact sm_norm _ 0, by rw [hzs]; omega, fun j hj => ?_⟩
      have hg := sm_get (mixed ys os) 0 j ⟨0, 0, 0, ⟨#[]⟩⟩ (by rw [← hzs]; exact hj)
      have hml := hg.2
      rw [mixed_len] at hml
      rw [hzs, hg.1, right_k', mixed_get ys os j _ (by omega) (by omega)]
      exact kd_same _ (Y.out.1 _ (getD_mem (by omega))).2.1
    clear hzs
    obtain ⟨a3, cap3, rfl, hc3, hm3⟩ := ho3.vals.len
    unfold maxLen at hm3
    have B3 : Aside (Below w.heap.size w w3 ∧ Vals w3 (.slice a2 zs.length cap2) (ys.take zs.length) ∧ Vals w3 (.slice a3 zs.length cap3) zs) := by
      have hb23 := R2.out.1.trans (hb3.mono R2.out.1.size)
      exact ⟨R2.out.2.1.trans (hb3.mono R2.out.2.1.size), (B2.out.2.below hb23).take zs.length zl, ho3.vals⟩
    clear ho3 hb3
    go_wp2_with fail
    refine (written_any _ (ys.take zs.length) w3 B3.out.2.1 (fun x hx => (Y.out.1 x (List.mem_of_mem_take hx)).1)).mono ?_
    rintro e w4 ⟨v4, rfl, ho4, hb4⟩
    have l4 : (encs (ys.take zs.length)).length ≤ 1048576 := by
      have h1 : encs ys = encs (ys.take zs.length) ++ encs (ys.drop zs.length) := by rw [← encs_app, List.take_append_drop]
      have h2 := congrArg List.length h1
      rw [List.length_append] at h2
      have := Y.out.2.2; omega
    have ew := wrt_ok (ys.take zs.length) (fun x hx => (Y.out.1 x (List.mem_of_mem_take hx)).2) l4
    rw [ew] at ho4 ⊢
    have B4 : Aside (Below w.heap.size w w4 ∧ Vals w4 (.slice a2 zs.length cap2) (ys.take zs.length) ∧ Vals w4 (.slice a3 zs.length cap3) zs ∧ Bytes w4 v4 (encs (ys.take zs.length))) := ⟨B3.out.1.trans (hb4.mono B3.out.1.size), B3.out.2.1.below hb4, B3.out.2.2.below hb4, ho4.bytes⟩
    clear ho4 hb4 ew
    go_wp2_with fail
    refine (written_any _ zs w4 B4.out.2.2.1 (fun x hx => (Z.out.1 x hx).1)).mono ?_
    rintro e w5 ⟨v5, rfl, ho5, hb5⟩
    have ew := wrt_ok zs (fun x hx => (Z.out.1 x hx).2) Z.out.2.2.1
    rw [ew] at ho5 ⊢
    obtain ⟨A, hA⟩ : ∃ A, A = encs (ys.take zs.length) := ⟨_, rfl⟩
    obtain ⟨C, hC⟩ : ∃ C, C = encs zs := ⟨_, rfl⟩
    have AC : Aside (A = encs (ys.take zs.length) ∧ C = encs zs) := ⟨hA, hC⟩
    have B5 : Aside (Below w.heap.size w w5 ∧ Vals w5 (.slice a2 zs.length cap2) (ys.take zs.length) ∧ Vals w5 (.slice a3 zs.length cap3) zs ∧ Bytes w5 v4 A ∧ Bytes w5 v5 C) := by
      rw [hA, hC]
      exact ⟨B4.out.1.trans (hb5.mono B4.out.1.size), B4.out.2.1.below hb5, B4.out.2.2.1.below hb5, B4.out.2.2.2.below hb5, ho5.bytes⟩
    clear ho5 hb5 ew hA hC
    obtain ⟨a4, cap4, rfl, hca, hcam⟩ := B5.out.2.2.2.1.len
    obtain ⟨a5, cap5, rfl, hcc, hccm⟩ := B5.out.2.2.2.2.len
    unfold maxLen at hcam hccm
    have al : A.length ≤ 1048576 := by rw [AC.out.1]; exact l4
    have cl : C.length ≤ 1048576 := by rw [AC.out.2]; exact Z.out.2.2.1
    clear l4
    go_upto_block 2 with fail
    go_cut [12] (fun si wx => ∃ j : Nat, j ≤ zs.length ∧ si = .int .i64 j ∧ ys.take j = zs.take j ∧ Below w5.heap.size w5 wx ∧ (j < zs.length → ys.getD j ⟨0, 0, 0, ⟨#[]⟩⟩ ≠ zs.getD j ⟨0, 0, 0, ⟨#[]⟩⟩))
    case first =>
      go_wp2_with fail
      go_loopg [12] zs.length (fun g si wr => ∃ (j : Nat), j ≤ zs.length ∧ g = zs.length - j ∧ si = .int .i64 j ∧ ys.take j = zs.take j ∧ Below w5.heap.size w5 wr)
      case atStart => exact ⟨0, Nat.zero_le _, rfl, rfl, rfl, Below.refl _ _⟩
      case round =>
        obtain ⟨j, hj, hg, rfl, hjs, hb⟩ := hrel
        have R : Aside (gk = zs.length - j ∧ ys.take j = zs.take j ∧ Below w5.heap.size w5 wr) := ⟨hg, hjs, hb⟩
        clear hg hjs hb
        rcases Nat.lt_or_ge j zs.length with hlt | hge
        · obtain ⟨b, off, rfl, p0, p1, p2, p3⟩ := (B5.out.2.1.below R.out.2.2).at j (by rw [List.length_take]; omega)
          obtain ⟨bo, oo, rfl, q0, q1, q2, q3⟩ := (B5.out.2.2.1.below R.out.2.2).at j hlt
          have gt : (ys.take zs.length).getD j ⟨0, 0, 0, ⟨#[]⟩⟩ = ys.getD j ⟨0, 0, 0, ⟨#[]⟩⟩ := by simp only [List.getD, List.getElem?_take_of_lt hlt]
          rw [gt] at p0 p1 p2 p3
          clear gt
          obtain ⟨x, hx⟩ : ∃ x, x = ys.getD j ⟨0, 0, 0, ⟨#[]⟩⟩ := ⟨_, rfl⟩
          obtain ⟨z, hz⟩ : ∃ z, z = zs.getD j ⟨0, 0, 0, ⟨#[]⟩⟩ := ⟨_, rfl⟩
          rw [← hx] at p0 p1 p2 p3
          rw [← hz] at q0 q1 q2 q3
          have XZ : Aside (x = ys.getD j ⟨0, 0, 0, ⟨#[]⟩⟩ ∧ z = zs.getD j ⟨0, 0, 0, ⟨#[]⟩⟩) := ⟨hx, hz⟩
          clear hx hz
          have hlt' : (j : Int) < (zs.length : Int) := by omega
          by_cases hxz : x = z
          · subst hxz
            have hq := fun w => eql_yes w x
            go_wp2_with fail
            go_quiet (fail)
            go_wp2_with fail
            go_roundg (zs.length - (j + 1))
            case measure => have := R.out.1; omega
            case rel =>
              refine ⟨j + 1, by omega, rfl, by go_num, ?_, R.out.2.2.trans ⟨rfl, rfl, rfl, Nat.le_refl _, fun _ _ => rfl⟩⟩
              rw [take_one ys j ⟨0, 0, 0, ⟨#[]⟩⟩ (by omega), take_one zs j ⟨0, 0, 0, ⟨#[]⟩⟩ hlt, R.out.2.1, ← XZ.out.1, ← XZ.out.2]
          · have NE : Aside (x ≠ z) := hxz
            have hkk : x.k = z.k := by rw [XZ.out.1, XZ.out.2]; exact (Z.out.2.2.2 j hlt).symm
            have hkb : (x.k == z.k) = true := by rw [hkk]; simp
            have dif : ((x.u : Int) == (z.u : Int)) = false ∨ (((x.u : Int) == (z.u : Int)) = true ∧ (x.i == z.i) = false) ∨ (((x.u : Int) == (z.u : Int)) = true ∧ (x.i == z.i) = true ∧ (x.s.toList == z.s.toList) = false) := by
              by_cases h1 : x.u = z.u
              · right
                by_cases h2 : x.i = z.i
                · right
                  refine ⟨by rw [h1]; simp, by rw [h2]; simp, ?_⟩
                  rw [beq_eq_false_iff_ne]
                  intro h3
                  apply hxz
                  have h4 := bytesEq h3
                  cases x; cases z; simp_all
                · left
                  exact ⟨by rw [h1]; simp, by rw [beq_eq_false_iff_ne]; exact h2⟩
              · left
                rw [beq_eq_false_iff_ne]; omega
            clear hxz hkk
            rcases dif with d1 | ⟨d1, d2⟩ | ⟨d1, d2, d3⟩
            all_goals
              go_wp2_with fail
              go_quiet (fail)
              go_wp2_with fail
              go_meet
              exact ⟨j, by omega, rfl, R.out.2.1, R.out.2.2.trans ⟨rfl, rfl, rfl, Nat.le_refl _, fun _ _ => rfl⟩, fun _ => by rw [← XZ.out.1, ← XZ.out.2]; exact NE.out⟩
        · obtain rfl : j = zs.length := by omega
          have hd : decide ((zs.length : Int) < (zs.length : Int)) = false := by simp
          go_wp2_with fail
          go_quiet (fail)
          go_wp2_with fail
          go_meet
          exact ⟨zs.length, by omega, rfl, R.out.2.1, R.out.2.2.trans ⟨rfl, rfl, rfl, Nat.le_refl _, fun _ _ => rfl⟩, fun h => absurd h (by omega)⟩
    case rest =>
      obtain ⟨j, hj, rfl, hjs, b56, hne⟩ := hcut
      have R : Aside (True ∧ ys.take j = zs.take j ∧ True) := ⟨trivial, hjs, trivial⟩
      have HN : Aside (j < zs.length → ys.getD j ⟨0, 0, 0, ⟨#[]⟩⟩ ≠ zs.getD j ⟨0, 0, 0, ⟨#[]⟩⟩) := hne
      clear hjs hne
      rcases Nat.lt_or_ge j zs.length with hlt | hge
      · obtain ⟨x, hx⟩ : ∃ x, x = ys.getD j ⟨0, 0, 0, ⟨#[]⟩⟩ := ⟨_, rfl⟩
        obtain ⟨z, hz⟩ : ∃ z, z = zs.getD j ⟨0, 0, 0, ⟨#[]⟩⟩ := ⟨_, rfl⟩
        have XZ : Aside (x = ys.getD j ⟨0, 0, 0, ⟨#[]⟩⟩ ∧ z = zs.getD j ⟨0, 0, 0, ⟨#[]⟩⟩) := ⟨hx, hz⟩
        clear hx hz
        have NE : Aside (x ≠ z) := by have h := HN.out hlt; rw [← XZ.out.1, ← XZ.out.2] at h; exact h
        have hje : ((j : Int) == (zs.length : Int)) = false := by rw [beq_eq_false_iff_ne]; omega
        have hlt' : (j : Int) < (zs.length : Int) := by omega
        have W6 : Aside (Below w.heap.size w wc ∧ Vals wc (.slice a2 j cap2) (ys.take j) ∧ Bytes wc (.slice a4 A.length cap4) A ∧ Bytes wc (.slice a5 C.length cap5) C) := by
          refine ⟨B5.out.1.trans (b56.mono B5.out.1.size), ?_, B5.out.2.2.2.1.below b56, B5.out.2.2.2.2.below b56⟩
          have h := (B5.out.2.1.below b56).take j (by rw [List.length_take]; omega)
          rw [List.take_take, show min j zs.length = j by omega] at h; exact h
        clear b56
        go_wp2_with fail
        refine (written_any _ (ys.take j) wc W6.out.2.1 (fun x hx => (Y.out.1 x (List.mem_of_mem_take hx)).1)).mono ?_
        rintro e w7 ⟨v7, rfl, ho7, hb7⟩
        have hD : A = encs (ys.take j) ++ encs ((ys.take zs.length).drop j) := by
          rw [AC.out.1]
          conv => lhs; rw [← List.take_append_drop j (ys.take zs.length), encs_app, List.take_take, show min j zs.length = j by omega]
        have hDC : C = encs (ys.take j) ++ encs (zs.drop j) := by
          rw [AC.out.2, R.out.2.1]
          conv => lhs; rw [← List.take_append_drop j zs, encs_app]
        obtain ⟨D, hDD⟩ : ∃ D, D = encs (ys.take j) := ⟨_, rfl⟩
        rw [← hDD] at hD hDC
        have dl : D.length ≤ A.length := by rw [hD, List.length_append]; omega
        have dl2 : D.length ≤ C.length := by rw [hDC, List.length_append]; omega
        have ew := wrt_ok (ys.take j) (fun x hx => (Y.out.1 x (List.mem_of_mem_take hx)).2) (by rw [← hDD]; omega)
        rw [← hDD] at ew
        rw [ew] at ho7 ⊢
        have ho7' : Own wc.heap.size w7 v7 D := ho7
        obtain ⟨a7, cap7, rfl, _, _⟩ := ho7'.bytes.len
        have W7 : Aside (Below w.heap.size w w7 ∧ Bytes w7 (.slice a4 A.length cap4) A ∧ Bytes w7 (.slice a5 C.length cap5) C ∧ Bytes w7 (.slice a7 D.length cap7) D) := ⟨W6.out.1.trans (hb7.mono W6.out.1.size), W6.out.2.2.1.below hb7, W6.out.2.2.2.below hb7, ho7'.bytes⟩
        have TA : Aside (A.take D.length = D ∧ C.take D.length = D) := ⟨by rw [hD, List.take_left], by rw [hDC, List.take_left]⟩
        have DA : Aside (A = D ++ encs ((ys.take zs.length).drop j) ∧ C = D ++ encs (zs.drop j)) := ⟨hD, hDC⟩
        clear ho7 ho7' hb7 ew hD hDC hDD
        have SM : Aside (decide (A.take (min A.length C.length) = C.take (min A.length C.length)) = false) := by
          have h0 : ¬ A.take (min A.length C.length) = C.take (min A.length C.length) := by
            rw [DA.out.1, DA.out.2, drop_cons (ys.take zs.length) j ⟨0, 0, 0, ⟨#[]⟩⟩ (by rw [List.length_take]; omega), drop_cons zs j ⟨0, 0, 0, ⟨#[]⟩⟩ hlt, encs_cons, encs_cons,
              show (ys.take zs.length).getD j ⟨0, 0, 0, ⟨#[]⟩⟩ = x by rw [XZ.out.1]; simp only [List.getD, List.getElem?_take_of_lt hlt], ← XZ.out.2]
            have xm : x ∈ ys := by rw [XZ.out.1]; exact getD_mem (by omega)
            have zm : z ∈ zs := by rw [XZ.out.2]; exact getD_mem hlt
            exact encs_parts D _ _ (Y.out.1 x xm).1 (Z.out.1 z zm).1 (Y.out.2.1 x xm) (Z.out.2.1 z zm) (by rw [XZ.out.1, XZ.out.2]; exact (Z.out.2.2.2 j hlt).symm) NE.out
          exact decide_eq_false h0
        by_cases hle : (A.length : Int) ≤ (C.length : Int)
        · have SM2 : Aside (decide (A.take A.length = C.take A.length) = false) := by have h := SM.out; rw [Nat.min_eq_left (by omega)] at h; exact h
          clear SM
          go_wp2_with fail
          refine (same_val (A.take D.length) D (b := true) (by rw [TA.out.1]; simp) _ _ w7 (W7.out.2.1.take' D.length dl) W7.out.2.2.2).mono ?_
          rintro e w7 ⟨rfl, rfl⟩
          go_wp2_with fail
          refine (same_val (C.take D.length) D (b := true) (by rw [TA.out.2]; simp) _ _ w7 (W7.out.2.2.1.take' D.length dl2) W7.out.2.2.2).mono ?_
          rintro e w7 ⟨rfl, rfl⟩
          go_wp2_with fail
          go_quiet ((go_at_call 17; refine Calls.quiet_of_same (same_val (A.take A.length) (C.take A.length) (b := false) SM2.out _ _ _ ((W7.out.2.1.drewN _).take' A.length (by omega)) ((W7.out.2.2.1.drewN _).take' A.length (by omega)))))
          go_wp2_with fail
          go_ret
          exact ⟨rfl, W7.out.1.trans ⟨rfl, rfl, rfl, Nat.le_refl _, fun _ _ => rfl⟩⟩
        · have SM2 : Aside (decide (A.take C.length = C.take C.length) = false) := by have h := SM.out; rw [Nat.min_eq_right (by omega)] at h; exact h
          clear SM
          go_wp2_with fail
          refine (same_val (A.take D.length) D (b := true) (by rw [TA.out.1]; simp) _ _ w7 (W7.out.2.1.take' D.length dl) W7.out.2.2.2).mono ?_
          rintro e w7 ⟨rfl, rfl⟩
          go_wp2_with fail
          refine (same_val (C.take D.length) D (b := true) (by rw [TA.out.2]; simp) _ _ w7 (W7.out.2.2.1.take' D.length dl2) W7.out.2.2.2).mono ?_
          rintro e w7 ⟨rfl, rfl⟩
          go_wp2_with fail
          go_quiet ((go_at_call 17; refine Calls.quiet_of_same (same_val (A.take C.length) (C.take C.length) (b := false) SM2.out _ _ _ ((W7.out.2.1.drewN _).take' C.length (by omega)) ((W7.out.2.2.1.drewN _).take' C.length (by omega)))))
          go_wp2_with fail
          go_ret
          exact ⟨rfl, W7.out.1.trans ⟨rfl, rfl, rfl, Nat.le_refl _, fun _ _ => rfl⟩⟩
      · obtain rfl : j = zs.length := by omega
        have W6 : Aside (Below w.heap.size w wc ∧ Vals wc (.slice a2 zs.length cap2) (ys.take zs.length) ∧ Bytes wc (.slice a4 A.length cap4) A ∧ Bytes wc (.slice a5 C.length cap5) C) := by
          refine ⟨B5.out.1.trans (b56.mono B5.out.1.size), ?_, B5.out.2.2.2.1.below b56, B5.out.2.2.2.2.below b56⟩
          have h := (B5.out.2.1.below b56).take zs.length (by rw [List.length_take]; omega)
          rw [List.take_take, show min zs.length zs.length = zs.length by omega] at h; exact h
        clear b56
        go_wp2_with fail
        refine (written_any _ (ys.take zs.length) wc W6.out.2.1 (fun x hx => (Y.out.1 x (List.mem_of_mem_take hx)).1)).mono ?_
        rintro e w7 ⟨v7, rfl, ho7, hb7⟩
        have hD : A = encs (ys.take zs.length) ++ encs ((ys.take zs.length).drop zs.length) := by
          rw [AC.out.1]
          conv => lhs; rw [← List.take_append_drop zs.length (ys.take zs.length), encs_app, List.take_take, show min zs.length zs.length = zs.length by omega]
        have hDC : C = encs (ys.take zs.length) ++ encs (zs.drop zs.length) := by
          rw [AC.out.2, R.out.2.1]
          conv => lhs; rw [← List.take_append_drop zs.length zs, encs_app]
        obtain ⟨D, hDD⟩ : ∃ D, D = encs (ys.take zs.length) := ⟨_, rfl⟩
        rw [← hDD] at hD hDC
        have dl : D.length ≤ A.length := by rw [hD, List.length_append]; omega
        have dl2 : D.length ≤ C.length := by rw [hDC, List.length_append]; omega
        have ew := wrt_ok (ys.take zs.length) (fun x hx => (Y.out.1 x (List.mem_of_mem_take hx)).2) (by rw [← hDD]; omega)
        rw [← hDD] at ew
        rw [ew] at ho7 ⊢
        have ho7' : Own wc.heap.size w7 v7 D := ho7
        obtain ⟨a7, cap7, rfl, _, _⟩ := ho7'.bytes.len
        have W7 : Aside (Below w.heap.size w w7 ∧ Bytes w7 (.slice a4 A.length cap4) A ∧ Bytes w7 (.slice a5 C.length cap5) C ∧ Bytes w7 (.slice a7 D.length cap7) D) := ⟨W6.out.1.trans (hb7.mono W6.out.1.size), W6.out.2.2.1.below hb7, W6.out.2.2.2.below hb7, ho7'.bytes⟩
        have TA : Aside (A.take D.length = D ∧ C.take D.length = D) := ⟨by rw [hD, List.take_left], by rw [hDC, List.take_left]⟩
        have DA : Aside (A = D ++ encs ((ys.take zs.length).drop zs.length) ∧ C = D ++ encs (zs.drop zs.length)) := ⟨hD, hDC⟩
        clear ho7 ho7' hb7 ew hD hDC hDD
        have hAC : C = A := by rw [DA.out.1, DA.out.2, List.drop_eq_nil_of_le (Nat.le_refl zs.length), List.drop_eq_nil_of_le (by rw [List.length_take]; omega)]
        subst hAC
        go_wp2_with fail
        refine (same_val (C.take D.length) D (b := true) (by rw [TA.out.2]; simp) _ _ w7 (W7.out.2.1.take' D.length dl2) W7.out.2.2.2).mono ?_
        rintro e w7 ⟨rfl, rfl⟩
        go_wp2_with fail
        refine (same_val (C.take D.length) D (b := true) (by rw [TA.out.2]; simp) _ _ w7 (W7.out.2.2.1.take' D.length dl2) W7.out.2.2.2).mono ?_
        rintro e w7 ⟨rfl, rfl⟩
        go_wp2_with fail
        go_quiet ((go_at_call 17; refine Calls.quiet_of_same (same_val (C.take C.length) (C.take C.length) (b := true) (by simp) _ _ _ ((W7.out.2.1.drewN _).take' C.length (by omega)) ((W7.out.2.2.1.drewN _).take' C.length (by omega)))))
        go_wp2_with fail
        go_ret
        exact ⟨rfl, W7.out.1.trans ⟨rfl, rfl, rfl, Nat.le_refl _, fun _ _ => rfl⟩⟩
end Go.Proofs.Ytjnjliojkcnddaa
