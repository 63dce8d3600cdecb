/-
  The law's plain: nothing is left of a list of sums, when the amounts are taken off.
-/
import Derived.Test.YtibjmmfodelhjaaDoorScC
import Derived.Test.YtibjmmfodelhjaaDoorScE
import Derived.Deep.RegionHeld3
namespace Go.Proofs.YtibjmmfodelhjaaDoor
open Go.RowKit
open Go.Sort (grow)
theorem arr_txt (b : ByteArray) : (⟨b.data.toList.toArray⟩ : ByteArray) = b := by cases b; simp
theorem wrap_in {x : Int} (h1 : -9223372036854775808 ≤ x) (h2 : x ≤ 9223372036854775807) : IntKind.i64.wrap x = x := by
  unfold IntKind.wrap
  simp [IntKind.bits, IntKind.signed]
  omega
/-- One amount more is taken off. -/
structure PtS (es ds ds' : List En) (n : ByteArray) (x : Int) : Prop where
  i : ∃ M, M < (nmsOf es).length ∧ (nmsOf es).getD M [] = n.data.toList
  s : ds' = ds ++ [(n.data.toList, x)]
  lo : 0 ≤ Tot es n.data.toList - Tot ds n.data.toList - x
  hi : Tot es n.data.toList - Tot ds n.data.toList ≤ 9223372036854775807
  p : 0 ≤ x
theorem pt_len (p : Pt) : (ptEs p).length = p.r.length + p.l.length := by simp [ptEs, pre]
theorem pt_at_r (p : Pt) (j : Nat) (h : j < p.r.length) : (ptEs p).getD j ([], 0) = (((⟨#[114, 101, 113, 117, 101, 115, 116, 115, 46]⟩ : ByteArray) ++ (p.r.getD j kAm.z).n).data.toList, (p.r.getD j kAm.z).v) := by
  unfold ptEs pre
  rw [List.getD_eq_getElem?_getD, List.getElem?_append_left (by simpa using h), List.getElem?_map, List.getElem?_eq_getElem h, List.getD_eq_getElem?_getD, List.getElem?_eq_getElem h, cat_data]; rfl
theorem pt_at_l (p : Pt) (j : Nat) (h1 : p.r.length ≤ j) (h : j - p.r.length < p.l.length) : (ptEs p).getD j ([], 0) = (((⟨#[108, 105, 109, 105, 116, 115, 46]⟩ : ByteArray) ++ (p.l.getD (j - p.r.length) kAm.z).n).data.toList, (p.l.getD (j - p.r.length) kAm.z).v) := by
  unfold ptEs pre
  rw [List.getD_eq_getElem?_getD, List.getElem?_append_right (by simpa using h1), List.length_map, List.getElem?_map, List.getElem?_eq_getElem h, List.getD_eq_getElem?_getD, List.getElem?_eq_getElem h, cat_data]; rfl
def dsOf (ps : List Pt) (i j : Nat) : List En := (ps.take i).flatMap ptEs ++ (ptEs (ps.getD i ⟨⟨#[]⟩, [], []⟩)).take j
theorem pt_step (ps : List Pt) (i : Nat) (hi : i < ps.length) (j : Nat) (hj : j < (ptEs (ps.getD i ⟨⟨#[]⟩, [], []⟩)).length) (hn : onegB ps = false) (ho : ¬ Ov (obEs ps)) :
    PtS (obEs ps) (dsOf ps i j) (dsOf ps i (j + 1)) ⟨((ptEs (ps.getD i ⟨⟨#[]⟩, [], []⟩)).getD j ([], 0)).1.toArray⟩ ((ptEs (ps.getD i ⟨⟨#[]⟩, [], []⟩)).getD j ([], 0)).2 := by
  have hs : dsOf ps i (j + 1) = dsOf ps i j ++ [(ptEs (ps.getD i ⟨⟨#[]⟩, [], []⟩)).getD j ([], 0)] := by
    unfold dsOf
    rw [take_onez _ j ([], 0) hj, List.append_assoc]
  have hall : obEs ps = (tCount.data.toList, 1000) :: (dsOf ps i (j + 1) ++ ((ptEs (ps.getD i ⟨⟨#[]⟩, [], []⟩)).drop (j + 1) ++ (ps.drop (i + 1)).flatMap ptEs)) := by
    unfold obEs dsOf
    congr 1
    conv => lhs; rw [← List.take_append_drop i ps, List.drop_eq_getElem_cons hi]
    rw [List.flatMap_append, List.flatMap_cons, List.append_assoc]
    congr 1
    rw [← List.append_assoc, List.take_append_drop, getD_ge _ _ _ hi]
  have pos := ob_pos (neg_pos hn)
  obtain ⟨e, he⟩ : ∃ e, e = (ptEs (ps.getD i ⟨⟨#[]⟩, [], []⟩)).getD j ([], 0) := ⟨_, rfl⟩
  rw [← he] at hs ⊢
  have hm : e ∈ obEs ps := by
    rw [hall, hs]; simp
  have h1 : ∀ n, Tot (obEs ps) n = Tot [((tCount.data.toList, 1000) : En)] n + (Tot (dsOf ps i j) n + Tot [e] n + Tot ((ptEs (ps.getD i ⟨⟨#[]⟩, [], []⟩)).drop (j + 1) ++ (ps.drop (i + 1)).flatMap ptEs) n) := fun n => by
    have q : obEs ps = [((tCount.data.toList, 1000) : En)] ++ (dsOf ps i j ++ [e] ++ ((ptEs (ps.getD i ⟨⟨#[]⟩, [], []⟩)).drop (j + 1) ++ (ps.drop (i + 1)).flatMap ptEs)) := by rw [hall, hs]; rfl
    rw [q, Tot_app, Tot_app, Tot_app]
  have sub : ∀ (l : List En), (∀ x ∈ l, x ∈ obEs ps) → ∀ n, 0 ≤ Tot l n := fun l hl n => Tot_pos (fun x hx => pos x (hl x hx)) n
  have p1 := sub [((tCount.data.toList, 1000) : En)] (fun x hx => by rw [hall]; simp only [List.mem_singleton] at hx; rw [hx]; simp) e.1
  have p2 := sub (dsOf ps i j) (fun x hx => by rw [hall, hs]; simp [hx]) e.1
  have p3 := sub ((ptEs (ps.getD i ⟨⟨#[]⟩, [], []⟩)).drop (j + 1) ++ (ps.drop (i + 1)).flatMap ptEs) (fun x hx => by rw [hall]; exact List.mem_cons_of_mem _ (List.mem_append_right _ hx)) e.1
  have q := h1 e.1
  have t1 : Tot [e] e.1 = e.2 := by rw [Tot_one, if_pos rfl]
  have hM : Tot (obEs ps) e.1 ≤ 9223372036854775807 := Int.not_lt.1 (fun c => ho ⟨e.1, c⟩)
  refine ⟨?_, ?_, ?_, ?_, pos e hm⟩
  · obtain ⟨k, hk, ek⟩ := nms_idx (es := obEs ps) (n := e.1) (List.mem_map.2 ⟨e, hm, rfl⟩)
    exact ⟨k, hk, by rw [ek]⟩
  · rw [hs]
  · show 0 ≤ Tot (obEs ps) e.1 - Tot (dsOf ps i j) e.1 - e.2
    omega
  · show Tot (obEs ps) e.1 - Tot (dsOf ps i j) e.1 ≤ 9223372036854775807
    omega
theorem ds_next (ps : List Pt) (i : Nat) (hi : i < ps.length) (j : Nat) (hj : (ptEs (ps.getD i ⟨⟨#[]⟩, [], []⟩)).length ≤ j) : dsOf ps i j = dsOf ps (i + 1) 0 := by
  unfold dsOf
  rw [List.take_of_length_le hj, take_onez ps i ⟨⟨#[]⟩, [], []⟩ hi, List.flatMap_append]
  simp
theorem tot_left (ps : List Pt) (n : List UInt8) : Tot (obEs ps) n - Tot (dsOf ps ps.length 0) n = if tCount.data.toList = n then 1000 else 0 := by
  unfold dsOf obEs
  rw [List.take_of_length_le (Nat.le_refl _), List.take_zero, List.append_nil, Tot]
  simp only
  omega
set_option maxHeartbeats 16000000 in
set_option maxRecDepth 100000 in
theorem plain_yes (op on : ByteArray) (opr odl over : Int) (la : Option Addr) (ln lc : Nat) (pa : Option Addr) (pc : Nat) (ops : List Pt) (uv : Value) (w : World) (hp : Pts w (.slice pa ops.length pc) ops) (hu : Row kAm w uv (outL (obEs ops))) (hz : PSz ops) (hn : onegB ops = false) (ho : ¬ Ov (obEs ops)) :
    Calls Tryd.prog 14 #[.agg #[.string op, .string on, .slice la ln lc, .int .i64 opr, .int .i64 odl, .slice pa ops.length pc, .int .i64 over], uv] w fun e w' => e = .returned (.bool true) ∧ Below w.heap.size w w' := by
  have HG : Hid (onegB ops = false ∧ ¬ Ov (obEs ops)) := Lib.hid ⟨hn, ho⟩
  have HZ := Lib.hid hz
  have HP := Lib.hid hp
  obtain ⟨_, _, e1, hlc, hcm⟩ := hp.len
  simp only [Value.slice.injEq] at e1
  rw [← e1.2.2] at hlc hcm
  unfold maxLen at hcm
  clear e1
  obtain ⟨pn, hpn⟩ : ∃ n, n = ops.length := ⟨_, rfl⟩
  rw [← hpn] at hlc HP ⊢
  have HN := Lib.hid hpn
  obtain ⟨N, hN⟩ : ∃ N, N = (nmsOf (obEs ops)).length := ⟨_, rfl⟩
  have HNN := Lib.hid hN
  have hN1 : 1 ≤ N ∧ N ≤ 4000000 := by
    rw [hN]
    refine ⟨?_, Nat.le_trans (nms_len _) hz.n⟩
    obtain ⟨k, hk, _⟩ := nms_idx (es := obEs ops) (n := tCount.data.toList) (by simp [obEs])
    omega
  obtain ⟨ua, un, uc, euv⟩ : ∃ a n c, uv = .slice a n c := by obtain ⟨a, c, e, _⟩ := hu.len; exact ⟨a, _, c, e⟩
  subst euv
  have HU := Lib.hid hu
  clear hp hz hn ho hu hpn hN
  obtain ⟨X, hX⟩ : ∃ X, X = w.alloc (.cells #[.string op, .string on, .slice la ln lc, .int .i64 opr, .int .i64 odl, .slice pa pn pc, .int .i64 over] 25) := ⟨_, rfl⟩
  have BX : Hid (Below w.heap.size w X ∧ X.heap.size = w.heap.size + 1) := Lib.hid (by rw [hX]; exact ⟨(below_alR w).out _, by simp⟩)
  have KC : Hid (∀ W : World, Below X.heap.size X W → W.cell? ⟨w.heap.size, 5, none⟩ = some (.slice pa pn pc) ∧ Below w.heap.size w W ∧ Pts W (.slice pa pn pc) ops) := Lib.hid fun W hb => by
    have e : X.cell? ⟨w.heap.size, 5, none⟩ = some (.slice pa pn pc) := by rw [hX, World.cell?_alloc_new]; rfl
    have bw := BX.out.1.trans (hb.mono BX.out.1.size)
    exact ⟨(hb.cell (block_lt_of_cell e)).trans e, bw, HP.out.below bw⟩
  have XU : Hid (Row kAm (w.alloc (.cells #[.string op, .string on, .slice la ln lc, .int .i64 opr, .int .i64 odl, .slice pa pn pc, .int .i64 over] 25)) (.slice ua un uc) (outL (obEs ops))) := Lib.hid (by rw [← hX]; exact HU.out.below BX.out.1)
  have EX := Lib.hid hX
  obtain ⟨B, hB⟩ : ∃ B, B = X.heap.size := ⟨_, rfl⟩
  have HB : Hid (B = X.heap.size ∧ B = (w.alloc (.cells #[.string op, .string on, .slice la ln lc, .int .i64 opr, .int .i64 odl, .slice pa pn pc, .int .i64 over] 25)).heap.size) := Lib.hid ⟨hB, by rw [← hX]; exact hB⟩
  have LL : Hid ((([] : List Am).length + (outL (obEs ops)).length) * kAm.b ≤ 140737488355328) := Lib.hid (by rw [out_len, ← HNN.out]; show (0 + N) * 24 ≤ _; omega)
  clear hX hB
  go_enter Tryd.func14, Tryd.ntmps14
  go_wp2_with (at_builtin; refine app_rows okAm (B := B) (v := .slice none 0 0) (u := .slice ua un uc) (l := []) (m := outL (obEs ops)) rfl _ _ rfl rfl (OwnR.nil _ _ _) (Nat.le_of_eq HB.out.2) rfl XU.out LL.out ?_; intro v5 w5 h5 k5)
  rw [← EX.out] at k5
  rw [List.nil_append, ← lef_nil] at h5
  obtain ⟨a5, c5, e5⟩ := h5.slice
  have el : (lef (obEs ops) []).length = N := by rw [lef_len, HNN.out]
  rw [el] at e5
  subst e5
  obtain ⟨g5, eg, -, hB5, hl5⟩ := h5.someOf (by rw [el]; omega)
  subst eg
  have S5 : Hid (OwnR kAm B w5 (.slice (some ⟨g5, 0, none⟩) N c5) (lef (obEs ops) []) ∧ Below X.heap.size X w5) := Lib.hid ⟨h5, (Below.refl _ X).grown k5 (Nat.le_refl _) (fun j hj => by cases hj)⟩
  have G5 : Hid (X.heap.size ≤ g5) := Lib.hid (by rw [← HB.out.1]; exact hB5)
  have hcc : N ≤ c5 ∧ c5 ≤ 9223372036854775807 := by
    obtain ⟨cur, q1, q2, q3, q4, q5, -⟩ := h5.parts
    unfold maxLen at q5
    omega
  obtain ⟨hcc1, hcc2⟩ := hcc
  clear h5 k5 el hB5 hl5
  clear EX XU
  go_loopg [6] pn (fun g si wr => ∃ (i : Nat), i ≤ pn ∧ g = pn - i ∧ si = .int .i64 i ∧ OwnR kAm B wr (.slice (some ⟨g5, 0, none⟩) N c5) (lef (obEs ops) (dsOf ops i 0)) ∧ Below X.heap.size X wr)
  case atStart => exact ⟨0, Nat.zero_le _, rfl, rfl, S5.out.1, S5.out.2⟩
  case round =>
    obtain ⟨i, hi, hg, rfl, hO, hb⟩ := hrel
    have R : Hid (gk = pn - i ∧ OwnR kAm B wr (.slice (some ⟨g5, 0, none⟩) N c5) (lef (obEs ops) (dsOf ops i 0)) ∧ Below X.heap.size X wr) := Lib.hid ⟨hg, hO, hb⟩
    have z5 := (KC.out wr hb).1
    clear hg hO hb
    by_cases hlt : i < pn
    · have hlt' : (i : Int) < (pn : Int) := by omega
      have IL : Hid (i < ops.length) := Lib.hid (by rw [← HN.out]; exact hlt)
      obtain ⟨pb, off, ⟨ra, rn, rc⟩, ⟨sa, sn, sc⟩, rfl, c0, c1, c2, rr, rs1⟩ := (KC.out X (Below.refl _ _)).2.2.at i IL.out
      simp only [Sl.v] at c1 c2 rr rs1
      have RN : Hid (rn = (ops.getD i ⟨⟨#[]⟩, [], []⟩).r.length ∧ sn = (ops.getD i ⟨⟨#[]⟩, [], []⟩).l.length) := Lib.hid (by
        obtain ⟨_, _, e1, _⟩ := rr.len
        obtain ⟨_, _, e2, _⟩ := rs1.len
        simp only [Value.slice.injEq] at e1 e2
        exact ⟨e1.2.1, e2.2.1⟩)
      have rb : rn ≤ 9223372036854775807 ∧ sn ≤ 9223372036854775807 ∧ rn + sn ≤ 4000000 := by
        have q := HZ.out.n
        have q2 : (ptEs (ops.getD i ⟨⟨#[]⟩, [], []⟩)).length ≤ (obEs ops).length := by
          unfold obEs
          rw [List.length_cons]
          have := List.Sublist.length_le (List.sublist_flatten_of_mem (List.mem_map.2 ⟨_, getD_in (d := ⟨⟨#[]⟩, [], []⟩) IL.out, rfl⟩) : (ptEs (ops.getD i ⟨⟨#[]⟩, [], []⟩)).Sublist ((ops.map ptEs).flatten))
          rw [List.flatMap_def]
          omega
        rw [pt_len, ← RN.out.1, ← RN.out.2] at q2
        omega
      obtain ⟨rb1, rb2, rb3⟩ := rb
      have z5x := (KC.out X (Below.refl _ _)).1
      have RR : Hid (∀ W, Below X.heap.size X W → Row kAm W (.slice ra rn rc) (ops.getD i ⟨⟨#[]⟩, [], []⟩).r ∧ Row kAm W (.slice sa sn sc) (ops.getD i ⟨⟨#[]⟩, [], []⟩).l ∧ W.cell? ⟨w.heap.size, 5, none⟩ = some (.slice (some ⟨pb, off, none⟩) pn pc) ∧ W.cell? ⟨pb, off + i * 3 + 1, none⟩ = some (.slice ra rn rc) ∧ W.cell? ⟨pb, off + i * 3 + 2, none⟩ = some (.slice sa sn sc)) := Lib.hid fun W hb => ⟨rr.below hb, rs1.below hb, (hb.cell (block_lt_of_cell z5x)).trans z5x, (hb.cell (block_lt_of_cell c1)).trans c1, (hb.cell (block_lt_of_cell c2)).trans c2⟩
      obtain ⟨DS, hDS⟩ : ∃ DS : Nat → List En, ∀ j, dsOf ops i j = DS j := ⟨dsOf ops i, fun _ => rfl⟩
      clear rr rs1 c0 c1 c2 z5x
      go_wp2_with fail
      go_loopg [7] (rn + sn) (fun g sj wq => ∃ (j : Nat), j ≤ rn + sn ∧ g = rn + sn - j ∧ sj = .int .i64 j ∧ OwnR kAm B wq (.slice (some ⟨g5, 0, none⟩) N c5) (lef (obEs ops) (DS j)) ∧ Below X.heap.size X wq)
      case atStart => exact ⟨0, Nat.zero_le _, rfl, rfl, by rw [← hDS]; exact R.out.2.1, R.out.2.2⟩
      case round =>
        obtain ⟨j, hj, hg, rfl, hO, hb⟩ := hrel
        have RJ : Hid (gk = rn + sn - j ∧ OwnR kAm B wr (.slice (some ⟨g5, 0, none⟩) N c5) (lef (obEs ops) (DS j)) ∧ Below X.heap.size X wr) := Lib.hid ⟨hg, hO, hb⟩
        clear hg hO z5
        obtain ⟨-, -, z5, c1, c2⟩ := RR.out wr hb
        have rz := reg z5
        have r1 := reg c1
        have r2 := reg c2
        have xB : Hid (∀ (dq : Nat) (os : Array Obj), Below wr.heap.size wr (grow (redrawn wr dq) os)) := Lib.hid fun dq os => below_regrown wr dq os
        clear hb z5 c1 c2
        by_cases hltj : j < rn + sn
        · have hltj' : (j : Int) < (rn : Int) + (sn : Int) := by omega
          have TL : Hid (j < (ptEs (ops.getD i ⟨⟨#[]⟩, [], []⟩)).length) := Lib.hid (by rw [pt_len, ← RN.out.1, ← RN.out.2]; exact hltj)
          go_wp2_with fail
          refine wp_region_quiet_below (by kernel_rfl) (by kernel_rfl) ?_
          repeat (go_big_quiet_step (fail))
          refine wpQuiet_nil ?_
          intro _ hw'
          obtain ⟨⟨dq, osq⟩, hw''⟩ := hw'
          subst hw''
          obtain ⟨W1, hW⟩ : ∃ W, W = grow (redrawn wr dq) osq := ⟨_, rfl⟩
          have YY := xB.out dq osq
          rw [← hW] at YY ⊢
          have YB : Hid (Below X.heap.size X W1) := Lib.hid (RJ.out.2.2.trans (YY.mono RJ.out.2.2.size))
          have YO : Hid (OwnR kAm B W1 (.slice (some ⟨g5, 0, none⟩) N c5) (lef (obEs ops) (DS j))) := Lib.hid (RJ.out.2.1.below YY)
          clear hW YY rz r1 r2 xB
          obtain ⟨-, -, z5, c1, c2⟩ := RR.out W1 YB.out
          by_cases hA : j < rn
          · have hA' : decide ((j : Int) ≥ (rn : Int)) = false := decide_eq_false (by omega)
            have hA2 : (j : Int) < (rn : Int) := by omega
            have KL : Hid (j < (ops.getD i ⟨⟨#[]⟩, [], []⟩).r.length) := Lib.hid (by rw [← RN.out.1]; exact hA)
            have kx : j < (ops.getD i ⟨⟨#[]⟩, [], []⟩).r.length := KL.out
            obtain ⟨qb, qo, eqa, pc0⟩ := (RR.out W1 YB.out).1.at j kx
            subst eqa
            have PS : Hid (PtS (obEs ops) (DS j) (DS (j + 1)) ((⟨#[114, 101, 113, 117, 101, 115, 116, 115, 46]⟩ : ByteArray) ++ ((ops.getD i ⟨⟨#[]⟩, [], []⟩).r.getD j kAm.z).n) ((ops.getD i ⟨⟨#[]⟩, [], []⟩).r.getD j kAm.z).v) := Lib.hid (by
              have q := pt_step ops i IL.out j TL.out HG.out.1 HG.out.2
              rw [pt_at_r _ j KL.out] at q
              simp only at q
              rw [arr_txt] at q
              rw [← hDS j, ← hDS (j + 1)]
              exact q)
            have XZ : Hid (((ops.getD i ⟨⟨#[]⟩, [], []⟩).r.getD j kAm.z).n.size ≤ 140737488355328 ∧ ((ops.getD i ⟨⟨#[]⟩, [], []⟩).r.getD j kAm.z).v ≤ 9223372036854775807) := Lib.hid (first_fit HZ.out (getD_in IL.out) (Or.inl (getD_in kx)))
            obtain ⟨⟨xn, xv⟩, hx⟩ : ∃ x, x = (ops.getD i ⟨⟨#[]⟩, [], []⟩).r.getD j kAm.z := ⟨_, rfl⟩
            rw [← hx] at pc0 PS XZ
            simp only at PS XZ
            have QC : Hid (∀ W, Below W1.heap.size W1 W → W.cell? ⟨qb, qo + j * 2, none⟩ = some (.string xn) ∧ W.cell? ⟨qb, qo + j * 2 + 1, none⟩ = some (.int .i64 xv)) := Lib.hid fun W hb => by
              have t0 : W1.cell? ⟨qb, qo + j * 2, none⟩ = some (.string xn) := pc0 0 _ rfl
              have t1 : W1.cell? ⟨qb, qo + j * 2 + 1, none⟩ = some (.int .i64 xv) := pc0 1 _ rfl
              exact ⟨(hb.cell (block_lt_of_cell t0)).trans t0, (hb.cell (block_lt_of_cell t1)).trans t1⟩
            have sz : ¬ (9223372036854775807 < (⟨#[114, 101, 113, 117, 101, 115, 116, 115, 46]⟩ : ByteArray).size + xn.size) := by have := XZ.out.1; show ¬ (9223372036854775807 < 9 + xn.size); omega
            have sz2 : ¬ (9223372036854775807 < 9 + xn.size) := sz
            clear pc0 hx kx
            obtain ⟨M, hM, eM⟩ := PS.out.i
            have MM : Hid (M < N ∧ ⟨((nmsOf (obEs ops)).getD M []).toArray⟩ = (⟨#[114, 101, 113, 117, 101, 115, 116, 115, 46]⟩ : ByteArray) ++ xn) := Lib.hid ⟨by rw [HNN.out]; exact hM, by rw [eM]⟩
            have hMN : M < N := MM.out.1
            clear hM eM
            go_wp2_with fail
            go_loopg [11, 12] N (fun g sa sm wq => ∃ (m : Nat) (t : Int), m ≤ N ∧ g = N - m ∧ sm = .int .i64 m ∧ sa = .int .i64 t ∧ ((t = -1 ∧ m ≤ M) ∨ (t = M ∧ M < m)) ∧ Below W1.heap.size W1 wq)
            case atStart => exact ⟨0, -1, Nat.zero_le _, rfl, rfl, rfl, Or.inl ⟨rfl, Nat.zero_le _⟩, Below.refl _ _⟩
            case round =>
              obtain ⟨m, t, hm, hg, rfl, rfl, ht, hb⟩ := hrel
              have RS : Hid (gk = N - m ∧ ((t = -1 ∧ m ≤ M) ∨ (t = M ∧ M < m)) ∧ Below W1.heap.size W1 wr) := Lib.hid ⟨hg, ht, hb⟩
              clear hg ht hb
              by_cases hltm : m < N
              · have hltm' : (m : Int) < (N : Int) := by omega
                obtain ⟨b', off', e', hcc⟩ := (((YO.out.below RS.out.2.2).row okAm)).at m (by rw [lef_len, ← HNN.out]; exact hltm)
                simp only [Option.some.injEq, Addr.mk.injEq, and_true] at e'
                obtain ⟨rfl, rfl⟩ := e'
                rw [lef_at _ _ _ (by rw [← HNN.out]; exact hltm)] at hcc
                obtain ⟨nm, hnm⟩ : ∃ nm : ByteArray, nm = ⟨((nmsOf (obEs ops)).getD m []).toArray⟩ := ⟨_, rfl⟩
                have n0 : wr.cell? ⟨g5, m * 2, none⟩ = some (.string nm) := by
                  have := hcc 0 _ rfl
                  rw [Nat.zero_add] at this
                  rw [hnm]; exact this
                have r0 := reg n0
                obtain ⟨q0, q1⟩ := QC.out wr RS.out.2.2
                have r1 := reg q0
                have xB : Hid (∀ (dq : Nat) (os : Array Obj), Below wr.heap.size wr (grow (redrawn wr dq) os)) := Lib.hid fun dq os => below_regrown wr dq os
                clear n0 q0 q1 hcc
                by_cases hmM : m = M
                · have ge : (nm.toList == ((⟨#[114, 101, 113, 117, 101, 115, 116, 115, 46]⟩ : ByteArray) ++ xn).toList) = true := teq_yes (by rw [hnm, hmM]; exact MM.out.2)
                  have HMM := Lib.hid hmM
                  clear hnm hmM
                  go_wp2_with fail
                  refine wp_region_quiet_below (by kernel_rfl) (by kernel_rfl) ?_
                  repeat (go_big_quiet_step (fail))
                  refine wpQuiet_nil ?_
                  intro _ hw'
                  obtain ⟨⟨dq, osq⟩, hw''⟩ := hw'
                  subst hw''
                  have xx := Lib.hid (RS.out.2.2.trans ((xB.out dq osq).mono RS.out.2.2.size))
                  clear r0 r1 xB
                  obtain ⟨W, hW⟩ : ∃ W, W = grow (redrawn wr dq) osq := ⟨_, rfl⟩
                  rw [← hW] at xx ⊢
                  clear hW
                  go_wp2_with fail
                  go_roundg (N - (m + 1))
                  case measure => have := RS.out.1; omega
                  case rel => exact ⟨m + 1, m, by omega, rfl, by go_num, rfl, Or.inr ⟨by rw [HMM.out], by rw [HMM.out]; omega⟩, xx.out⟩
                · have ge : (nm.toList == ((⟨#[114, 101, 113, 117, 101, 115, 116, 115, 46]⟩ : ByteArray) ++ xn).toList) = false := teq_no (by
                    rw [hnm, ← MM.out.2]
                    intro e
                    refine hmM (nms_inj (obEs ops) (by rw [← HNN.out]; exact hltm) (by rw [← HNN.out]; exact MM.out.1) ?_)
                    have e2 := congrArg (fun b : ByteArray => b.data.toList) e
                    simpa using e2)
                  clear hnm
                  go_wp2_with fail
                  refine wp_region_quiet_below (by kernel_rfl) (by kernel_rfl) ?_
                  repeat (go_big_quiet_step (fail))
                  refine wpQuiet_nil ?_
                  intro _ hw'
                  obtain ⟨⟨dq, osq⟩, hw''⟩ := hw'
                  subst hw''
                  have xx := Lib.hid (RS.out.2.2.trans ((xB.out dq osq).mono RS.out.2.2.size))
                  clear r0 r1 xB
                  obtain ⟨W, hW⟩ : ∃ W, W = grow (redrawn wr dq) osq := ⟨_, rfl⟩
                  rw [← hW] at xx ⊢
                  clear hW
                  go_wp2_with fail
                  go_roundg (N - (m + 1))
                  case measure => have := RS.out.1; omega
                  case rel => exact ⟨m + 1, t, by omega, rfl, by go_num, rfl, by have := RS.out.2.1; omega, xx.out⟩
              · obtain rfl : t = M := by have := RS.out.2.1; omega
                have gM : decide ((M : Int) < 0) = false := decide_eq_false (by omega)
                obtain ⟨vo, hvo⟩ : ∃ v, v = Tot (obEs ops) ((⟨#[114, 101, 113, 117, 101, 115, 116, 115, 46]⟩ : ByteArray) ++ xn).data.toList - Tot (DS j) ((⟨#[114, 101, 113, 117, 101, 115, 116, 115, 46]⟩ : ByteArray) ++ xn).data.toList := ⟨_, rfl⟩
                have b0 : 0 ≤ vo - xv ∧ vo ≤ 9223372036854775807 ∧ 0 ≤ xv := by rw [hvo]; exact ⟨PS.out.lo, PS.out.hi, PS.out.p⟩
                obtain ⟨b1, b2, b3⟩ := b0
                have b4 : xv ≤ 9223372036854775807 := XZ.out.2
                have YW := Lib.hid (YO.out.below RS.out.2.2)
                have LA : Hid ((lef (obEs ops) (DS j)).getD M kAm.z = ⟨(⟨#[114, 101, 113, 117, 101, 115, 116, 115, 46]⟩ : ByteArray) ++ xn, vo⟩) := Lib.hid (by
                  rw [lef_at _ _ _ (by rw [← HNN.out]; exact hMN), MM.out.2, hvo, ← MM.out.2])
                obtain ⟨cur, -, -, hq, -⟩ := YW.out.parts
                have f0 := frozen_row hq (M * 2 + 1)
                obtain ⟨b', off', e', hcc⟩ := (YW.out.row okAm).at M (by rw [lef_len, ← HNN.out]; exact hMN)
                simp only [Option.some.injEq, Addr.mk.injEq, and_true] at e'
                obtain ⟨rfl, rfl⟩ := e'
                rw [LA.out] at hcc
                have n1 : wr.cell? ⟨g5, M * 2 + 1, none⟩ = some (.int .i64 vo) := by
                  have := hcc 1 _ rfl
                  rw [Nat.zero_add] at this
                  exact this
                obtain ⟨q0, q1⟩ := QC.out wr RS.out.2.2
                have ST : Hid (∀ W, Below wr.heap.size wr W → OwnR kAm B (W.setCell ⟨g5, M * 2 + 1, none⟩ (.int .i64 (vo - xv))) (.slice (some ⟨g5, 0, none⟩) N c5) (lef (obEs ops) (DS (j + 1))) ∧ Below X.heap.size X (W.setCell ⟨g5, M * 2 + 1, none⟩ (.int .i64 (vo - xv)))) := Lib.hid fun W hb => by
                  have o1 := (YW.out.below hb).set okAm M 1 (by rw [lef_len, ← HNN.out]; exact hMN) (by decide) ⟨(⟨#[114, 101, 113, 117, 101, 115, 116, 115, 46]⟩ : ByteArray) ++ xn, vo - xv⟩ (.int .i64 (vo - xv)) (by rw [LA.out]; rfl)
                  have e1 : (lef (obEs ops) (DS j)).set M ⟨(⟨#[114, 101, 113, 117, 101, 115, 116, 115, 46]⟩ : ByteArray) ++ xn, vo - xv⟩ = lef (obEs ops) (DS (j + 1)) := by
                    have q := lef_set (obEs ops) (DS j) M (by rw [← HNN.out]; exact hMN) xv
                    have en : (nmsOf (obEs ops)).getD M [] = ((⟨#[114, 101, 113, 117, 101, 115, 116, 115, 46]⟩ : ByteArray) ++ xn).data.toList := by rw [← MM.out.2]
                    rw [en] at q
                    rw [PS.out.s, ← q, hvo, arr_txt]
                  rw [e1] at o1
                  exact ⟨o1, ((YB.out.trans (RS.out.2.2.mono YB.out.size)).trans (hb.mono (Nat.le_trans YB.out.size RS.out.2.2.size))).setCell (p := ⟨g5, M * 2 + 1, none⟩) G5.out _⟩
                clear hcc hvo hq q0
                have WR : Hid (IntKind.i64.wrap (vo - xv) = vo - xv) := Lib.hid (wrap_in (by omega) (by omega))
                go_wp2_with fail
                go_region_law (fail)
                all_goals
                  rw [WR.out]
                  obtain ⟨W2, hW2⟩ : ∃ W2, W2 = (wr.setCell ⟨g5, M * 2 + 1, none⟩ (.int .i64 (vo - xv))).drew := ⟨_, rfl⟩
                  rw [← hW2]
                  have Z2 : Hid (OwnR kAm B W2 (.slice (some ⟨g5, 0, none⟩) N c5) (lef (obEs ops) (DS (j + 1))) ∧ Below X.heap.size X W2) := Lib.hid (by
                    have q := ST.out wr (Below.refl _ _)
                    have d := below_drawn (wr.setCell ⟨g5, M * 2 + 1, none⟩ (.int .i64 (vo - xv))) 1
                    rw [hW2]
                    exact ⟨q.1.below d, q.2.trans (d.mono q.2.size)⟩)
                  clear hW2 ST f0 n1 q1
                  go_wp2_with fail
                  go_roundg (rn + sn - (j + 1))
                  case measure => have := RJ.out.1; omega
                  case rel => exact ⟨j + 1, by omega, rfl, by go_num, Z2.out.1, Z2.out.2⟩
          · have hA' : decide ((j : Int) ≥ (rn : Int)) = true := decide_eq_true (by omega)
            obtain ⟨kk, hkk⟩ : ∃ kk, kk = j - rn := ⟨_, rfl⟩
            have ejk : (j : Int) - (rn : Int) = (kk : Int) := by omega
            have hkl : (kk : Int) < (sn : Int) := by omega
            have KL : Hid (kk < (ops.getD i ⟨⟨#[]⟩, [], []⟩).l.length) := Lib.hid (by rw [← RN.out.2]; omega)
            have KJ : Hid (j - (ops.getD i ⟨⟨#[]⟩, [], []⟩).r.length = kk ∧ (ops.getD i ⟨⟨#[]⟩, [], []⟩).r.length ≤ j) := Lib.hid (by rw [← RN.out.1]; omega)
            clear hkk
            have kx : kk < (ops.getD i ⟨⟨#[]⟩, [], []⟩).l.length := KL.out
            obtain ⟨qb, qo, eqa, pc0⟩ := (RR.out W1 YB.out).2.1.at kk kx
            subst eqa
            have PS : Hid (PtS (obEs ops) (DS j) (DS (j + 1)) ((⟨#[108, 105, 109, 105, 116, 115, 46]⟩ : ByteArray) ++ ((ops.getD i ⟨⟨#[]⟩, [], []⟩).l.getD kk kAm.z).n) ((ops.getD i ⟨⟨#[]⟩, [], []⟩).l.getD kk kAm.z).v) := Lib.hid (by
              have q := pt_step ops i IL.out j TL.out HG.out.1 HG.out.2
              rw [pt_at_l _ j KJ.out.2 (by rw [KJ.out.1]; exact KL.out), KJ.out.1] at q
              simp only at q
              rw [arr_txt] at q
              rw [← hDS j, ← hDS (j + 1)]
              exact q)
            have XZ : Hid (((ops.getD i ⟨⟨#[]⟩, [], []⟩).l.getD kk kAm.z).n.size ≤ 140737488355328 ∧ ((ops.getD i ⟨⟨#[]⟩, [], []⟩).l.getD kk kAm.z).v ≤ 9223372036854775807) := Lib.hid (first_fit HZ.out (getD_in IL.out) (Or.inr (getD_in kx)))
            obtain ⟨⟨xn, xv⟩, hx⟩ : ∃ x, x = (ops.getD i ⟨⟨#[]⟩, [], []⟩).l.getD kk kAm.z := ⟨_, rfl⟩
            rw [← hx] at pc0 PS XZ
            simp only at PS XZ
            have QC : Hid (∀ W, Below W1.heap.size W1 W → W.cell? ⟨qb, qo + kk * 2, none⟩ = some (.string xn) ∧ W.cell? ⟨qb, qo + kk * 2 + 1, none⟩ = some (.int .i64 xv)) := Lib.hid fun W hb => by
              have t0 : W1.cell? ⟨qb, qo + kk * 2, none⟩ = some (.string xn) := pc0 0 _ rfl
              have t1 : W1.cell? ⟨qb, qo + kk * 2 + 1, none⟩ = some (.int .i64 xv) := pc0 1 _ rfl
              exact ⟨(hb.cell (block_lt_of_cell t0)).trans t0, (hb.cell (block_lt_of_cell t1)).trans t1⟩
            have sz : ¬ (9223372036854775807 < (⟨#[108, 105, 109, 105, 116, 115, 46]⟩ : ByteArray).size + xn.size) := by have := XZ.out.1; show ¬ (9223372036854775807 < 7 + xn.size); omega
            have sz2 : ¬ (9223372036854775807 < 7 + xn.size) := sz
            clear pc0 hx kx
            obtain ⟨M, hM, eM⟩ := PS.out.i
            have MM : Hid (M < N ∧ ⟨((nmsOf (obEs ops)).getD M []).toArray⟩ = (⟨#[108, 105, 109, 105, 116, 115, 46]⟩ : ByteArray) ++ xn) := Lib.hid ⟨by rw [HNN.out]; exact hM, by rw [eM]⟩
            have hMN : M < N := MM.out.1
            clear hM eM
            go_wp2_with fail
            go_loopg [11, 12] N (fun g sa sm wq => ∃ (m : Nat) (t : Int), m ≤ N ∧ g = N - m ∧ sm = .int .i64 m ∧ sa = .int .i64 t ∧ ((t = -1 ∧ m ≤ M) ∨ (t = M ∧ M < m)) ∧ Below W1.heap.size W1 wq)
            case atStart => exact ⟨0, -1, Nat.zero_le _, rfl, rfl, rfl, Or.inl ⟨rfl, Nat.zero_le _⟩, Below.refl _ _⟩
            case round =>
              obtain ⟨m, t, hm, hg, rfl, rfl, ht, hb⟩ := hrel
              have RS : Hid (gk = N - m ∧ ((t = -1 ∧ m ≤ M) ∨ (t = M ∧ M < m)) ∧ Below W1.heap.size W1 wr) := Lib.hid ⟨hg, ht, hb⟩
              clear hg ht hb
              by_cases hltm : m < N
              · have hltm' : (m : Int) < (N : Int) := by omega
                obtain ⟨b', off', e', hcc⟩ := (((YO.out.below RS.out.2.2).row okAm)).at m (by rw [lef_len, ← HNN.out]; exact hltm)
                simp only [Option.some.injEq, Addr.mk.injEq, and_true] at e'
                obtain ⟨rfl, rfl⟩ := e'
                rw [lef_at _ _ _ (by rw [← HNN.out]; exact hltm)] at hcc
                obtain ⟨nm, hnm⟩ : ∃ nm : ByteArray, nm = ⟨((nmsOf (obEs ops)).getD m []).toArray⟩ := ⟨_, rfl⟩
                have n0 : wr.cell? ⟨g5, m * 2, none⟩ = some (.string nm) := by
                  have := hcc 0 _ rfl
                  rw [Nat.zero_add] at this
                  rw [hnm]; exact this
                have r0 := reg n0
                obtain ⟨q0, q1⟩ := QC.out wr RS.out.2.2
                have r1 := reg q0
                have xB : Hid (∀ (dq : Nat) (os : Array Obj), Below wr.heap.size wr (grow (redrawn wr dq) os)) := Lib.hid fun dq os => below_regrown wr dq os
                clear n0 q0 q1 hcc
                by_cases hmM : m = M
                · have ge : (nm.toList == ((⟨#[108, 105, 109, 105, 116, 115, 46]⟩ : ByteArray) ++ xn).toList) = true := teq_yes (by rw [hnm, hmM]; exact MM.out.2)
                  have HMM := Lib.hid hmM
                  clear hnm hmM
                  go_wp2_with fail
                  refine wp_region_quiet_below (by kernel_rfl) (by kernel_rfl) ?_
                  repeat (go_big_quiet_step (fail))
                  refine wpQuiet_nil ?_
                  intro _ hw'
                  obtain ⟨⟨dq, osq⟩, hw''⟩ := hw'
                  subst hw''
                  have xx := Lib.hid (RS.out.2.2.trans ((xB.out dq osq).mono RS.out.2.2.size))
                  clear r0 r1 xB
                  obtain ⟨W, hW⟩ : ∃ W, W = grow (redrawn wr dq) osq := ⟨_, rfl⟩
                  rw [← hW] at xx ⊢
                  clear hW
                  go_wp2_with fail
                  go_roundg (N - (m + 1))
                  case measure => have := RS.out.1; omega
                  case rel => exact ⟨m + 1, m, by omega, rfl, by go_num, rfl, Or.inr ⟨by rw [HMM.out], by rw [HMM.out]; omega⟩, xx.out⟩
                · have ge : (nm.toList == ((⟨#[108, 105, 109, 105, 116, 115, 46]⟩ : ByteArray) ++ xn).toList) = false := teq_no (by
                    rw [hnm, ← MM.out.2]
                    intro e
                    refine hmM (nms_inj (obEs ops) (by rw [← HNN.out]; exact hltm) (by rw [← HNN.out]; exact MM.out.1) ?_)
                    have e2 := congrArg (fun b : ByteArray => b.data.toList) e
                    simpa using e2)
                  clear hnm
                  go_wp2_with fail
                  refine wp_region_quiet_below (by kernel_rfl) (by kernel_rfl) ?_
                  repeat (go_big_quiet_step (fail))
                  refine wpQuiet_nil ?_
                  intro _ hw'
                  obtain ⟨⟨dq, osq⟩, hw''⟩ := hw'
                  subst hw''
                  have xx := Lib.hid (RS.out.2.2.trans ((xB.out dq osq).mono RS.out.2.2.size))
                  clear r0 r1 xB
                  obtain ⟨W, hW⟩ : ∃ W, W = grow (redrawn wr dq) osq := ⟨_, rfl⟩
                  rw [← hW] at xx ⊢
                  clear hW
                  go_wp2_with fail
                  go_roundg (N - (m + 1))
                  case measure => have := RS.out.1; omega
                  case rel => exact ⟨m + 1, t, by omega, rfl, by go_num, rfl, by have := RS.out.2.1; omega, xx.out⟩
              · obtain rfl : t = M := by have := RS.out.2.1; omega
                have gM : decide ((M : Int) < 0) = false := decide_eq_false (by omega)
                obtain ⟨vo, hvo⟩ : ∃ v, v = Tot (obEs ops) ((⟨#[108, 105, 109, 105, 116, 115, 46]⟩ : ByteArray) ++ xn).data.toList - Tot (DS j) ((⟨#[108, 105, 109, 105, 116, 115, 46]⟩ : ByteArray) ++ xn).data.toList := ⟨_, rfl⟩
                have b0 : 0 ≤ vo - xv ∧ vo ≤ 9223372036854775807 ∧ 0 ≤ xv := by rw [hvo]; exact ⟨PS.out.lo, PS.out.hi, PS.out.p⟩
                obtain ⟨b1, b2, b3⟩ := b0
                have b4 : xv ≤ 9223372036854775807 := XZ.out.2
                have YW := Lib.hid (YO.out.below RS.out.2.2)
                have LA : Hid ((lef (obEs ops) (DS j)).getD M kAm.z = ⟨(⟨#[108, 105, 109, 105, 116, 115, 46]⟩ : ByteArray) ++ xn, vo⟩) := Lib.hid (by
                  rw [lef_at _ _ _ (by rw [← HNN.out]; exact hMN), MM.out.2, hvo, ← MM.out.2])
                obtain ⟨cur, -, -, hq, -⟩ := YW.out.parts
                have f0 := frozen_row hq (M * 2 + 1)
                obtain ⟨b', off', e', hcc⟩ := (YW.out.row okAm).at M (by rw [lef_len, ← HNN.out]; exact hMN)
                simp only [Option.some.injEq, Addr.mk.injEq, and_true] at e'
                obtain ⟨rfl, rfl⟩ := e'
                rw [LA.out] at hcc
                have n1 : wr.cell? ⟨g5, M * 2 + 1, none⟩ = some (.int .i64 vo) := by
                  have := hcc 1 _ rfl
                  rw [Nat.zero_add] at this
                  exact this
                obtain ⟨q0, q1⟩ := QC.out wr RS.out.2.2
                have ST : Hid (∀ W, Below wr.heap.size wr W → OwnR kAm B (W.setCell ⟨g5, M * 2 + 1, none⟩ (.int .i64 (vo - xv))) (.slice (some ⟨g5, 0, none⟩) N c5) (lef (obEs ops) (DS (j + 1))) ∧ Below X.heap.size X (W.setCell ⟨g5, M * 2 + 1, none⟩ (.int .i64 (vo - xv)))) := Lib.hid fun W hb => by
                  have o1 := (YW.out.below hb).set okAm M 1 (by rw [lef_len, ← HNN.out]; exact hMN) (by decide) ⟨(⟨#[108, 105, 109, 105, 116, 115, 46]⟩ : ByteArray) ++ xn, vo - xv⟩ (.int .i64 (vo - xv)) (by rw [LA.out]; rfl)
                  have e1 : (lef (obEs ops) (DS j)).set M ⟨(⟨#[108, 105, 109, 105, 116, 115, 46]⟩ : ByteArray) ++ xn, vo - xv⟩ = lef (obEs ops) (DS (j + 1)) := by
                    have q := lef_set (obEs ops) (DS j) M (by rw [← HNN.out]; exact hMN) xv
                    have en : (nmsOf (obEs ops)).getD M [] = ((⟨#[108, 105, 109, 105, 116, 115, 46]⟩ : ByteArray) ++ xn).data.toList := by rw [← MM.out.2]
                    rw [en] at q
                    rw [PS.out.s, ← q, hvo, arr_txt]
                  rw [e1] at o1
                  exact ⟨o1, ((YB.out.trans (RS.out.2.2.mono YB.out.size)).trans (hb.mono (Nat.le_trans YB.out.size RS.out.2.2.size))).setCell (p := ⟨g5, M * 2 + 1, none⟩) G5.out _⟩
                clear hcc hvo hq q0
                have WR : Hid (IntKind.i64.wrap (vo - xv) = vo - xv) := Lib.hid (wrap_in (by omega) (by omega))
                go_wp2_with fail
                go_region_law (fail)
                all_goals
                  rw [WR.out]
                  obtain ⟨W2, hW2⟩ : ∃ W2, W2 = (wr.setCell ⟨g5, M * 2 + 1, none⟩ (.int .i64 (vo - xv))).drew := ⟨_, rfl⟩
                  rw [← hW2]
                  have Z2 : Hid (OwnR kAm B W2 (.slice (some ⟨g5, 0, none⟩) N c5) (lef (obEs ops) (DS (j + 1))) ∧ Below X.heap.size X W2) := Lib.hid (by
                    have q := ST.out wr (Below.refl _ _)
                    have d := below_drawn (wr.setCell ⟨g5, M * 2 + 1, none⟩ (.int .i64 (vo - xv))) 1
                    rw [hW2]
                    exact ⟨q.1.below d, q.2.trans (d.mono q.2.size)⟩)
                  clear hW2 ST f0 n1 q1
                  go_wp2_with fail
                  go_roundg (rn + sn - (j + 1))
                  case measure => have := RJ.out.1; omega
                  case rel => exact ⟨j + 1, by omega, rfl, by go_num, Z2.out.1, Z2.out.2⟩
        · have hltj' : ¬ ((j : Int) < (rn : Int) + (sn : Int)) := by omega
          have EN : Hid (DS j = dsOf ops (i + 1) 0) := Lib.hid (by rw [← hDS]; exact ds_next ops i IL.out j (by rw [pt_len, ← RN.out.1, ← RN.out.2]; omega))
          go_wp2_with fail
          refine wp_region_quiet_below (by kernel_rfl) (by kernel_rfl) ?_
          repeat (go_big_quiet_step (fail))
          refine wpQuiet_nil ?_
          intro _ hw'
          obtain ⟨⟨dq, osq⟩, hw''⟩ := hw'
          subst hw''
          obtain ⟨W1, hW⟩ : ∃ W, W = grow (redrawn wr dq) osq := ⟨_, rfl⟩
          have YY := xB.out dq osq
          rw [← hW] at YY ⊢
          have YB : Hid (Below X.heap.size X W1) := Lib.hid (RJ.out.2.2.trans (YY.mono RJ.out.2.2.size))
          have YO : Hid (OwnR kAm B W1 (.slice (some ⟨g5, 0, none⟩) N c5) (lef (obEs ops) (dsOf ops (i + 1) 0))) := Lib.hid (by rw [← EN.out]; exact RJ.out.2.1.below YY)
          clear hW YY rz r1 r2 xB
          go_wp2_with fail
          go_roundg (pn - (i + 1))
          case measure => have := R.out.1; omega
          case rel => exact ⟨i + 1, by omega, rfl, by go_num, YO.out, YB.out⟩
    · have ei : Hid (i = ops.length) := Lib.hid (by rw [← HN.out]; omega)
      have RL : Hid (OwnR kAm B wr (.slice (some ⟨g5, 0, none⟩) N c5) (lef (obEs ops) (dsOf ops ops.length 0)) ∧ Below X.heap.size X wr) := Lib.hid (by have q := R.out.2; rw [ei.out] at q; exact q)
      go_wp2_with fail
      clear R
      go_loopg [13] N (fun g sm wq => ∃ (m : Nat), m ≤ N ∧ g = N - m ∧ sm = .int .i64 m ∧ wq = wr)
      case atStart => exact ⟨0, Nat.zero_le _, rfl, rfl, rfl⟩
      case round =>
        obtain ⟨m, hm, hg, rfl, rfl⟩ := hrel
        have RM := Lib.hid hg
        clear hg
        by_cases hltm : m < N
        · have hltm' : (m : Int) < (N : Int) := by omega
          obtain ⟨b', off', e', hcc⟩ := (RL.out.1.row okAm).at m (by rw [lef_len, ← HNN.out]; exact hltm)
          simp only [Option.some.injEq, Addr.mk.injEq, and_true] at e'
          obtain ⟨rfl, rfl⟩ := e'
          rw [lef_at _ _ _ (by rw [← HNN.out]; exact hltm), tot_left] at hcc
          obtain ⟨nl, hnl⟩ : ∃ nl, nl = (nmsOf (obEs ops)).getD m [] := ⟨_, rfl⟩
          rw [← hnl] at hcc
          clear hnl
          have n0 : wr.cell? ⟨g5, m * 2, none⟩ = some (.string ⟨nl.toArray⟩) := by
            have := hcc 0 _ rfl
            rw [Nat.zero_add] at this
            exact this
          have n1 : wr.cell? ⟨g5, m * 2 + 1, none⟩ = some (.int .i64 (if tCount.data.toList = nl then 1000 else 0)) := by
            have := hcc 1 _ rfl
            rw [Nat.zero_add] at this
            exact this
          clear hcc
          by_cases hc : tCount.data.toList = nl
          · rw [if_pos hc] at n1
            have ec : (⟨nl.toArray⟩ : ByteArray) = ⟨#[99, 111, 117, 110, 116]⟩ := by rw [← hc]; rfl
            rw [ec] at n0
            clear ec hc
            go_wp2_with fail
            go_roundg (N - (m + 1))
            case measure => have := RM.out; omega
            case rel => exact ⟨m + 1, by omega, rfl, by go_num, rfl⟩
          · rw [if_neg hc] at n1
            clear hc
            go_wp2_with fail
            go_roundg (N - (m + 1))
            case measure => have := RM.out; omega
            case rel => exact ⟨m + 1, by omega, rfl, by go_num, rfl⟩
        · go_wp2_with fail
          go_ret
          exact ⟨rfl, (KC.out wr RL.out.2).2.1⟩
end Go.Proofs.YtibjmmfodelhjaaDoor
