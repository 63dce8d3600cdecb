/-
  The document's add.
-/
import Derived.Test.YtibjmmfodelhjaaDoorScRa
import Derived.Test.YtibjmmfodelhjaaDoorScRb
import Derived.Test.YtibjmmfodelhjaaDoorScE
import Derived.Test.YtibjmmfodelhjaaDoorScZ
namespace Go.Proofs.YtibjmmfodelhjaaDoor
open Go.RowKit
open Go.Sort (grow)
def kRw : Kd Rw := ⟨fun x => [.string x.n, .int .i64 x.h, .int .i64 x.l], 3, 77, 78, 32, rwZ⟩
theorem okRw : kRw.Ok := ⟨fun _ => rfl, by decide, fun x u hu => by simp only [kRw, List.mem_cons, List.not_mem_nil, or_false] at hu; rcases hu with rfl | rfl | rfl <;> rfl, Tryd.underlying78, ⟨_, (by kernel_rfl : (Tryd.prog.info? 77).map (fun i => (i.zero, i.size, i.bytes)) = some (some (.agg #[.string ⟨#[]⟩, .int .i64 0, .int .i64 0]), 3, 32)), rfl⟩, by decide⟩
theorem Tot_le {es : List En} (h : ∀ e ∈ es, e.2 ≤ 9223372036854775807) (n : List UInt8) : Tot es n ≤ es.length * 9223372036854775807 := by
  induction es with
  | nil => simp [Tot]
  | cons e r ih =>
    rw [Tot, List.length_cons]
    have h1 := h e (by simp)
    have h2 := ih (fun x hx => h x (by simp [hx]))
    split <;> omega
theorem pre_le {h : ByteArray} {l : List Am} (hp : ∀ x ∈ l, x.v ≤ 9223372036854775807) : ∀ e ∈ pre h l, e.2 ≤ 9223372036854775807 := by
  intro e he
  obtain ⟨x, hx, rfl⟩ := List.mem_map.1 he
  exact hp x hx
theorem rw_cells {B : Nat} {w : World} {g m c p : Nat} {L : List Rw} (H : OwnR kRw B w (.slice (some ⟨g, 0, none⟩) m c) L) (hp : p < L.length) {nm : ByteArray} {h0 l0 : Int} (hx : L.getD p rwZ = ⟨nm, h0, l0⟩) :
    w.cell? ⟨g, p * 3, none⟩ = some (.string nm) ∧ w.cell? ⟨g, p * 3 + 1, none⟩ = some (.int .i64 h0) ∧ w.cell? ⟨g, p * 3 + 2, none⟩ = some (.int .i64 l0) ∧ w.frozen? ⟨g, p * 3 + 1, none⟩ = false ∧ w.frozen? ⟨g, p * 3 + 2, none⟩ = false := by
  obtain ⟨cur, -, -, hq, -⟩ := H.parts
  obtain ⟨b', off', e', hcc⟩ := (H.row okRw).at p hp
  simp only [Option.some.injEq, Addr.mk.injEq, and_true] at e'
  obtain ⟨rfl, rfl⟩ := e'
  rw [show kRw.z = rwZ from rfl, hx] at hcc
  have c0 := hcc 0 _ rfl
  have c1 := hcc 1 _ rfl
  have c2 := hcc 2 _ rfl
  rw [Nat.zero_add] at c0 c1 c2
  exact ⟨c0, c1, c2, frozen_row hq _, frozen_row hq _⟩
theorem rw_turn0 {w0 w : World} {g m c p : Nat} {L : List Rw} (H : OwnR kRw w0.heap.size w (.slice (some ⟨g, 0, none⟩) m c) L) (hp : p < L.length) {x : Rw} (hx : L.getD p rwZ = x) (j : Nat) (hj : j < 3) (y : Rw) (v : Value) (hy : kRw.c y = (kRw.c x).set j v) (hb : Below w0.heap.size w0 w) (hg : w0.heap.size ≤ g) :
    OwnR kRw w0.heap.size (w.setCell ⟨g, p * 3 + j, none⟩ v) (.slice (some ⟨g, 0, none⟩) m c) (L.set p y) ∧ (p < (L.set p y).length ∧ (L.set p y).getD p rwZ = y) ∧ Below w0.heap.size w0 (w.setCell ⟨g, p * 3 + j, none⟩ v) := by
  refine ⟨H.set okRw p j hp hj y v (by rw [show kRw.z = rwZ from rfl, hx]; exact hy), ⟨by rw [List.length_set]; exact hp, ?_⟩, hb.setCell (p := ⟨g, p * 3 + j, none⟩) hg v⟩
  rw [List.getD_eq_getElem?_getD, List.getElem?_set_self hp]; rfl
theorem rw_turn {w0 w : World} {g m c p : Nat} {L : List Rw} (H : OwnR kRw w0.heap.size w (.slice (some ⟨g, 0, none⟩) m c) L) (hp : p < L.length) {x : Rw} (hx : L.getD p rwZ = x) (j : Nat) (hj : j < 3) (y : Rw) (v : Value) (hy : kRw.c y = (kRw.c x).set j v) (hb : Below w0.heap.size w0 w) (hg : w0.heap.size ≤ g) :
    OwnR kRw w0.heap.size (w.setCell ⟨g, p * 3 + j, none⟩ v).drew (.slice (some ⟨g, 0, none⟩) m c) (L.set p y) ∧ (p < (L.set p y).length ∧ (L.set p y).getD p rwZ = y) ∧ Below w0.heap.size w0 (w.setCell ⟨g, p * 3 + j, none⟩ v).drew := by
  obtain ⟨q1, q2, q3⟩ := rw_turn0 H hp hx j hj y v hy hb hg
  have d := below_drawn (w.setCell ⟨g, p * 3 + j, none⟩ v) 1
  exact ⟨q1.below d, q2, q3.trans (d.mono q3.size)⟩
set_option maxHeartbeats 16000000 in
set_option maxRecDepth 100000 in
theorem refAdd_any (u v : Value) (es : List En) (l : List Am) (h : ByteArray) (w0 w : World) (hb0 : Below w0.heap.size w0 w) (hu : OwnR kRw w0.heap.size w u (rws es)) (hv : Row kAm w0 v l)
    (hp : ∀ x ∈ l, 0 ≤ x.v ∧ x.v ≤ 9223372036854775807) (he : ∀ e ∈ es, 0 ≤ e.2 ∧ e.2 ≤ 9223372036854775807) (hs : ∀ x ∈ l, h.size + x.n.size ≤ 281474976710656) (hn : es.length + l.length ≤ 4000000) :
    Calls Tryd.prog 40 #[u, v, .string h] w fun e w' => ∃ a n c, e = .returned (.slice a n c) ∧ OwnR kRw w0.heap.size w' (.slice a n c) (rws (es ++ pre h l)) ∧ Below w0.heap.size w0 w' := by
  have V := Lib.hid hv
  obtain ⟨a, cap, rfl, hlc, hcm⟩ := hv.len
  unfold maxLen at hcm
  obtain ⟨ua, un, uc, rfl⟩ : ∃ a n c, u = .slice a n c := by obtain ⟨a, c, e⟩ := hu.slice; exact ⟨a, _, c, e⟩
  obtain ⟨n, hnl⟩ : ∃ n, n = l.length := ⟨_, rfl⟩
  rw [← hnl] at hlc hn V ⊢
  have HN := Lib.hid hnl
  have P : Hid (OwnR kRw w0.heap.size w (.slice ua un uc) (rws es) ∧ Below w0.heap.size w0 w ∧ (∀ x ∈ l, 0 ≤ x.v ∧ x.v ≤ 9223372036854775807) ∧ (∀ e ∈ es, 0 ≤ e.2 ∧ e.2 ≤ 9223372036854775807) ∧ (∀ x ∈ l, h.size + x.n.size ≤ 281474976710656) ∧ es.length + n ≤ 4000000) := Lib.hid ⟨hu, hb0, hp, he, hs, hn⟩
  clear hv hnl hu hb0 hp he hs
  go_enter Tryd.func40, Tryd.ntmps40
  go_wp2_with fail
  go_loopg [0, 7] n (fun g so si wr => ∃ (k : Nat) (a' : Option Addr) (m c : Nat), k ≤ n ∧ g = n - k ∧ si = .int .i64 k ∧ so = .slice a' m c ∧ OwnR kRw w0.heap.size wr (.slice a' m c) (rws (es ++ pre h (l.take k))) ∧ Below w0.heap.size w0 wr)
  case atStart => exact ⟨0, ua, un, uc, Nat.zero_le _, rfl, rfl, rfl, by simpa [pre] using P.out.1, P.out.2.1⟩
  case round =>
    obtain ⟨k, a', m, c, hk, hg, rfl, rfl, ho, hb⟩ := hrel
    by_cases hlt : k < n
    · have hlt' : (k : Int) < (n : Int) := by omega
      have hkl : k < l.length := by rw [← HN.out]; exact hlt
      obtain ⟨qb, qo, eqa, pc0⟩ := V.out.at k hkl
      subst eqa
      have XP : Hid (0 ≤ (l.getD k kAm.z).v ∧ (l.getD k kAm.z).v ≤ 9223372036854775807 ∧ h.size + (l.getD k kAm.z).n.size ≤ 281474976710656) := Lib.hid ⟨(P.out.2.2.1 _ (getD_in hkl)).1, (P.out.2.2.1 _ (getD_in hkl)).2, P.out.2.2.2.2.1 _ (getD_in hkl)⟩
      have ST := Lib.hid (pre_take h l k hkl)
      obtain ⟨⟨xn, xv⟩, hx⟩ : ∃ x, x = l.getD k kAm.z := ⟨_, rfl⟩
      rw [← hx] at pc0 ST XP
      simp only at XP ST
      have QC : Hid (∀ W, Below w0.heap.size w0 W → W.cell? ⟨qb, qo + k * 2, none⟩ = some (.string xn) ∧ W.cell? ⟨qb, qo + k * 2 + 1, none⟩ = some (.int .i64 xv)) := Lib.hid fun W hb => by
        have t0 : w0.cell? ⟨qb, qo + k * 2, none⟩ = some (.string xn) := pc0 0 _ rfl
        have t1 : w0.cell? ⟨qb, qo + k * 2 + 1, none⟩ = some (.int .i64 xv) := pc0 1 _ rfl
        exact ⟨(hb.cell (block_lt_of_cell t0)).trans t0, (hb.cell (block_lt_of_cell t1)).trans t1⟩
      obtain ⟨E, hE⟩ : ∃ E, E = es ++ pre h (l.take k) := ⟨_, rfl⟩
      rw [← hE] at ho
      obtain ⟨nm, hnm⟩ : ∃ nm, nm = h ++ xn := ⟨_, rfl⟩
      have EN : Hid (es ++ pre h (l.take (k + 1)) = E ++ [(nm.data.toList, xv)]) := Lib.hid (by rw [ST.out, hE, hnm, cat_data, List.append_assoc])
      have EP : Hid ((∀ e ∈ E, 0 ≤ e.2 ∧ e.2 ≤ 9223372036854775807) ∧ E.length < 4000000) := Lib.hid (by
        rw [hE]
        refine ⟨fun e he => ?_, ?_⟩
        · rcases List.mem_append.1 he with q | q
          · exact P.out.2.2.2.1 e q
          · exact ⟨pre_pos (fun x hx => (P.out.2.2.1 x (List.mem_of_mem_take hx)).1) e q, pre_le (fun x hx => (P.out.2.2.1 x (List.mem_of_mem_take hx)).2) e q⟩
        · rw [List.length_append]; simp only [pre, List.length_map, List.length_take]; omega)
      have TB : Hid (0 ≤ Tot E nm.data.toList ∧ Tot E nm.data.toList ≤ 36893488147419103228000000) := Lib.hid ⟨Tot_pos (fun e he => (EP.out.1 e he).1) _, by
        have q := Tot_le (fun e he => (EP.out.1 e he).2) nm.data.toList
        have q2 := EP.out.2
        omega⟩
      have LM : Hid ((rws E).length = m) := Lib.hid (by obtain ⟨_, _, e⟩ := ho.slice; simp only [Value.slice.injEq] at e; exact e.2.1.symm)
      have bm : m < 4000000 := by rw [← LM.out, rws_len]; exact Nat.lt_of_le_of_lt (nmF_len E) EP.out.2
      have R : Hid (gk = n - k ∧ OwnR kRw w0.heap.size wr (.slice a' m c) (rws E) ∧ Below w0.heap.size w0 wr) := Lib.hid ⟨hg, ho, hb⟩
      have hmc : m ≤ c ∧ c ≤ 9223372036854775807 := by
        obtain ⟨_, _, e1, q1, q2⟩ := (ho.row okRw).len
        simp only [Value.slice.injEq] at e1
        unfold maxLen at q2
        rw [← e1.2.2] at q1 q2
        rw [LM.out] at q1
        exact ⟨q1, q2⟩
      obtain ⟨hmc1, hmc2⟩ := hmc
      have sz : ¬ (9223372036854775807 < h.size + xn.size) := by have := XP.out.2.2; omega
      obtain ⟨x0, -⟩ := QC.out wr hb
      have NMH := Lib.hid hnm
      clear hg ho hb hE pc0 hx hkl hnm
      go_wp2_with fail
      rw [← NMH.out]
      rename World => W1
      clear sz x0
      by_cases hin : nm.data.toList ∈ nmF E
      · obtain ⟨p, hp, ep⟩ := List.getElem_of_mem hin
        have PI : Hid (p < (nmF E).length ∧ (nmF E).getD p [] = nm.data.toList) := Lib.hid ⟨hp, by rw [getD_ge _ _ _ hp]; exact ep⟩
        have hpm : p < m := by rw [← LM.out, rws_len]; exact hp
        clear hp ep hin
        obtain ⟨g, ega, -, hBg, hgl⟩ := R.out.2.1.someOf (by rw [LM.out]; omega)
        subst ega
        go_loopg [9, 10] m (fun g0 sa sj wq => ∃ (j : Nat) (t : Int), j ≤ m ∧ g0 = m - j ∧ sj = .int .i64 j ∧ sa = .int .i64 t ∧ ((t = -1 ∧ j ≤ p) ∨ (t = p ∧ p < j)) ∧ wq = W1)
        case atStart => exact ⟨0, -1, Nat.zero_le _, rfl, rfl, rfl, Or.inl ⟨rfl, Nat.zero_le _⟩, rfl⟩
        case round =>
          obtain ⟨j, t, hj, hgj, rfl, rfl, ht, rfl⟩ := hrel
          have RS : Hid (gk = m - j ∧ ((t = -1 ∧ j ≤ p) ∨ (t = p ∧ p < j))) := Lib.hid ⟨hgj, ht⟩
          clear hgj ht
          by_cases hltj : j < m
          · have hltj' : (j : Int) < (m : Int) := by omega
            have hjl : j < (nmF E).length := by rw [← rws_len, LM.out]; exact hltj
            obtain ⟨b', off', e', hcc⟩ := (R.out.2.1.row okRw).at j (by rw [LM.out]; exact hltj)
            simp only [Option.some.injEq, Addr.mk.injEq, and_true] at e'
            obtain ⟨rfl, rfl⟩ := e'
            have ra := rws_at E j hjl
            rw [show kRw.z = rwZ from rfl, ra] at hcc
            obtain ⟨nj, hnj⟩ : ∃ nj : ByteArray, nj = ⟨((nmF E).getD j []).toArray⟩ := ⟨_, rfl⟩
            have n0 : wr.cell? ⟨g, j * 3, none⟩ = some (.string nj) := by
              have := hcc 0 _ rfl
              rw [Nat.zero_add] at this
              rw [hnj]; exact this
            clear hcc ra
            by_cases hjp : j = p
            · have ge : (nj.toList == nm.toList) = true := teq_yes (by rw [hnj, hjp, PI.out.2])
              have HJ := Lib.hid hjp
              clear hnj hjp hjl
              go_wp2_with fail
              go_roundg (m - (j + 1))
              case measure => have := RS.out.1; omega
              case rel => exact ⟨j + 1, j, by omega, rfl, by go_num, rfl, Or.inr ⟨by rw [HJ.out], by rw [HJ.out]; omega⟩, rfl⟩
            · have ge : (nj.toList == nm.toList) = false := teq_no (by
                rw [hnj]
                intro e
                have e2 := congrArg (fun b : ByteArray => b.data.toList) e
                exact hjp (nmF_inj E hjl PI.out.1 (by rw [PI.out.2]; simpa using e2)))
              have HJ := Lib.hid hjp
              clear hnj hjp hjl
              go_wp2_with fail
              go_roundg (m - (j + 1))
              case measure => have := RS.out.1; omega
              case rel => exact ⟨j + 1, t, by omega, rfl, by go_num, rfl, by have := RS.out.2; have := HJ.out; omega, rfl⟩
          · obtain rfl : t = p := by have := RS.out.2; omega
            have gM : decide ((p : Int) < 0) = false := decide_eq_false (by omega)
            have LA : Hid ((rws E).getD p rwZ = rwV nm.data.toList (Tot E nm.data.toList)) := Lib.hid (by rw [rws_at E p PI.out.1, PI.out.2])
            have NX : Hid (rws (es ++ pre h (l.take (k + 1))) = (rws E).set p (rwV nm.data.toList (Tot E nm.data.toList + xv))) := Lib.hid (by rw [EN.out]; exact rws_old E nm.data.toList xv p PI.out.1 PI.out.2)
            clear RS
            obtain ⟨L, hL⟩ : ∃ L, L = rws E := ⟨_, rfl⟩
            rw [← hL] at LA NX R LM
            clear hL
            go_wp2_with fail
            have LP : Hid (p < L.length) := Lib.hid (by rw [LM.out]; exact hpm)
            have hpm' : (p : Int) < (m : Int) := by omega
            obtain ⟨h0, hh0⟩ : ∃ y, y = Tot E nm.data.toList / HH := ⟨_, rfl⟩
            obtain ⟨l0, hl0⟩ : ∃ y, y = Tot E nm.data.toList % HH := ⟨_, rfl⟩
            obtain ⟨vh, hvh⟩ : ∃ y, y = xv / HH := ⟨_, rfl⟩
            obtain ⟨vl, hvl⟩ : ∃ y, y = xv % HH := ⟨_, rfl⟩
            have LA2 : Hid (L.getD p rwZ = ⟨nm, h0, l0⟩) := Lib.hid (by rw [LA.out, hh0, hl0]; unfold rwV; rw [arr_txt])
            have NX2 : Hid (rws (es ++ pre h (l.take (k + 1))) = L.set p ⟨nm, h0 + vh + (l0 + vl) / HH, (l0 + vl) % HH⟩) := Lib.hid (by
              rw [NX.out, hh0, hl0, hvh, hvl, (half_step _ _).1, (half_step _ _).2]; unfold rwV; rw [arr_txt])
            have bb : 0 ≤ h0 ∧ h0 ≤ 9007199254740992 ∧ 0 ≤ l0 ∧ l0 < 4294967296 ∧ 0 ≤ vh ∧ vh ≤ 2147483647 ∧ 0 ≤ vl ∧ vl < 4294967296 := by
              have q1 := TB.out
              have q2 := XP.out
              rw [hh0, hl0, hvh, hvl]
              unfold HH
              omega
            have hq1 : xv.tdiv 4294967296 = vh := by rw [hvh]; exact Int.tdiv_eq_ediv_of_nonneg XP.out.1
            have hq2 : xv.tmod 4294967296 = vl := by rw [hvl]; exact Int.tmod_eq_emod_of_nonneg XP.out.1
            have BB := Lib.hid bb
            obtain ⟨bb1, bb2, bb3, bb4, bb5, bb6, bb7, bb8⟩ := bb
            clear hh0 hl0 hvh hvl LA NX
            obtain ⟨-, x1⟩ := QC.out _ R.out.2.2
            obtain ⟨-, y1, y2, f1, f2⟩ := rw_cells R.out.2.1 LP.out LA2.out
            have WR1 : Hid (IntKind.i64.wrap (h0 + IntKind.i64.wrap vh) = h0 + vh) := Lib.hid (by rw [wrap_in (x := vh) (by omega) (by omega)]; exact wrap_in (by omega) (by omega))
            have WR2 : Hid (IntKind.i64.wrap (l0 + vl) = l0 + vl) := Lib.hid (wrap_in (by omega) (by omega))
            have hq3 : (l0 + vl).tdiv 4294967296 = (l0 + vl) / HH := Int.tdiv_eq_ediv_of_nonneg (by omega)
            have hq4 : (l0 + vl).tmod 4294967296 = (l0 + vl) % HH := Int.tmod_eq_emod_of_nonneg (by omega)
            obtain ⟨ch, hch⟩ : ∃ y, y = (l0 + vl) / HH := ⟨_, rfl⟩
            obtain ⟨cl, hcl⟩ : ∃ y, y = (l0 + vl) % HH := ⟨_, rfl⟩
            have cb : 0 ≤ ch ∧ ch ≤ 2 ∧ 0 ≤ cl ∧ cl < 4294967296 := by rw [hch, hcl]; unfold HH; omega
            obtain ⟨cb1, cb2, cb3, cb4⟩ := cb
            rw [← hch] at hq3 NX2
            rw [← hcl] at hq4 NX2
            clear hch hcl
            have WR3 : Hid (IntKind.i64.wrap (h0 + vh + IntKind.i64.wrap ch) = h0 + vh + ch) := Lib.hid (by rw [wrap_in (x := ch) (by omega) (by omega)]; exact wrap_in (by omega) (by omega))
            clear y2 f2
            go_region_law (fail)
            all_goals
              rw [WR1.out]
              have Z2 := Lib.hid (rw_turn R.out.2.1 LP.out LA2.out 1 (by decide) ⟨nm, h0 + vh, l0⟩ (.int .i64 (h0 + vh)) rfl R.out.2.2 hBg)
              obtain ⟨W2, hW2⟩ : ∃ W2, W2 = (wr.setCell ⟨g, p * 3 + 1, none⟩ (.int .i64 (h0 + vh))).drew := ⟨_, rfl⟩
              rw [← hW2] at Z2 ⊢
              clear hW2 x1 y1 f1
              obtain ⟨-, x1⟩ := QC.out _ Z2.out.2.2
              obtain ⟨-, y1, y2, f1, f2⟩ := rw_cells Z2.out.1 Z2.out.2.1.1 Z2.out.2.1.2
              clear y1 f1
              go_wp2_with fail
              go_region_law (fail)
              all_goals
                rw [WR2.out]
                have Z3 := Lib.hid (rw_turn Z2.out.1 Z2.out.2.1.1 Z2.out.2.1.2 2 (by decide) ⟨nm, h0 + vh, l0 + vl⟩ (.int .i64 (l0 + vl)) rfl Z2.out.2.2 hBg)
                obtain ⟨W3, hW3⟩ : ∃ W3, W3 = (W2.setCell ⟨g, p * 3 + 2, none⟩ (.int .i64 (l0 + vl))).drew := ⟨_, rfl⟩
                rw [← hW3] at Z3 ⊢
                clear hW3 x1 y2 f2
                obtain ⟨-, y1, y2, f1, f2⟩ := rw_cells Z3.out.1 Z3.out.2.1.1 Z3.out.2.1.2
                clear f2
                go_wp2_with fail
                go_region_law (fail)
                all_goals
                  rw [WR3.out]
                  have Z4 := Lib.hid (rw_turn Z3.out.1 Z3.out.2.1.1 Z3.out.2.1.2 1 (by decide) ⟨nm, h0 + vh + ch, l0 + vl⟩ (.int .i64 (h0 + vh + ch)) rfl Z3.out.2.2 hBg)
                  obtain ⟨W4, hW4⟩ : ∃ W4, W4 = (W3.setCell ⟨g, p * 3 + 1, none⟩ (.int .i64 (h0 + vh + ch))).drew := ⟨_, rfl⟩
                  rw [← hW4] at Z4 ⊢
                  clear hW4 y1 y2 f1
                  obtain ⟨-, y1, y2, f1, f2⟩ := rw_cells Z4.out.1 Z4.out.2.1.1 Z4.out.2.1.2
                  clear f1 y1
                  go_wp2_with fail
                  have Z5 := Lib.hid (rw_turn0 Z4.out.1 Z4.out.2.1.1 Z4.out.2.1.2 2 (by decide) ⟨nm, h0 + vh + ch, cl⟩ (.int .i64 cl) rfl Z4.out.2.2 hBg)
                  obtain ⟨W5, hW5⟩ : ∃ W5, W5 = W4.setCell ⟨g, p * 3 + 2, none⟩ (.int .i64 cl) := ⟨_, rfl⟩
                  rw [← hW5] at Z5 ⊢
                  clear hW5 y2 f2
                  have Z6 : Hid (OwnR kRw w0.heap.size W5 (.slice (some ⟨g, 0, none⟩) m c) (rws (es ++ pre h (l.take (k + 1)))) ∧ Below w0.heap.size w0 W5) := Lib.hid ⟨by
                    have q := Z5.out.1
                    rw [List.set_set, List.set_set, List.set_set] at q
                    rw [NX2.out]; exact q, Z5.out.2.2⟩
                  go_wp2_with fail
                  go_roundg (n - (k + 1))
                  case measure => have := R.out.1; omega
                  case rel => exact ⟨k + 1, some ⟨g, 0, none⟩, m, c, by omega, rfl, by go_num, rfl, Z6.out.1, Z6.out.2⟩
      · have hml : m < 4000000 := bm
        go_loopg [9, 10] m (fun g0 sa sj wq => ∃ (j : Nat), j ≤ m ∧ g0 = m - j ∧ sj = .int .i64 j ∧ sa = .int .i64 (-1) ∧ wq = W1)
        case atStart => exact ⟨0, Nat.zero_le _, rfl, rfl, rfl, rfl⟩
        case round =>
          obtain ⟨j, hj, hgj, rfl, rfl, rfl⟩ := hrel
          have RS : Hid (gk = m - j) := Lib.hid hgj
          clear hgj
          by_cases hltj : j < m
          · have hltj' : (j : Int) < (m : Int) := by omega
            have hjl : j < (nmF E).length := by rw [← rws_len, LM.out]; exact hltj
            obtain ⟨gb, goff, rfl, hcc⟩ := (R.out.2.1.row okRw).at j (by rw [LM.out]; exact hltj)
            have ra := rws_at E j hjl
            rw [show kRw.z = rwZ from rfl, ra] at hcc
            obtain ⟨nj, hnj⟩ : ∃ nj : ByteArray, nj = ⟨((nmF E).getD j []).toArray⟩ := ⟨_, rfl⟩
            have n0 : wr.cell? ⟨gb, goff + j * 3, none⟩ = some (.string nj) := by
              have := hcc 0 _ rfl
              rw [hnj]; exact this
            have ge : (nj.toList == nm.toList) = false := teq_no (by
              rw [hnj]
              intro e
              have e2 := congrArg (fun b : ByteArray => b.data.toList) e
              refine hin ?_
              have e3 : (nmF E).getD j [] = nm.data.toList := by simpa using e2
              rw [← e3]; exact getD_in hjl)
            have HI := Lib.hid hin
            clear hcc ra hnj hjl hin
            go_wp2_with fail
            go_roundg (m - (j + 1))
            case measure => have := RS.out; omega
            case rel => exact ⟨j + 1, by omega, rfl, by go_num, rfl, rfl⟩
          · have LN : Hid (((rws E).length + 1) * kRw.b ≤ 140737488355328) := Lib.hid (by rw [LM.out]; show (m + 1) * 32 ≤ 140737488355328; omega)
            have HI := Lib.hid hin
            have WZ : Hid (w0.heap.size ≤ wr.heap.size) := Lib.hid R.out.2.2.size
            clear hin RS
            go_wp2_with (at_builtin; refine app_rowB okRw (gg := wr.heap.size) rfl _ _ rfl rfl R.out.2.1 WZ.out ⟨nm, 0, 0⟩ (by simp) rfl rfl LN.out ?_; intro v' w' h1 h2)
            have W2B : Hid (Below w0.heap.size w0 w') := Lib.hid (R.out.2.2.trans (grown_belowR h2 R.out.2.1 WZ.out))
            obtain ⟨g, c', ev, hBg⟩ : ∃ g c', v' = .slice (some ⟨g, 0, none⟩) (m + 1) c' ∧ w0.heap.size ≤ g := by
              obtain ⟨a2, c2, rfl⟩ := h1.slice
              obtain ⟨g, rfl, -, q, -⟩ := h1.someOf (by simp)
              exact ⟨g, c2, by rw [List.length_append, LM.out]; rfl, q⟩
            subst ev
            obtain ⟨L, hL⟩ : ∃ L, L = rws E ++ [(⟨nm, 0, 0⟩ : Rw)] := ⟨_, rfl⟩
            rw [← hL] at h1
            obtain ⟨p, hp⟩ : ∃ p, p = m := ⟨_, rfl⟩
            have Z1 : Hid (OwnR kRw w0.heap.size w' (.slice (some ⟨g, 0, none⟩) (m + 1) c') L ∧ Below w0.heap.size w0 w') := Lib.hid ⟨h1, W2B.out⟩
            have T0 : Hid (Tot E nm.data.toList = 0) := Lib.hid (Tot_none (fun q => HI.out ((mem_nmF _ _).2 q)))
            have LA : Hid (L.getD p rwZ = rwV nm.data.toList (Tot E nm.data.toList)) := Lib.hid (by
              rw [hL, hp, getD_snoc, LM.out, if_neg (by omega), if_pos rfl, T0.out]
              unfold rwV
              rw [arr_txt]; rfl)
            have NX : Hid (rws (es ++ pre h (l.take (k + 1))) = L.set p (rwV nm.data.toList (Tot E nm.data.toList + xv))) := Lib.hid (by
              have q := rws_new E nm.data.toList xv HI.out
              rw [LM.out, arr_txt] at q
              rw [EN.out, q, hL, hp, T0.out, Int.zero_add])
            have LM2 : Hid (L.length = m + 1) := Lib.hid (by rw [hL, List.length_append, LM.out]; rfl)
            rw [← hp] at LM2 Z1 ⊢
            have PM := Lib.hid hp
            obtain ⟨m2, hm2⟩ : ∃ m2, m2 = p + 1 := ⟨_, rfl⟩
            rw [← hm2] at LM2 Z1 ⊢
            have hpm : p < m2 := by omega
            have RG := Lib.hid R.out.1
            clear LM R h1 h2 hL LN WZ W2B hp hm2
            have LM := LM2
            have R := Lib.hid (And.intro RG.out Z1.out)
            clear LM2 Z1 RG
            have LP : Hid (p < L.length) := Lib.hid (by rw [LM.out]; exact hpm)
            have hpm' : (p : Int) < (m2 : Int) := by omega
            obtain ⟨h0, hh0⟩ : ∃ y, y = Tot E nm.data.toList / HH := ⟨_, rfl⟩
            obtain ⟨l0, hl0⟩ : ∃ y, y = Tot E nm.data.toList % HH := ⟨_, rfl⟩
            obtain ⟨vh, hvh⟩ : ∃ y, y = xv / HH := ⟨_, rfl⟩
            obtain ⟨vl, hvl⟩ : ∃ y, y = xv % HH := ⟨_, rfl⟩
            have LA2 : Hid (L.getD p rwZ = ⟨nm, h0, l0⟩) := Lib.hid (by rw [LA.out, hh0, hl0]; unfold rwV; rw [arr_txt])
            have NX2 : Hid (rws (es ++ pre h (l.take (k + 1))) = L.set p ⟨nm, h0 + vh + (l0 + vl) / HH, (l0 + vl) % HH⟩) := Lib.hid (by
              rw [NX.out, hh0, hl0, hvh, hvl, (half_step _ _).1, (half_step _ _).2]; unfold rwV; rw [arr_txt])
            have bb : 0 ≤ h0 ∧ h0 ≤ 9007199254740992 ∧ 0 ≤ l0 ∧ l0 < 4294967296 ∧ 0 ≤ vh ∧ vh ≤ 2147483647 ∧ 0 ≤ vl ∧ vl < 4294967296 := by
              have q1 := TB.out
              have q2 := XP.out
              rw [hh0, hl0, hvh, hvl]
              unfold HH
              omega
            have hq1 : xv.tdiv 4294967296 = vh := by rw [hvh]; exact Int.tdiv_eq_ediv_of_nonneg XP.out.1
            have hq2 : xv.tmod 4294967296 = vl := by rw [hvl]; exact Int.tmod_eq_emod_of_nonneg XP.out.1
            have BB := Lib.hid bb
            obtain ⟨bb1, bb2, bb3, bb4, bb5, bb6, bb7, bb8⟩ := bb
            clear hh0 hl0 hvh hvl LA NX
            obtain ⟨-, x1⟩ := QC.out _ R.out.2.2
            obtain ⟨-, y1, y2, f1, f2⟩ := rw_cells R.out.2.1 LP.out LA2.out
            have WR1 : Hid (IntKind.i64.wrap (h0 + IntKind.i64.wrap vh) = h0 + vh) := Lib.hid (by rw [wrap_in (x := vh) (by omega) (by omega)]; exact wrap_in (by omega) (by omega))
            have WR2 : Hid (IntKind.i64.wrap (l0 + vl) = l0 + vl) := Lib.hid (wrap_in (by omega) (by omega))
            have hq3 : (l0 + vl).tdiv 4294967296 = (l0 + vl) / HH := Int.tdiv_eq_ediv_of_nonneg (by omega)
            have hq4 : (l0 + vl).tmod 4294967296 = (l0 + vl) % HH := Int.tmod_eq_emod_of_nonneg (by omega)
            obtain ⟨ch, hch⟩ : ∃ y, y = (l0 + vl) / HH := ⟨_, rfl⟩
            obtain ⟨cl, hcl⟩ : ∃ y, y = (l0 + vl) % HH := ⟨_, rfl⟩
            have cb : 0 ≤ ch ∧ ch ≤ 2 ∧ 0 ≤ cl ∧ cl < 4294967296 := by rw [hch, hcl]; unfold HH; omega
            obtain ⟨cb1, cb2, cb3, cb4⟩ := cb
            rw [← hch] at hq3 NX2
            rw [← hcl] at hq4 NX2
            clear hch hcl
            have WR3 : Hid (IntKind.i64.wrap (h0 + vh + IntKind.i64.wrap ch) = h0 + vh + ch) := Lib.hid (by rw [wrap_in (x := ch) (by omega) (by omega)]; exact wrap_in (by omega) (by omega))
            clear y2 f2
            go_region_law (fail)
            all_goals
              rw [WR1.out]
              have Z2 := Lib.hid (rw_turn R.out.2.1 LP.out LA2.out 1 (by decide) ⟨nm, h0 + vh, l0⟩ (.int .i64 (h0 + vh)) rfl R.out.2.2 hBg)
              obtain ⟨W2, hW2⟩ : ∃ W2, W2 = (w'.setCell ⟨g, p * 3 + 1, none⟩ (.int .i64 (h0 + vh))).drew := ⟨_, rfl⟩
              rw [← hW2] at Z2 ⊢
              clear hW2 x1 y1 f1
              obtain ⟨-, x1⟩ := QC.out _ Z2.out.2.2
              obtain ⟨-, y1, y2, f1, f2⟩ := rw_cells Z2.out.1 Z2.out.2.1.1 Z2.out.2.1.2
              clear y1 f1
              go_wp2_with fail
              go_region_law (fail)
              all_goals
                rw [WR2.out]
                have Z3 := Lib.hid (rw_turn Z2.out.1 Z2.out.2.1.1 Z2.out.2.1.2 2 (by decide) ⟨nm, h0 + vh, l0 + vl⟩ (.int .i64 (l0 + vl)) rfl Z2.out.2.2 hBg)
                obtain ⟨W3, hW3⟩ : ∃ W3, W3 = (W2.setCell ⟨g, p * 3 + 2, none⟩ (.int .i64 (l0 + vl))).drew := ⟨_, rfl⟩
                rw [← hW3] at Z3 ⊢
                clear hW3 x1 y2 f2
                obtain ⟨-, y1, y2, f1, f2⟩ := rw_cells Z3.out.1 Z3.out.2.1.1 Z3.out.2.1.2
                clear f2
                go_wp2_with fail
                go_region_law (fail)
                all_goals
                  rw [WR3.out]
                  have Z4 := Lib.hid (rw_turn Z3.out.1 Z3.out.2.1.1 Z3.out.2.1.2 1 (by decide) ⟨nm, h0 + vh + ch, l0 + vl⟩ (.int .i64 (h0 + vh + ch)) rfl Z3.out.2.2 hBg)
                  obtain ⟨W4, hW4⟩ : ∃ W4, W4 = (W3.setCell ⟨g, p * 3 + 1, none⟩ (.int .i64 (h0 + vh + ch))).drew := ⟨_, rfl⟩
                  rw [← hW4] at Z4 ⊢
                  clear hW4 y1 y2 f1
                  obtain ⟨-, y1, y2, f1, f2⟩ := rw_cells Z4.out.1 Z4.out.2.1.1 Z4.out.2.1.2
                  clear f1 y1
                  go_wp2_with fail
                  have Z5 := Lib.hid (rw_turn0 Z4.out.1 Z4.out.2.1.1 Z4.out.2.1.2 2 (by decide) ⟨nm, h0 + vh + ch, cl⟩ (.int .i64 cl) rfl Z4.out.2.2 hBg)
                  obtain ⟨W5, hW5⟩ : ∃ W5, W5 = W4.setCell ⟨g, p * 3 + 2, none⟩ (.int .i64 cl) := ⟨_, rfl⟩
                  rw [← hW5] at Z5 ⊢
                  clear hW5 y2 f2
                  have Z6 : Hid (OwnR kRw w0.heap.size W5 (.slice (some ⟨g, 0, none⟩) m2 c') (rws (es ++ pre h (l.take (k + 1)))) ∧ Below w0.heap.size w0 W5) := Lib.hid ⟨by
                    have q := Z5.out.1
                    rw [List.set_set, List.set_set, List.set_set] at q
                    rw [NX2.out]; exact q, Z5.out.2.2⟩
                  go_wp2_with fail
                  go_roundg (n - (k + 1))
                  case measure => have := R.out.1; omega
                  case rel => exact ⟨k + 1, some ⟨g, 0, none⟩, m2, c', by omega, rfl, by go_num, rfl, Z6.out.1, Z6.out.2⟩
    · have E : Hid (l.take k = l ∧ k = n) := Lib.hid ⟨List.take_of_length_le (by rw [← HN.out]; omega), by omega⟩
      have R : Hid (OwnR kRw w0.heap.size wr (.slice a' m c) (rws (es ++ pre h (l.take k))) ∧ Below w0.heap.size w0 wr) := Lib.hid ⟨ho, hb⟩
      clear ho hb hg
      go_wp2_with fail
      go_ret
      refine ⟨a', m, c, rfl, ?_, R.out.2⟩
      have := R.out.1; rw [E.out.1] at this; exact this
end Go.Proofs.YtibjmmfodelhjaaDoor
