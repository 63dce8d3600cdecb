/-
  Links, Chain.
-/
import Derived.Test.YtindkmgoiiicaaaPgZ
namespace Go.Proofs.Ytindkmgoiiicaaa
open Go.RowKit Go.Maps
def lnk (v : ByteArray) : Nat := if v.size ≤ 64 then 0 else (v.size + 499) / 500
set_option maxHeartbeats 400000 in
theorem Links_any (t : ByteArray) (w : World) (hs : t.size ≤ 140737488355328) : Calls Try.prog 13 #[.string t] w fun e w' => e = .returned (.int .i64 (lnk t : Int)) ∧ w' = w := by
  unfold lnk
  by_cases h : t.size ≤ 64
  · have d : decide ((t.size : Int) ≤ 64) = true := decide_eq_true (by omega)
    rw [if_pos h]
    go_enter Try.func13, Try.ntmps13
    go_wp2_with fail
    go_ret
    exact ⟨rfl, rfl⟩
  · have d : decide ((t.size : Int) ≤ 64) = false := decide_eq_false (by omega)
    rw [if_neg h]
    go_enter Try.func13, Try.ntmps13
    go_wp2_with fail
    go_ret
    exact ⟨ret_int (by omega), rfl⟩
/-- A page of a chain: where it goes on, its bytes. -/
abbrev Cp := Int × ByteArray
def encC (p : Cp) : List Value := [.int .i64 3, .slice none 0 0, .slice none 0 0, .slice none 0 0, .slice none 0 0, .int .i64 p.1, .string p.2]
def cellsC (ps : List Cp) : List Value := ps.flatMap encC
theorem cellsC_app (ps qs : List Cp) : cellsC (ps ++ qs) = cellsC ps ++ cellsC qs := by simp [cellsC]
theorem encC_one (p : Cp) : ∀ u ∈ encC p, u.oneCell' = true := by
  intro u hu
  simp only [encC, List.mem_cons, List.not_mem_nil, or_false] at hu
  rcases hu with rfl | rfl | rfl | rfl | rfl | rfl | rfl <;> rfl
/-- The slice v is the call's own and holds these pages. -/
def OwnC (B : Nat) (w : World) (v : Value) (ps : List Cp) : Prop := w.ownsRow B 27 7 v ps.length (cellsC ps)
theorem info_node : (Try.prog.info? 27).map (fun i => (i.zero, i.size, i.bytes)) = some (some (.agg #[.int .i64 0, .slice none 0 0, .slice none 0 0, .slice none 0 0, .slice none 0 0, .int .i64 0, .string ⟨#[]⟩]), 7, 128) := by kernel_rfl
theorem OwnC.lt {B : Nat} {w : World} {v : Value} {l : List Cp} (h : OwnC B w v l) : ∀ k, v.ownBlock = some k → B ≤ k ∧ k < w.heap.size := World.ownsRow.lt h
theorem OwnC.kept {B : Nat} {F : Nat → Prop} {w w' : World} {v : Value} {l : List Cp} (H : OwnC B w v l) (hk : Kept F w w') (hF : ∀ k, v.ownBlock = some k → ¬ F k) : OwnC B w' v l := by
  obtain ⟨h1, h | ⟨g, cap, cur, hv, hB, hg, hr⟩⟩ := H
  · exact ⟨h1, .inl h⟩
  · subst hv
    exact ⟨h1, .inr ⟨g, cap, cur, rfl, hB, by rw [hk.block g (lt_of_heap hg) (hF g rfl)]; exact hg, hr⟩⟩
theorem OwnC.len {B : Nat} {w : World} {v : Value} {l : List Cp} (h : OwnC B w v l) : ∃ a cap, v = .slice a l.length cap ∧ l.length ≤ cap ∧ cap ≤ 9223372036854775807 := by
  obtain ⟨_, ⟨hv, hn⟩ | ⟨g, cap, cur, hv, hb, hg, hn, hm, hs, ht⟩⟩ := h
  · exact ⟨none, 0, by rw [hv, hn], by omega, by decide⟩
  · exact ⟨_, cap, hv, hn, by unfold maxLen at hm; omega⟩
theorem app_node {ops : Array Oper} {rest : List Oper} {o : Oper} {a : Act} {Q : Exit → Act → World → Prop} (hgd : o.guard = none) (s x : Operand)
    (ho : o.op = .call { callee := .builtin .append, args := #[s, x], argTypes := #[36, 36] })
    {B : Nat} {w0 : World} {v : Value} {ps : List Cp} (hs : a.eval s = v) (hown : OwnC B w0 v ps) (hB : B ≤ w0.heap.size) (nx : Int) (d : ByteArray)
    (hx : a.eval x = .slice (some ⟨w0.heap.size, 0, none⟩) 1 1) (hl : ps.length ≤ 1000000)
    (h : ∀ v' w', Hid (OwnC B w' v' (ps ++ [(nx, d)]) ∧ w0.grownBy w' v.ownBlock) → wpList Try.prog ops Q rest (a.put o.dst v') w') :
    wpList Try.prog ops Q (o :: rest) a (w0.alloc (.cells #[.int .i64 3, .slice none 0 0, .slice none 0 0, .slice none 0 0, .slice none 0 0, .int .i64 nx, .string d] 27)) := by
  obtain ⟨i0, hi, hz0, hz1, hz2⟩ := info_parts info_node
  refine wpList_append_own_at _ hgd s x 36 ho B 27 i0 _ 7 128 Try.underlying36 hi hz0 hz1 hz2 rfl (by decide) v ps.length (cellsC ps) hs (World.ownsRow.alloc hown _) ⟨w0.heap.size, 0, none⟩ 1 1 (encC (nx, d)) hx rfl ?_ (encC_one (nx, d)) (by unfold maxLen; omega) (by omega) (by simp; omega) ?_
  · intro j u hj
    rw [add_plain, Nat.zero_add, World.cell?_alloc_new, ← Array.getElem?_toList]; exact hj
  · intro v' w' h1 h2 _ _
    refine h v' w' (Lib.hid ⟨?_, grown_alloc h2⟩)
    show w'.ownsRow _ _ _ _ _ _
    rw [cellsC_app, List.length_append]
    have e : cellsC [(nx, d)] = encC (nx, d) := by simp [cellsC]
    rw [e]
    exact h1
theorem wp_minI {ops : Array Oper} {rest : List Oper} {o : Oper} {a : Act} {w : World} {Q : Exit → Act → World → Prop} (x y : Operand) (ts : Array TypeId)
    (ho : o.op = .call { callee := .builtin .min, args := #[x, y], argTypes := ts }) (hw : Region.wanted o (yielded ops a.tmps) = true) (p q M : Int) (hx : a.eval x = .int .i64 p) (hy : a.eval y = .int .i64 q) (hM : (if q < p then q else p) = M)
    (h : wpList Try.prog ops Q rest (a.put o.dst (.int .i64 M)) w) : wpList Try.prog ops Q (o :: rest) a w := by
  rw [wpList, if_pos hw]
  refine .inl ?_
  unfold Oper.wp execOp
  simp only [ho, resolve, invoke, builtin, Sem.run_bind, Sem.run_pure, Result.andThen_ok, List.map_toArray, List.map_cons, List.map_nil, hx, hy, run_min_int2, hM]
  exact h
/-- The pages of a value's chain. -/
def pgs (t : ByteArray) (bl : List Int) : List Cp := (List.range bl.length).map fun k => (bl.getD (k + 1) 0, t.extract (500 * k) (min (500 * k + 500) t.size))
theorem pgs_length (t : ByteArray) (bl : List Int) : (pgs t bl).length = bl.length := by unfold pgs; rw [List.length_map, List.length_range]
theorem pgs_next (t : ByteArray) (bl : List Int) (k : Nat) (h : k < bl.length) : (pgs t bl).take (k + 1) = (pgs t bl).take k ++ [(bl.getD (k + 1) 0, t.extract (500 * k) (min (500 * k + 500) t.size))] := by
  rw [take_oneI _ k (0, ⟨#[]⟩) (by rw [pgs_length]; exact h)]
  congr 2
  unfold pgs
  rw [List.getD_eq_getElem?_getD, List.getElem?_map, List.getElem?_eq_getElem (by rw [List.length_range]; exact h)]
  simp
/-- What Chain tells. -/
def chR (t : ByteArray) (bl : List Int) : List Cp × Int := if 8192 < t.size then ([], 23) else if bl.length = lnk t ∧ unlB bl = true then (pgs t bl, 0) else ([], 1)
set_option maxHeartbeats 8000000 in
set_option maxRecDepth 100000 in
theorem Chain_any (t : ByteArray) (v : Value) (bl : List Int) (w : World) (hv : Ints w v bl) (hz : In64 bl) (hs : t.size ≤ 140737488355328) :
    Calls Try.prog 14 #[.string t, v] w fun e w' => ∃ vl, e = .returned (.tuple #[vl, .int .i64 (chR t bl).2]) ∧ OwnC w.heap.size w' vl (chR t bl).1 ∧ Below w.heap.size w w' := by
  have V := Lib.hid hv
  have LK := Lib.hid (fun W => Links_any t W hs)
  have UN : Hid (Calls Try.prog 35 #[v] w fun e w' => e = .returned (.bool (unlB bl)) ∧ Below w.heap.size w w') := Lib.hid (unlike_any v bl w hv hz)
  obtain ⟨r, hr⟩ : ∃ r, r = chR t bl := ⟨_, rfl⟩
  rw [← hr]
  have RR := Lib.hid hr
  unfold chR at RR
  obtain ⟨a, cap, rfl, hlc, hcm⟩ := hv.len
  unfold maxLen at hcm
  obtain ⟨n, hn⟩ : ∃ n, n = bl.length := ⟨_, rfl⟩
  obtain ⟨K, hK⟩ : ∃ K, K = lnk t := ⟨_, rfl⟩
  rw [← hK] at LK
  rw [← hn, ← hK] at RR
  rw [← hn] at UN hlc ⊢
  have HN := Lib.hid hn
  have HK := Lib.hid hK
  clear hv hz hr hn hK
  by_cases h1 : 8192 < t.size
  · have d1 : decide ((t.size : Int) > 8192) = true := decide_eq_true (by omega)
    have d1' : decide (8192 < t.size) = true := decide_eq_true h1
    rw [if_pos h1] at RR
    clear h1
    go_enter Try.func14, Try.ntmps14
    go_wp2_with fail
    go_ret2
    exact ⟨_, by rw [RR.out]; rfl, by rw [RR.out]; exact World.ownsRow_nil _ _ _ _, Below.refl _ _⟩
  have d1 : decide ((t.size : Int) > 8192) = false := decide_eq_false (by omega)
  have d1' : decide (8192 < t.size) = false := decide_eq_false h1
  rw [if_neg h1] at RR
  by_cases h2 : n = K
  case neg =>
    have d2 : ((n : Int) != (K : Int)) = true := by rw [bne_iff_ne]; omega
    rw [if_neg (fun h => h2 h.1)] at RR
    clear h1 h2
    go_enter Try.func14, Try.ntmps14
    go_wp2_with (go_at_call 13; refine (LK.out _).mono ?_; rintro e w' ⟨rfl, rfl⟩)
    go_ret2
    exact ⟨_, by rw [RR.out]; rfl, by rw [RR.out]; exact World.ownsRow_nil _ _ _ _, Below.refl _ _⟩
  subst h2
  have d2 : ((n : Int) != (n : Int)) = false := by simp
  cases h3 : unlB bl with
  | false =>
    rw [if_neg (fun h => by rw [h3] at h; exact absurd h.2 Bool.false_ne_true)] at RR
    rw [h3] at UN
    clear h1 h3
    go_enter Try.func14, Try.ntmps14
    go_wp2_with (first | (go_at_call 13; refine (LK.out _).mono ?_; rintro e w' ⟨rfl, rfl⟩) | (go_at_call 35; refine UN.out.mono ?_; rintro e w1 ⟨rfl, hb⟩; have B1 := Lib.hid hb; clear hb))
    go_ret2
    exact ⟨_, by rw [RR.out]; rfl, by rw [RR.out]; exact World.ownsRow_nil _ _ _ _, B1.out⟩
  | true =>
    rw [if_pos ⟨rfl, h3⟩] at RR
    rw [h3] at UN
    clear h3
    have n17 : n ≤ 17 := by rw [HK.out]; unfold lnk; split <;> omega
    have n50 : Hid (∀ k, k < n → 500 * k < t.size) := Lib.hid (fun k hk => by
      have := HK.out
      unfold lnk at this
      split at this <;> omega)
    have hts : t.size ≤ 8192 := by omega
    clear h1
    go_enter Try.func14, Try.ntmps14
    go_wp2_with (first | (go_at_call 13; refine (LK.out _).mono ?_; rintro e w ⟨rfl, rfl⟩) | (go_at_call 35; refine UN.out.mono ?_; rintro e w1 ⟨rfl, hb⟩; have B1 := Lib.hid hb; clear hb))
    clear UN LK
    go_loopg [6, 25] n (fun gg s6 si wr => ∃ (k : Nat) (a6 : Option Addr) (c6 : Nat), k ≤ n ∧ gg = n - k ∧ si = .int .i64 k ∧ s6 = .slice a6 k c6 ∧ OwnC w.heap.size wr (.slice a6 k c6) ((pgs t bl).take k) ∧ Below w.heap.size w wr)
    case atStart => exact ⟨0, _, _, Nat.zero_le _, rfl, rfl, rfl, World.ownsRow_nil _ _ _ _, B1.out⟩
    case round =>
      obtain ⟨k, a6, c6, hk, hg, rfl, rfl, ho, hb⟩ := hrel
      have PL : Hid (((pgs t bl).take k).length = k) := Lib.hid (by rw [List.length_take, pgs_length, ← HN.out]; omega)
      have R : Aside (gk = n - k ∧ OwnC w.heap.size wr (.slice a6 k c6) ((pgs t bl).take k) ∧ Below w.heap.size w wr) := ⟨hg, ho, hb⟩
      clear hg ho hb
      by_cases hlt : k < n
      case neg =>
        have ek : (pgs t bl).take k = pgs t bl := List.take_of_length_le (by rw [pgs_length, ← HN.out]; omega)
        have O2 := Lib.hid R.out.2.1
        rw [ek] at O2
        go_wp2_with fail
        go_ret2
        exact ⟨_, by rw [RR.out]; rfl, by rw [RR.out]; exact O2.out, R.out.2.2⟩
      have hlt' : (k : Int) < (n : Int) := by omega
      have h50 : 500 * k < t.size := n50.out k hlt
      have PN := Lib.hid (pgs_next t bl k (by rw [← HN.out]; exact hlt))
      obtain ⟨M, hM⟩ : ∃ M, M = min (500 * k + 500) t.size := ⟨_, rfl⟩
      obtain ⟨d, hd⟩ : ∃ d, d = t.extract (500 * k) M := ⟨_, rfl⟩
      rw [← hM, ← hd] at PN
      have MI : Hid ((if (t.size : Int) < 500 * (k : Int) + 500 then (t.size : Int) else 500 * (k : Int) + 500) = (M : Int)) := Lib.hid (by split <;> omega)
      have hM1 : 500 * k ≤ M := by omega
      have hM2 : M ≤ t.size := by omega
      have hM3 : 500 * (k : Int) ≤ (M : Int) := by omega
      have hM4 : (M : Int) ≤ (t.size : Int) := by omega
      obtain ⟨g8, hg8⟩ : ∃ g8, g8 = wr.heap.size := ⟨_, rfl⟩
      obtain ⟨Z, hZ⟩ : ∃ Z, Z = wr.alloc (.cells #[.int .i64 0, .slice none 0 0, .slice none 0 0, .slice none 0 0, .slice none 0 0, .int .i64 0, .string ⟨#[]⟩] 27) := ⟨_, rfl⟩
      obtain ⟨Z1, hZ1⟩ : ∃ Z1, Z1 = Z.setRow g8 #[.int .i64 3, .slice none 0 0, .slice none 0 0, .slice none 0 0, .slice none 0 0, .int .i64 0, .string ⟨#[]⟩] := ⟨_, rfl⟩
      have GZ : Hid (Z.heap[g8]? = some (.cells #[.int .i64 0, .slice none 0 0, .slice none 0 0, .slice none 0 0, .slice none 0 0, .int .i64 0, .string ⟨#[]⟩] 27 (0, 0))) := Lib.hid (by rw [hZ, hg8]; exact heap_alloc_new _ _)
      have G1 : Z1.heap[g8]? = some (.cells #[.int .i64 3, .slice none 0 0, .slice none 0 0, .slice none 0 0, .slice none 0 0, .int .i64 0, .string ⟨#[]⟩] 27 (0, 0)) := by rw [hZ1]; exact setRow_heap _ _ _ _ _ _ GZ.out
      have BZ : Below w.heap.size w Z := by rw [hZ]; exact R.out.2.2.alloc R.out.2.2.size _
      have KZ : Kept (fun y => y = g8) Z Z1 := by rw [hZ1]; exact kept_setRow _ _ _
      have B1 : Below w.heap.size w Z1 := BZ.trans (KZ.below BZ.size (fun x hx => by have := R.out.2.2.size; omega))
      have O1 : OwnC w.heap.size Z1 (.slice a6 k c6) ((pgs t bl).take k) := (R.out.2.1.kept (show Kept (fun _ => False) wr Z by rw [hZ]; exact Below.kept ((Below.refl _ _).alloc (Nat.le_refl _) _) _) (fun _ _ h => h)).kept KZ (fun g hg e => by have := (R.out.2.1.lt g hg).2; omega)
      have ON : Hid ((#[.int .i64 3, .slice none 0 0, .slice none 0 0, .slice none 0 0, .slice none 0 0, .int .i64 0, .string ⟨#[]⟩] : Array Value).all (·.oneCell') = true) := Lib.hid (by simp [Value.oneCell'])
      have BI : Hid (Below w.heap.size w Z1) := Lib.hid B1
      have P9 : Hid (((pgs t bl).take k).length ≤ 1000000) := Lib.hid (by rw [PL.out]; omega)
      have HD := Lib.hid (And.intro hd hM)
      have hd' := hd.symm
      clear BZ KZ hM hd
      by_cases hmo : k + 1 < n
      · have hmo' : (k : Int) + 1 < (n : Int) := by omega
        obtain ⟨b, off, ha, c0⟩ := (V.out.below BI.out).at (k + 1) (by rw [← HN.out]; exact hmo)
        obtain ⟨nx, hnx⟩ : ∃ nx, nx = bl.getD (k + 1) 0 := ⟨_, rfl⟩
        rw [← hnx] at c0 PN
        subst ha
        clear hnx
        obtain ⟨Z2, hZ2⟩ : ∃ Z2, Z2 = Z1.setCell ⟨g8, 5, none⟩ (.int .i64 nx) := ⟨_, rfl⟩
        obtain ⟨Z3, hZ3⟩ : ∃ Z3, Z3 = Z2.setCell ⟨g8, 6, none⟩ (.string d) := ⟨_, rfl⟩
        have G2 : Z2.heap[g8]? = some (.cells #[.int .i64 3, .slice none 0 0, .slice none 0 0, .slice none 0 0, .slice none 0 0, .int .i64 nx, .string ⟨#[]⟩] 27 (0, 0)) := by rw [hZ2]; rw [heap_setCell_same _ _ _ _ _ _ G1]; rfl
        have G3 : Z3.heap[g8]? = some (.cells #[.int .i64 3, .slice none 0 0, .slice none 0 0, .slice none 0 0, .slice none 0 0, .int .i64 nx, .string d] 27 (0, 0)) := by rw [hZ3, heap_setCell_same _ _ _ _ _ _ G2]; rfl
        have K3 : Kept (fun y => y = g8) Z1 Z3 := by
          rw [hZ3, hZ2]
          exact (kept_set (F := fun y => y = g8) _ _ _ rfl).trans (kept_set (F := fun y => y = g8) _ _ _ rfl) (fun _ _ h => h)
        have S3 : Hid (OwnC w.heap.size Z3 (.slice a6 k c6) ((pgs t bl).take k) ∧ Below w.heap.size w Z3 ∧ w.heap.size ≤ Z3.heap.size) := Lib.hid (by
          have hb := B1.trans (K3.below B1.size (fun x hx => by have := R.out.2.2.size; omega))
          exact ⟨O1.kept K3 (fun g hg e => by have := (R.out.2.1.lt g hg).2; omega), hb, hb.size⟩)
        have f5 : Z1.frozen? ⟨g8, 5, none⟩ = false := frozen_of_row _ _ _ _ _ G1
        have f6 : Z2.frozen? ⟨g8, 6, none⟩ = false := frozen_of_row _ _ _ _ _ G2
        obtain ⟨q0, q1, q2, q3, q4, q5, q6⟩ := node_cells G1
        obtain ⟨e0, e1, e2, e3, e4, e5, e6⟩ := node_cells G2
        obtain ⟨p0, p1, p2, p3, p4, p5, p6⟩ := node_cells G3
        have hZ1' := hZ1.symm; have hZ2' := hZ2.symm; have hZ3' := hZ3.symm; have hZ' := hZ.symm; have hg8' := hg8.symm
        clear hZ hZ1 hZ2 hZ3 hg8 G1 G2 G3 K3 B1 O1
        go_wp2_with (first | (refine wpList_store_row rfl 27 (.tmp 8) (.tmp 28) rfl g8 #[.int .i64 3, .slice none 0 0, .slice none 0 0, .slice none 0 0, .slice none 0 0, .int .i64 0, .string ⟨#[]⟩] rfl rfl 27 #[.int .i64 0, .slice none 0 0, .slice none 0 0, .slice none 0 0, .slice none 0 0, .int .i64 0, .string ⟨#[]⟩] GZ.out size_node rfl ON.out ?_; rw [hZ1']) | (refine wp_minI (.tmp 45) (.tmp 47) #[3, 3] rfl rfl (500 * (k : Int) + 500) (t.size : Int) (M : Int) rfl rfl MI.out ?_) | (refine app_node rfl (.tmp 51) (.tmp 53) rfl (B := w.heap.size) (w0 := Z3) (v := .slice a6 k c6) (ps := (pgs t bl).take k) rfl S3.out.1 S3.out.2.2 nx d rfl P9.out ?_; intro v7 w7 H7))
        obtain ⟨a7, c7, h7, -, -⟩ := H7.out.1.len
        rw [List.length_append, PL.out] at h7
        have h7' : v7 = .slice a7 (k + 1) c7 := h7
        subst h7'
        clear h7
        have B7 := Lib.hid (S3.out.2.1.trans ((grown_kept H7.out.2).below S3.out.2.1.size (fun x hx => (S3.out.1.lt x hx.symm).1)))
        go_wp2_with fail
        go_roundg (n - (k + 1))
        case measure => have := R.out.1; omega
        case rel => exact ⟨k + 1, a7, c7, by omega, rfl, by go_num, rfl, by rw [PN.out]; exact H7.out.1, B7.out⟩
      · have hmo' : ¬ ((k : Int) + 1 < (n : Int)) := by omega
        have hmd : decide ((k : Int) + 1 < (n : Int)) = false := decide_eq_false hmo'
        have hnx : bl.getD (k + 1) 0 = 0 := by rw [List.getD_eq_getElem?_getD, List.getElem?_eq_none (by rw [← HN.out]; omega)]; rfl
        rw [hnx] at PN
        clear hnx hmo
        obtain ⟨Z3, hZ3⟩ : ∃ Z3, Z3 = Z1.setCell ⟨g8, 6, none⟩ (.string d) := ⟨_, rfl⟩
        have G3 : Z3.heap[g8]? = some (.cells #[.int .i64 3, .slice none 0 0, .slice none 0 0, .slice none 0 0, .slice none 0 0, .int .i64 0, .string d] 27 (0, 0)) := by rw [hZ3, heap_setCell_same _ _ _ _ _ _ G1]; rfl
        have K3 : Kept (fun y => y = g8) Z1 Z3 := by rw [hZ3]; exact kept_set (F := fun y => y = g8) _ _ _ rfl
        have S3 : Hid (OwnC w.heap.size Z3 (.slice a6 k c6) ((pgs t bl).take k) ∧ Below w.heap.size w Z3 ∧ w.heap.size ≤ Z3.heap.size) := Lib.hid (by
          have hb := B1.trans (K3.below B1.size (fun x hx => by have := R.out.2.2.size; omega))
          exact ⟨O1.kept K3 (fun g hg e => by have := (R.out.2.1.lt g hg).2; omega), hb, hb.size⟩)
        have f6 : Z1.frozen? ⟨g8, 6, none⟩ = false := frozen_of_row _ _ _ _ _ G1
        obtain ⟨q0, q1, q2, q3, q4, q5, q6⟩ := node_cells G1
        obtain ⟨p0, p1, p2, p3, p4, p5, p6⟩ := node_cells G3
        have hZ1' := hZ1.symm; have hZ3' := hZ3.symm; have hZ' := hZ.symm; have hg8' := hg8.symm
        clear hZ hZ1 hZ3 hg8 G1 G3 K3 B1 O1
        go_wp2_with (first | (refine wpList_store_row rfl 27 (.tmp 8) (.tmp 28) rfl g8 #[.int .i64 3, .slice none 0 0, .slice none 0 0, .slice none 0 0, .slice none 0 0, .int .i64 0, .string ⟨#[]⟩] rfl rfl 27 #[.int .i64 0, .slice none 0 0, .slice none 0 0, .slice none 0 0, .slice none 0 0, .int .i64 0, .string ⟨#[]⟩] GZ.out size_node rfl ON.out ?_; rw [hZ1']) | (refine wp_minI (.tmp 45) (.tmp 47) #[3, 3] rfl rfl (500 * (k : Int) + 500) (t.size : Int) (M : Int) rfl rfl MI.out ?_) | (refine app_node rfl (.tmp 51) (.tmp 53) rfl (B := w.heap.size) (w0 := Z3) (v := .slice a6 k c6) (ps := (pgs t bl).take k) rfl S3.out.1 S3.out.2.2 0 d rfl P9.out ?_; intro v7 w7 H7))
        obtain ⟨a7, c7, h7, -, -⟩ := H7.out.1.len
        rw [List.length_append, PL.out] at h7
        have h7' : v7 = .slice a7 (k + 1) c7 := h7
        subst h7'
        clear h7
        have B7 := Lib.hid (S3.out.2.1.trans ((grown_kept H7.out.2).below S3.out.2.1.size (fun x hx => (S3.out.1.lt x hx.symm).1)))
        go_wp2_with fail
        go_roundg (n - (k + 1))
        case measure => have := R.out.1; omega
        case rel => exact ⟨k + 1, a7, c7, by omega, rfl, by go_num, rfl, by rw [PN.out]; exact H7.out.1, B7.out⟩
end Go.Proofs.Ytindkmgoiiicaaa
