/-
  THE DOCUMENT'S DEVICE: Medium, Of.
-/
import Derived.Test.YtojemioophlplaaRfG
namespace Go.Proofs.Ytojemioophlplaa
open Go.RowKit Go.Maps
namespace Rf
variable {B B' n : Nat} {w w' w1 w7 : World} {x : Nat} {bv lv kv v7 : Value} {s s' : RD} {y : Ly}
/-- Layings over a medium. -/
def layL (m : List UInt8) (L : List Ly) : List UInt8 := L.foldl (fun m y => splice m (512 * y.b + y.a) y.l) m
theorem layL_snoc (m : List UInt8) (L : List Ly) (y : Ly) : layL m (L ++ [y]) = splice (layL m L) (512 * y.b + y.a) y.l := by simp [layL]
theorem layL_app (m : List UInt8) (L K : List Ly) : layL m (L ++ K) = layL (layL m L) K := by simp [layL]
theorem layL_length {k : Nat} (L : List Ly) : ∀ m : List UInt8, m.length = 512 * k → (∀ y ∈ L, y.b < k ∧ y.a + y.l.length ≤ 512) → (layL m L).length = 512 * k := by
  induction L with
  | nil => intro m h _; exact h
  | cons y L ih =>
    intro m h hy
    have := hy y (by simp)
    exact ih _ (by rw [length_splice _ _ _ (by omega)]; exact h) (fun z hz => hy z (by simp [hz]))
def base0 (s : RD) : List UInt8 := if s.base = [] then List.replicate (512 * s.n) 0 else s.base
theorem base0_length (h : s.base = [] ∨ s.base.length = 512 * s.n) : (base0 s).length = 512 * s.n := by
  unfold base0
  split
  · rw [List.length_replicate]
  · rcases h with h | h
    · exact absurd h (by assumption)
    · exact h
def medR (s : RD) : List UInt8 := layL (base0 s) s.laid
set_option maxHeartbeats 16000000 in
set_option maxRecDepth 100000 in
theorem rmed_any (h : Rd B w x bv lv kv s) :
    Calls Try.prog 24 #[.pointer (some ⟨x, 0, none⟩)] w fun e w' => ∃ v, e = .returned v ∧ Own w.heap.size w' v (medR s) ∧ Below w.heap.size w w' := by
  have H := Lib.hid h
  have HN := Lib.hid h.n
  have BL := Lib.hid (base0_length h.bl)
  obtain ⟨T, hT⟩ : ∃ T, T = 512 * s.n := ⟨_, rfl⟩
  have TT := Lib.hid hT
  have hT4 : T ≤ 2097152 := by rw [hT]; have := h.n.2; omega
  obtain ⟨Y, hY⟩ : ∃ Y, Y = w.alloc (.cells (madeCells #[.int .u8 0] T) 5) := ⟨_, rfl⟩
  obtain ⟨g, hg⟩ : ∃ g, g = w.heap.size := ⟨_, rfl⟩
  have hmk : (Instr.makeSlice 30 (.int .i64 (T : Int)) (.int .i64 (T : Int))).run Try.prog w = .ok (.slice (some ⟨g, 0, none⟩) T T) Y := by rw [hY, hg]; exact make_bytes w T T rfl rfl (Nat.le_refl _) (by omega)
  have BY : Hid (Below w.heap.size w Y) := Lib.hid (by rw [hY]; exact (Below.refl _ _).alloc (Nat.le_refl _) _)
  have OY : Hid (Own w.heap.size Y (.slice (some ⟨g, 0, none⟩) T T) (List.replicate T 0)) := Lib.hid (own_of (by rw [hY, hg, heap_alloc_new, made_zeros]) (by omega) (by rw [List.length_replicate]) (by unfold maxLen; omega))
  have GG := Lib.hid hg
  have p0 : w.cell? ⟨x, 0, none⟩ = some (.int .i64 (s.n : Int)) := h.cell 0
  have w0 : IntKind.i64.wrap ((s.n : Int) * 512) = (T : Int) := by rw [IntKind.wrap_i64, hT]; have := h.n.2; omega
  have w0' : wrap64 ((s.n : Int) * 512) = (T : Int) := by unfold wrap64; rw [hT]; have := h.n.2; omega
  obtain ⟨ab, cb, eb, hb1, hb2⟩ := h.base.bytes.len
  obtain ⟨M, hM⟩ : ∃ M, M = s.base.length := ⟨_, rfl⟩
  rw [← hM] at eb hb1
  obtain ⟨al, cl, el, hl1, hl2⟩ := (h.laid.row okLy).len
  obtain ⟨N, hN⟩ : ∃ N, N = s.laid.length := ⟨_, rfl⟩
  rw [← hN] at el hl1
  subst eb el
  have MM := Lib.hid hM
  have NN := Lib.hid hN
  have MT : Hid (M = 0 ∨ M = T) := Lib.hid (by
    rw [hM, hT]
    rcases h.bl with q | q
    · exact .inl (by rw [q]; rfl)
    · exact .inr q)
  have B0 : Hid (splice (List.replicate T 0) 0 s.base = base0 s) := Lib.hid (by
    unfold base0
    split
    · rw [hT]
      have : s.base = [] := by assumption
      rw [this, splice_nil]
    · rcases h.bl with q | q
      · exact absurd q (by assumption)
      · exact splice_all _ _ (by rw [List.length_replicate, q, hT]))
  unfold maxLen at hb2 hl2
  rw [← hg]
  clear h hT hY hg hM hN
  go_enter Try.func24, Try.ntmps24
  go_wp2_with fail
  clear hmk p0 w0 w0'
  go_loopg [4] M (fun gg si wr => ∃ (i : Nat), i ≤ M ∧ gg = M - i ∧ si = .int .i64 i ∧ Hid (Own w.heap.size wr (.slice (some ⟨g, 0, none⟩) T T) (splice (List.replicate T 0) 0 (s.base.take i)) ∧ Below w.heap.size w wr))
  case atStart => exact ⟨0, Nat.zero_le _, rfl, rfl, Lib.hid ⟨by rw [List.take_zero, splice_nil]; exact OY.out, BY.out⟩⟩
  case round =>
    obtain ⟨i, hi, hgk, rfl, S⟩ := hrel
    have G := Lib.hid hgk
    clear hgk
    have p1 : wr.cell? ⟨x, 1, none⟩ = some (.slice ab M cb) := (H.out.below S.out.2).cell 1
    by_cases hlt : i < M
    · have hlt' : (i : Int) < (M : Int) := by omega
      have hiT : (i : Int) < (T : Int) := by rcases MT.out with q | q <;> omega
      obtain ⟨ba, bo, bc, e, _, _, cu⟩ := own_at (H.out.below S.out.2).base i (by rw [← MM.out]; exact hlt)
      simp only [Value.slice.injEq] at e
      obtain ⟨rfl, -, rfl⟩ := e
      have LS : Hid (s.base.length ≤ T) := Lib.hid (by rw [← MM.out]; rcases MT.out with q | q <;> omega)
      obtain ⟨⟨u, hc1⟩, hc2, hS⟩ := own_set S.out.1 i (s.base.getD i 0) (by rw [length_splice _ _ _ (by rw [List.length_take, List.length_replicate]; have := LS.out; omega), List.length_replicate]; omega)
      have e2 := splice_moreA (List.replicate T 0) s.base 0 i (by rw [← MM.out]; exact hlt) (by rw [List.length_replicate]; have := LS.out; omega)
      rw [Nat.zero_add] at e2
      rw [e2] at hS
      obtain ⟨z, hz⟩ : ∃ z, z = c8 (s.base.getD i 0) := ⟨_, rfl⟩
      rw [← hz] at cu hS
      have SS := Lib.hid hS
      clear hS hz e2
      go_wp2_with fail
      go_roundg (M - (i + 1))
      case measure => have := G.out; omega
      case rel => exact ⟨i + 1, by omega, rfl, by go_num, Lib.hid ⟨SS.out, S.out.2.setCell (p := ⟨g, i, none⟩) (by show _ ≤ g; rw [GG.out]; exact Nat.le_refl _) _⟩⟩
    · have SB : Hid (Own w.heap.size wr (.slice (some ⟨g, 0, none⟩) T T) (base0 s) ∧ Below w.heap.size w wr) := Lib.hid ⟨by
        have := S.out.1
        rw [List.take_of_length_le (by rw [← MM.out]; omega), B0.out] at this
        exact this, S.out.2⟩
      clear S
      go_wp2_with fail
      clear p1
      go_loopg [5] N (fun gg si wr => ∃ (i : Nat), i ≤ N ∧ gg = N - i ∧ si = .int .i64 i ∧ Hid (Own w.heap.size wr (.slice (some ⟨g, 0, none⟩) T T) (layL (base0 s) (s.laid.take i)) ∧ Below w.heap.size w wr))
      case atStart => exact ⟨0, Nat.zero_le _, rfl, rfl, Lib.hid ⟨SB.out.1, SB.out.2⟩⟩
      case round =>
        clear SB G
        obtain ⟨k, hk, hgk, rfl, S⟩ := hrel
        have G := Lib.hid hgk
        clear hgk
        have p2 : wr.cell? ⟨x, 2, none⟩ = some (.slice al N cl) := (H.out.below S.out.2).cell 2
        by_cases hlt2 : k < N
        · have hlt2' : (k : Int) < (N : Int) := by omega
          have RB := H.out.below S.out.2
          obtain ⟨lb, lo, rfl, c0, c1, c2⟩ := kly_at (RB.laid.row okLy) k (by rw [← NN.out]; exact hlt2)
          have my : s.laid.getD k kLy.z ∈ s.laid := by
            rw [List.getD_eq_getElem?_getD, List.getElem?_eq_getElem (by rw [← NN.out]; exact hlt2)]
            exact List.getElem_mem _
          have tk := take_one s.laid k kLy.z (by rw [← NN.out]; exact hlt2)
          obtain ⟨y, hy⟩ : ∃ y, y = s.laid.getD k kLy.z := ⟨_, rfl⟩
          have OK := Lib.hid (RB.ll _ my)
          have CC : Hid (∀ W, Below w.heap.size w W → W.cell? ⟨x, 2, none⟩ = some (.slice (some ⟨lb, lo, none⟩) N cl) ∧ W.cell? ⟨lb, lo + k * 3, none⟩ = some (.int .i64 (y.b : Int)) ∧ W.cell? ⟨lb, lo + k * 3 + 1, none⟩ = some (.int .i64 (y.a : Int)) ∧ W.cell? ⟨lb, lo + k * 3 + 2, none⟩ = some y.v ∧ LyOk B W s.n y) := Lib.hid (fun W hW => by
            have R := H.out.below hW
            obtain ⟨h1, h2, h3⟩ := kly_row (R.laid.row okLy) k (by rw [← NN.out]; exact hlt2) rfl hy
            exact ⟨R.cell 2, h1, h2, h3, by rw [hy]; exact R.ll _ my⟩)
          simp only [← hy] at c0 c1 c2 OK
          have QL : Hid ((layL (base0 s) (s.laid.take k)).length = T) := Lib.hid (by rw [TT.out]; exact layL_length _ _ BL.out (fun z hz => ⟨(RB.ll z (List.mem_of_mem_take hz)).b, (RB.ll z (List.mem_of_mem_take hz)).a⟩))
          have EQ : Hid (layL (base0 s) (s.laid.take (k + 1)) = splice (layL (base0 s) (s.laid.take k)) (512 * y.b + y.a) y.l) := Lib.hid (by rw [tk, ← hy, layL_snoc])
          have LN : Hid (y.a + y.l.length ≤ 512 ∧ y.b < s.n) := Lib.hid ⟨OK.out.a, OK.out.b⟩
          have ycm := OK.out.cap
          obtain ⟨q, hq⟩ : ∃ q, q = layL (base0 s) (s.laid.take k) := ⟨_, rfl⟩
          rw [← hq] at S QL EQ
          clear RB my tk hy hq
          obtain ⟨yb, ya, yad, ycap, yl⟩ := y
          unfold Ly.v at c2 CC
          simp only at c0 c1 c2 CC EQ LN ycm
          obtain ⟨m, hm⟩ : ∃ m, m = yl.length := ⟨_, rfl⟩
          rw [← hm] at c2 CC LN ycm
          have MM2 := Lib.hid hm
          unfold maxLen at ycm
          have hm512 : m ≤ 512 ∧ ya ≤ 512 := by have := LN.out; omega
          obtain ⟨hycap, hycm, _⟩ := ycm
          clear hm c0 c1
          go_wp2_with fail
          go_loopg [6] m (fun gg sj wq => ∃ (j : Nat), j ≤ m ∧ gg = m - j ∧ sj = .int .i64 j ∧ Hid (Own w.heap.size wq (.slice (some ⟨g, 0, none⟩) T T) (splice q (512 * yb + ya) (yl.take j)) ∧ Below w.heap.size w wq))
          case atStart => exact ⟨0, Nat.zero_le _, rfl, rfl, Lib.hid ⟨by rw [List.take_zero, splice_nil]; exact S.out.1, S.out.2⟩⟩
          case round =>
            clear c2 p2
            obtain ⟨j, hj, hgj, rfl, U⟩ := hrel
            have G2 := Lib.hid hgj
            clear hgj
            obtain ⟨d2, d0, d1, dv, ok⟩ := CC.out wr U.out.2
            by_cases hjn : j < m
            · have hjn' : (j : Int) < (m : Int) := by omega
              obtain ⟨ub, uo, eu, cu⟩ := ok.at j (by rw [← MM2.out]; exact hjn)
              simp only at eu cu
              subst eu
              have AB : Hid (512 * yb + ya + j < T ∧ 512 * yb + ya + m ≤ T) := Lib.hid (by have := LN.out; have := TT.out; omega)
              obtain ⟨⟨u, hc1⟩, hc2, hS⟩ := own_set U.out.1 (512 * yb + ya + j) (yl.getD j 0) (by rw [length_splice _ _ _ (by rw [List.length_take, QL.out, ← MM2.out]; have := AB.out; omega), QL.out]; exact AB.out.1)
              rw [splice_moreA _ _ _ _ (by rw [← MM2.out]; exact hjn) (by rw [QL.out, ← MM2.out]; exact AB.out.2)] at hS
              obtain ⟨z, hz⟩ : ∃ z, z = c8 (yl.getD j 0) := ⟨_, rfl⟩
              rw [← hz] at cu hS
              obtain ⟨k1, hk1⟩ : ∃ k1, k1 = 512 * yb := ⟨_, rfl⟩
              obtain ⟨k2, hk2⟩ : ∃ k2, k2 = 512 * yb + ya := ⟨_, rfl⟩
              obtain ⟨k3, hk3⟩ : ∃ k3, k3 = 512 * yb + ya + j := ⟨_, rfl⟩
              have WR : Hid (wrap64 ((yb : Int) * 512) = (k1 : Int) ∧ wrap64 ((k1 : Int) + (ya : Int)) = (k2 : Int) ∧ wrap64 ((k2 : Int) + (j : Int)) = (k3 : Int) ∧ IntKind.i64.wrap ((yb : Int) * 512) = (k1 : Int) ∧ IntKind.i64.wrap ((k1 : Int) + (ya : Int)) = (k2 : Int) ∧ IntKind.i64.wrap ((k2 : Int) + (j : Int)) = (k3 : Int) ∧ (k3 : Int) < (T : Int)) := Lib.hid (by
                have := AB.out
                refine ⟨by unfold wrap64; omega, by unfold wrap64; omega, by unfold wrap64; omega, by rw [IntKind.wrap_i64]; omega, by rw [IntKind.wrap_i64]; omega, by rw [IntKind.wrap_i64]; omega, by omega⟩)
              rw [← hk3] at hc1 hc2 hS
              have SS := Lib.hid hS
              obtain ⟨wr1, wr2, wr3, wr4, wr5, wr6, wr7⟩ := WR.out
              clear hS hz ok hk1 hk2 hk3 hlt
              go_wp2_with fail
              go_region
              all_goals
                go_wp2_with fail
                go_roundg (m - (j + 1))
                case measure => have := G2.out; omega
                case rel => exact ⟨j + 1, by omega, rfl, by go_num, Lib.hid ⟨SS.out, (U.out.2.setCell (p := ⟨g, k3, none⟩) (by show _ ≤ g; rw [GG.out]; exact Nat.le_refl _) _).drew⟩⟩
            · clear d0 d1
              go_wp2_with fail
              go_roundg (N - (k + 1))
              case measure => have := G.out; omega
              case rel => exact ⟨k + 1, by omega, rfl, by go_num, Lib.hid ⟨by rw [EQ.out]; have := U.out.1; rw [List.take_of_length_le (by rw [← MM2.out]; omega)] at this; exact this, U.out.2⟩⟩
        · have e : s.laid.take k = s.laid := List.take_of_length_le (by rw [← NN.out]; omega)
          rw [e] at S
          clear e
          go_wp2_with fail
          go_ret
          have t1 := S.out.1
          have t2 := S.out.2
          rw [← GG.out] at t1 t2
          exact ⟨_, rfl, t1, t2⟩
end Rf
end Go.Proofs.Ytojemioophlplaa
