/-
  THE DOCUMENT'S DEVICE: copied, played.
-/
import Derived.Test.YtbdlebengmbooaaRfA
import Derived.BigRegion
namespace Go.Proofs.Ytbdlebengmbooaa
open Go.RowKit Go.Maps
namespace Rf
variable {B B' n : Nat} {w w' w1 : World}
theorem take_one {α : Type} (l : List α) (k : Nat) (d : α) (h : k < l.length) : l.take (k + 1) = l.take k ++ [l.getD k d] := by
  rw [List.take_add_one, List.getElem?_eq_getElem h, List.getD_eq_getElem?_getD, List.getElem?_eq_getElem h]; rfl
theorem copied_any (v : Value) (l : List UInt8) (w : World) (hv : Bytes w v l) (hl : l.length ≤ 140737488355328) :
    Calls Try.prog 41 #[v] w fun e w' => ∃ v', e = .returned v' ∧ Own w.heap.size w' v' l ∧ Below w.heap.size w w' := by
  have V : Aside (Bytes w v l) := hv
  obtain ⟨a, cap, rfl, hlc, hcm, _, hc⟩ := hv
  unfold maxLen at hcm
  have Hc : Aside (∀ k, k < l.length → ∃ b off, a = some ⟨b, off, none⟩ ∧ w.cell? ⟨b, off + k, none⟩ = some (.int .u8 (c8 (l.getD k 0)))) := hc
  clear hc
  go_enter Try.func41, Try.ntmps41
  go_wp2_with fail
  go_loopg [3, 4] l.length (fun g so si wr => ∃ (k : Nat) (vo : Value), k ≤ l.length ∧ g = l.length - k ∧ si = .int .i64 k ∧ vo = so ∧ Own w.heap.size wr vo (l.take k) ∧ Below w.heap.size w wr)
  case atStart => exact ⟨0, _, Nat.zero_le _, rfl, rfl, rfl, World.ownsRow_nil _ _ _ _, Below.refl _ _⟩
  case round =>
    obtain ⟨k, vo, hk, hg, rfl, rfl, ho, hb⟩ := hrel
    have R : Aside (gk = l.length - k ∧ Below w.heap.size w wr) := ⟨hg, hb⟩
    have O : Hid (Own w.heap.size wr vo (l.take k)) := Lib.hid ho
    have S : Hid (w.heap.size ≤ wr.heap.size) := Lib.hid hb.size
    clear hg ho
    by_cases hlt : k < l.length
    · obtain ⟨b, off, rfl, hcell⟩ := Hc.out k hlt
      rw [← hb.cell (p := ⟨b, off + k, none⟩) (block_lt_of_cell hcell)] at hcell
      clear hb
      obtain ⟨c, hcc⟩ : ∃ c, c = l.getD k 0 := ⟨_, rfl⟩
      rw [← hcc] at hcell
      have C : Aside (c = l.getD k 0) := hcc
      clear hcc
      go_wp2_with (at_builtin; refine app_byte rfl _ _ rfl rfl O.out S.out _ c ?hn rfl ?hl ?_)
      case hn => rfl
      case hl => rw [List.length_take]; omega
      intro v' w' h1 h2 _
      have A : Aside (Own w.heap.size w' v' (l.take k ++ [c]) ∧ Below w.heap.size w w') := ⟨h1, R.out.2.trans (grown_below h2 O.out S.out)⟩
      clear h1 h2 O S
      go_wp2_with fail
      go_roundg (l.length - (k + 1))
      case measure => have := R.out.1; omega
      case rel => exact ⟨k + 1, v', by omega, rfl, by go_num, rfl, by rw [take_one l k 0 hlt, ← C.out]; exact A.out.1, A.out.2⟩
    · clear hb
      have e : l.take k = l := List.take_of_length_le (by omega)
      have O2 : Hid (Own w.heap.size wr vo l) := Lib.hid (by have := O.out; rw [e] at this; exact this)
      clear e O
      go_wp2_with fail
      go_ret
      exact ⟨_, rfl, O2.out, R.out.2⟩
/-- The layings of a list over a block's bytes. -/
def playedL (p : List UInt8) (L : List Ly) (k : Nat) : List UInt8 := L.foldl (fun p y => if y.b = k then splice p y.a y.l else p) p
theorem played_snoc (p : List UInt8) (L : List Ly) (y : Ly) (k : Nat) : playedL p (L ++ [y]) k = if y.b = k then splice (playedL p L k) y.a y.l else playedL p L k := by simp [playedL]
theorem played_length (L : List Ly) (k : Nat) : ∀ p : List UInt8, p.length = 512 → (∀ y ∈ L, y.a + y.l.length ≤ 512) → (playedL p L k).length = 512 := by
  induction L with
  | nil => intro p h _; exact h
  | cons y L ih =>
    intro p h hy
    have hyL : ∀ z ∈ L, z.a + z.l.length ≤ 512 := fun z hz => hy z (by simp [hz])
    show (playedL (if y.b = k then splice p y.a y.l else p) L k).length = 512
    have := hy y (by simp)
    by_cases e : y.b = k
    · rw [if_pos e]
      exact ih _ (by rw [length_splice _ _ _ (by omega)]; exact h) hyL
    · rw [if_neg e]
      exact ih _ h hyL
theorem splice_moreA (c x : List UInt8) (a j : Nat) (h : j < x.length) (hc : a + x.length ≤ c.length) : (splice c a (x.take j)).set (a + j) (x.getD j 0) = splice c a (x.take (j + 1)) := by
  have l1 : (x.take j).length = j := by rw [List.length_take]; omega
  have l2 : (x.take (j + 1)).length = j + 1 := by rw [List.length_take]; omega
  apply List.ext_getElem?
  intro k
  rw [splice_at _ _ _ (by omega)]
  by_cases hk : k = a + j
  · subst hk
    rw [List.getElem?_set_self (by rw [length_splice _ _ _ (by omega)]; omega), if_pos (by omega), show a + j - a = j by omega, List.getElem?_take_of_lt (by omega), List.getD_eq_getElem?_getD, List.getElem?_eq_getElem h]
    rfl
  · rw [List.getElem?_set_ne (fun e => hk e.symm), splice_at _ _ _ (by omega)]
    by_cases h1 : a ≤ k ∧ k < a + j
    · rw [if_pos (by omega), if_pos (by omega), List.getElem?_take_of_lt (by omega), List.getElem?_take_of_lt (by omega)]
    · rw [if_neg (by omega), if_neg (by omega)]
theorem splice_nil (c : List UInt8) (a : Nat) : splice c a [] = c := by simp [splice]
theorem LyOk.at {y : Ly} (h : LyOk B w n y) (j : Nat) (hj : j < y.l.length) : ∃ b off, y.ad = some ⟨b, off, none⟩ ∧ w.cell? ⟨b, off + j, none⟩ = some (.int .u8 (c8 (y.l.getD j 0))) := by
  obtain ⟨a, cap, e, _, _, _, hc⟩ := h.own.bytes
  unfold Ly.v at e
  simp only [Value.slice.injEq] at e
  obtain ⟨rfl, _, rfl⟩ := e
  exact hc j hj
theorem LyOk.cap {y : Ly} (h : LyOk B w n y) : y.l.length ≤ y.cap ∧ y.cap ≤ maxLen ∧ (y.ad = none → y.cap = 0) := by
  obtain ⟨a, cap, e, h1, h2, h3, hc⟩ := h.own.bytes
  unfold Ly.v at e
  simp only [Value.slice.injEq] at e
  obtain ⟨rfl, _, rfl⟩ := e
  exact ⟨h1, h2, h3⟩
theorem kly_at {a : Option Addr} {m c : Nat} {L : List Ly} (H : Row kLy w (.slice a m c) L) (k : Nat) (hk : k < L.length) : ∃ b off, a = some ⟨b, off, none⟩ ∧ w.cell? ⟨b, off + k * 3, none⟩ = some (.int .i64 ((L.getD k kLy.z).b : Int)) ∧ w.cell? ⟨b, off + k * 3 + 1, none⟩ = some (.int .i64 ((L.getD k kLy.z).a : Int)) ∧ w.cell? ⟨b, off + k * 3 + 2, none⟩ = some (L.getD k kLy.z).v := by
  obtain ⟨b, off, e, h⟩ := H.at k hk
  refine ⟨b, off, e, h 0 _ rfl, h 1 _ rfl, h 2 _ rfl⟩
set_option maxHeartbeats 8000000 in
set_option maxRecDepth 100000 in
theorem played_any (g cap : Nat) (p : List UInt8) (lv : Value) (L : List Ly) (blk : Nat) (w : World) (hp : Own B w (.slice (some ⟨g, 0, none⟩) 512 cap) p) (hl : p.length = 512) (hL : OwnR kLy B' w lv L) (hy : ∀ y ∈ L, LyOk B' w n y) (hg : ∀ y ∈ L, y.v.ownBlock ≠ some g) :
    Calls Try.prog 61 #[.slice (some ⟨g, 0, none⟩) 512 cap, lv, .int .i64 (blk : Int)] w fun e w' => e = .returned (.slice (some ⟨g, 0, none⟩) 512 cap) ∧ Own B w' (.slice (some ⟨g, 0, none⟩) 512 cap) (playedL p L blk) ∧ Kept (fun k => k = g) w w' := by
  have hcap : 512 ≤ cap ∧ cap ≤ maxLen := by
    obtain ⟨a, c, e, h1, h2, _⟩ := hp.bytes
    simp only [Value.slice.injEq] at e
    rw [hl] at h1
    omega
  have hlg : ∀ k, lv.ownBlock = some k → ¬ k = g := fun k hk e => by
    obtain ⟨cs, m, h⟩ := hL.ty k hk
    obtain ⟨cur, h2⟩ := row_block hp (show (Value.slice (some ⟨g, 0, none⟩) 512 cap).ownBlock = some g from rfl)
    rw [e, h2] at h
    simp only [Option.some.injEq, Obj.cells.injEq] at h
    exact absurd h.2.1 (by decide)
  obtain ⟨la, lc, rfl, hlc, hlm⟩ := (hL.row okLy).len
  obtain ⟨N, hN⟩ : ∃ N, N = L.length := ⟨_, rfl⟩
  rw [← hN] at hL hlc hlg ⊢
  have HP := Lib.hid (And.intro hp hl)
  have KL : Hid (∀ W, Kept (fun k => k = g) w W → Row kLy W (.slice la N lc) L ∧ ∀ y ∈ L, LyOk B' W n y) := Lib.hid (fun W hW => ⟨(hL.kept hW hlg).row okLy, fun y h => ⟨(hy y h).own.kept hW (fun k hk e => hg y h (by rw [hk, e])), (hy y h).b, (hy y h).a⟩⟩)
  have NN := Lib.hid hN
  unfold maxLen at hcap hlm
  clear hp hl hL hy hg hlg hN
  go_enter Try.func61, Try.ntmps61
  go_wp2_with fail
  go_loopg [7] N (fun gg si wr => ∃ (i : Nat), i ≤ N ∧ gg = N - i ∧ si = .int .i64 i ∧ Hid (Own B wr (.slice (some ⟨g, 0, none⟩) 512 cap) (playedL p (L.take i) blk) ∧ Kept (fun k => k = g) w wr))
  case atStart => exact ⟨0, Nat.zero_le _, rfl, rfl, Lib.hid ⟨HP.out.1, Kept.refl _ _⟩⟩
  case round =>
    obtain ⟨i, hi, hgk, rfl, S⟩ := hrel
    have G := Lib.hid hgk
    clear hgk
    by_cases hlt : i < N
    · have hlt' : (i : Int) < (N : Int) := by omega
      have K := KL.out wr S.out.2
      obtain ⟨lb, lo, rfl, c0, c1, c2⟩ := kly_at K.1 i (by rw [← NN.out]; exact hlt)
      have my : L.getD i kLy.z ∈ L := by
        rw [List.getD_eq_getElem?_getD, List.getElem?_eq_getElem (by rw [← NN.out]; exact hlt)]
        exact List.getElem_mem _
      have tk := take_one L i kLy.z (by rw [← NN.out]; exact hlt)
      obtain ⟨y, hy⟩ : ∃ y, y = L.getD i kLy.z := ⟨_, rfl⟩
      rw [← hy] at c0 c1 c2 my tk
      have OK := Lib.hid (K.2 y my)
      have CC : Hid (∀ W, Kept (fun k => k = g) w W → W.cell? ⟨lb, lo + i * 3 + 1, none⟩ = some (.int .i64 (y.a : Int)) ∧ W.cell? ⟨lb, lo + i * 3 + 2, none⟩ = some y.v ∧ LyOk B' W n y) := Lib.hid (fun W hW => by
        have K := KL.out W hW
        obtain ⟨lb', lo', e, _, c1, c2⟩ := kly_at K.1 i (by rw [← NN.out]; exact hlt)
        rw [← hy] at c1 c2
        simp only [Option.some.injEq, Addr.mk.injEq, and_true] at e
        obtain ⟨rfl, rfl⟩ := e
        exact ⟨c1, c2, K.2 y my⟩)
      have hPL : Hid (playedL p (L.take (i + 1)) blk = if y.b = blk then splice (playedL p (L.take i) blk) y.a y.l else playedL p (L.take i) blk) := Lib.hid (by rw [tk, played_snoc])
      have QL : Hid ((playedL p (L.take i) blk).length = 512) := Lib.hid (played_length _ _ _ HP.out.2 (fun z hz => (K.2 z (List.mem_of_mem_take hz)).a))
      have LN : Hid (y.a + y.l.length ≤ 512 ∧ y.b < n) := Lib.hid ⟨OK.out.a, OK.out.b⟩
      clear K my tk hy
      obtain ⟨yb, ya, yad, ycap, yl⟩ := y
      simp only at c0 c1 hPL LN CC
      unfold Ly.v at c2 CC
      simp only at c2 CC
      by_cases hbk : yb = blk
      · have g1 : ((yb : Int) != (blk : Int)) = false := by rw [hbk]; exact bne_self_eq_false _
        obtain ⟨M, hM⟩ : ∃ M, M = yl.length := ⟨_, rfl⟩
        rw [← hM] at c2 CC LN
        have MM := Lib.hid hM
        have EQ : Hid (playedL p (L.take (i + 1)) blk = splice (playedL p (L.take i) blk) ya yl) := Lib.hid (by rw [hPL.out, if_pos hbk])
        obtain ⟨q, hq⟩ : ∃ q, q = playedL p (L.take i) blk := ⟨_, rfl⟩
        rw [← hq] at S QL EQ
        have ycm := OK.out.cap
        simp only at ycm
        unfold maxLen at ycm
        have hM512 : M ≤ 512 ∧ ya ≤ 512 := by have := LN.out; omega
        have hycap : M ≤ ycap := by rw [hM]; exact ycm.1
        have hycm : ycap ≤ 9223372036854775807 := by omega
        clear hPL hbk hM hq ycm c1
        go_wp2_with fail
        go_loopg [8] M (fun gg sj wq => ∃ (j : Nat), j ≤ M ∧ gg = M - j ∧ sj = .int .i64 j ∧ Hid (Own B wq (.slice (some ⟨g, 0, none⟩) 512 cap) (splice q ya (yl.take j)) ∧ Kept (fun k => k = g) w wq))
        case atStart => exact ⟨0, Nat.zero_le _, rfl, rfl, Lib.hid ⟨by rw [List.take_zero, splice_nil]; exact S.out.1, S.out.2⟩⟩
        case round =>
          clear c0 c2
          obtain ⟨j, hj, hgj, rfl, T⟩ := hrel
          have G2 := Lib.hid hgj
          clear hgj
          obtain ⟨d1, d2, ok⟩ := CC.out wr T.out.2
          by_cases hjn : j < M
          · have hjn' : (j : Int) < (M : Int) := by omega
            obtain ⟨ub, uo, eu, cu⟩ := ok.at j (by rw [← MM.out]; exact hjn)
            simp only at eu cu
            subst eu
            have WR : Hid (wrap64 ((ya : Int) + (j : Int)) = ((ya + j : Nat) : Int)) := Lib.hid (by unfold wrap64; have := LN.out; omega)
            have WR2 : Hid (IntKind.i64.wrap ((ya : Int) + (j : Int)) = ((ya + j : Nat) : Int)) := Lib.hid (by rw [IntKind.wrap_i64]; have := LN.out; omega)
            have wr2 : ((ya + j : Nat) : Int) < 512 := by have := LN.out; omega
            obtain ⟨⟨u, hc1⟩, hc2, hS⟩ := own_set T.out.1 (ya + j) (yl.getD j 0) (by rw [length_splice _ _ _ (by rw [List.length_take, QL.out, ← MM.out]; have := LN.out; omega), QL.out]; have := LN.out; omega)
            rw [splice_moreA _ _ _ _ (by rw [← MM.out]; exact hjn) (by rw [QL.out, ← MM.out]; exact LN.out.1)] at hS
            obtain ⟨z, hz⟩ : ∃ z, z = c8 (yl.getD j 0) := ⟨_, rfl⟩
            rw [← hz] at cu hS
            obtain ⟨aj, haj⟩ : ∃ aj, aj = ya + j := ⟨_, rfl⟩
            have wr1 := WR.out
            have wr3 := WR2.out
            rw [← haj] at wr1 wr2 wr3 hc1 hc2 hS
            have SS := Lib.hid hS
            clear hS hz ok haj
            go_wp2_with fail
            go_region
            go_wp2_with fail
            go_roundg (M - (j + 1))
            case measure => have := G2.out; omega
            case rel => exact ⟨j + 1, by omega, rfl, by go_num, Lib.hid ⟨by first | exact SS.out | exact SS.out.drew, T.out.2.trans (G := fun k => k = g) (Kept.trans (F := fun k => k = g) (G := fun k => k = g) (Below.kept (Below.refl _ _).drew (fun k => k = g)) (kept_set _ ⟨g, aj, none⟩ _ rfl) (fun _ _ h => h)) (fun _ _ h => h)⟩⟩
          · clear d1
            go_wp2_with fail
            go_roundg (N - (i + 1))
            case measure => have := G.out; omega
            case rel => exact ⟨i + 1, by omega, rfl, by go_num, Lib.hid ⟨by rw [EQ.out]; have := T.out.1; rw [List.take_of_length_le (by rw [← MM.out]; omega)] at this; exact this, T.out.2⟩⟩
      · have g1 : ((yb : Int) != (blk : Int)) = true := by rw [bne_iff_ne]; omega
        clear c1 c2
        go_wp2_with fail
        go_roundg (N - (i + 1))
        case measure => have := G.out; omega
        case rel => exact ⟨i + 1, by omega, rfl, by go_num, Lib.hid ⟨by rw [hPL.out, if_neg hbk]; exact S.out.1, S.out.2⟩⟩
    · have e : L.take i = L := List.take_of_length_le (by rw [← NN.out]; omega)
      go_wp2_with fail
      go_ret
      exact ⟨rfl, by have := S.out.1; rw [e] at this; exact this, S.out.2⟩
end Rf
end Go.Proofs.Ytbdlebengmbooaa
