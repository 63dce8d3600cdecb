/-
  THE DOCUMENTS READER: NewReader.
-/
import Derived.Test.YtmdjicakjljmlaaRefR2
namespace Go.Proofs.Ytmdjicakjljmlaa
open Go.RowKit

/-- The reader in the making. -/
def YMake (B : Nat) (w : World) (g : Nat) (v : Value) (l : List UInt8) : Prop :=
  B ≤ g ∧ w.heap[g]? = some (.cells #[v, .int .i64 0, .int .i64 0] 65 (0, 0)) ∧ Own B w v l
theorem YMake.lt {B : Nat} {w : World} {g : Nat} {v : Value} {l : List UInt8} (h : YMake B w g v l) : g < w.heap.size := by
  rcases Nat.lt_or_ge g w.heap.size with q | q
  · exact q
  · have := h.2.1; rw [Array.getElem?_eq_none q] at this; simp at this
theorem YMake.apart {B : Nat} {w : World} {g : Nat} {v : Value} {l : List UInt8} (h : YMake B w g v l) : v.ownBlock ≠ some g := by
  obtain ⟨_, hg, ⟨_, ⟨hv, _⟩ | ⟨g', cap, cur, hv, hB, hg', _⟩⟩⟩ := h
  · subst hv; simp [Value.ownBlock]
  · subst hv
    intro e
    simp only [Value.ownBlock, Option.some.injEq] at e
    rw [e, hg] at hg'
    simp at hg'
theorem YMake.set {B : Nat} {w w1 : World} {g : Nat} {v v1 : Value} {l l1 : List UInt8} (h : YMake B w g v l) (hg : Kept (fun k => some k = v.ownBlock) w w1) (ho : Own B w1 v1 l1) :
    YMake B (w1.setCell ⟨g, 0, none⟩ v1) g v1 l1 := by
  have e : w1.heap[g]? = _ := (hg.block g h.lt (fun q => h.apart q.symm)).trans h.2.1
  refine ⟨h.1, ?_, ?_⟩
  · rw [heap_setCell_same w1 g 0 _ _ _ e]; rfl
  · refine ho.kept (kept_set (F := fun k => k = g) w1 ⟨g, 0, none⟩ _ rfl) (fun k hk q => ?_)
    subst q
    obtain ⟨_, ⟨hv, _⟩ | ⟨g', cap, cur, hv, hB, hg', _⟩⟩ := ho
    · subst hv; simp [Value.ownBlock] at hk
    · subst hv
      simp only [Value.ownBlock, Option.some.injEq] at hk
      rw [hk, e] at hg'
      simp at hg'
set_option maxHeartbeats 4000000 in
set_option maxRecDepth 100000 in
theorem ynewReader_any (v : Value) (l : List UInt8) (w : World) (hv : Bytes w v l) (hl : l.length ≤ 140737488355328) :
    Calls Try.prog 21 #[v] w fun e w' => e = .returned (.pointer (some ⟨w.heap.size, 0, none⟩)) ∧ (∃ v0, YAt w' w.heap.size v0 l ⟨l, 0⟩ ∧ T8 w' v0) ∧ Below w.heap.size w w' := by
  have V : Aside (Bytes w v l) := hv
  obtain ⟨a, cap, rfl, hlc, hcm⟩ := hv.len
  unfold maxLen at hcm
  clear hv
  go_enter Try.func21, Try.ntmps21
  go_wp2_with fail
  go_loopg [4] l.length (fun g0 si wr => ∃ (k : Nat) (u : Value), k ≤ l.length ∧ g0 = l.length - k ∧ si = .int .i64 k ∧ YMake w.heap.size wr w.heap.size u (l.take k) ∧ Below w.heap.size w wr)
  case atStart =>
    refine ⟨0, .slice none 0 0, Nat.zero_le _, rfl, rfl, ⟨Nat.le_refl _, ?_, World.ownsRow_nil _ _ _ _⟩, (Below.refl _ _).alloc (Nat.le_refl _) _⟩
    rw [heap_alloc_new]
  case round =>
    obtain ⟨k, u, hk, hg, rfl, hx, hbl⟩ := hrel
    have R : Aside (gk = l.length - k ∧ YMake w.heap.size wr w.heap.size u (l.take k) ∧ Below w.heap.size w wr) := ⟨hg, hx, hbl⟩
    clear hg hx hbl
    by_cases hlt : k < l.length
    · have d0 : wr.cell? ⟨w.heap.size, 0, none⟩ = some u := cell0 R.out.2.1.2.1
      have fz0 : wr.frozen? ⟨w.heap.size, 0, none⟩ = false := frozen_of_row wr _ 0 _ _ R.out.2.1.2.1
      obtain ⟨au, cu, hu, huc, hum⟩ := R.out.2.1.2.2.bytes.len
      obtain ⟨nu, hnu⟩ : ∃ nu, nu = (l.take k).length := ⟨_, rfl⟩
      have hul : nu < 140737488355328 := by rw [hnu, List.length_take]; omega
      have vb := V.out.below R.out.2.2
      obtain ⟨aa, cc, e2, _, _, _, hcl⟩ := vb
      simp only [Value.slice.injEq, true_and] at e2
      obtain ⟨rfl, rfl⟩ := e2
      obtain ⟨b1, off1, rfl, hc1⟩ := hcl k hlt
      obtain ⟨c, hc⟩ : ∃ c, c = l.getD k 0 := ⟨_, rfl⟩
      rw [← hc] at hc1
      have C : Aside (c = l.getD k 0) := hc
      have U : Aside (u = .slice au nu cu) := by rw [hu, hnu]; rfl
      rw [hu] at d0
      have d0' : wr.cell? ⟨w.heap.size, 0, none⟩ = some (.slice au nu cu) := by rw [hnu]; exact d0
      have O : Hid (Own w.heap.size wr (.slice au nu cu) (l.take k)) := by have := R.out.2.1.2.2; rw [U.out] at this; exact this
      have S : Hid (w.heap.size ≤ wr.heap.size) := R.out.2.2.size
      have L : Hid ((l.take k).length < 140737488355328) := by show _ < _; omega
      have gl : w.heap.size < wr.heap.size := R.out.2.1.lt
      have hlt' : (k : Int) < (l.length : Int) := by omega
      have HG : Hid (wr.heap[w.heap.size]? = some (.cells #[.slice au nu cu, .int .i64 0, .int .i64 0] 65 (0, 0)) ∧ (Value.slice au nu cu).ownBlock ≠ some w.heap.size) := by
        have h1 := R.out.2.1.2.1
        have h2 := R.out.2.1.apart
        rw [U.out] at h1 h2
        exact ⟨h1, h2⟩
      have O1 : Hid (Own w.heap.size ((wr.alloc (.cells #[.int .u8 (c8 c)] 5)).drew) (.slice au nu cu) (l.take k)) := World.ownsRow.alloc O.out _
      have S1 : Hid (w.heap.size ≤ ((wr.alloc (.cells #[.int .u8 (c8 c)] 5)).drew).heap.size) := by have := S.out; show w.heap.size ≤ (wr.alloc _).heap.size; simp; omega
      have N1 : Hid (∀ j u, [Value.int .u8 (c8 c)][j]? = some u → ((wr.alloc (.cells #[.int .u8 (c8 c)] 5)).drew).cell? ((⟨wr.heap.size, 0, none⟩ : Addr).add j) = some u) := fun j u hu => one_cell (w := wr) j u hu
      have FK : Hid (∀ w', (wr.alloc (.cells #[.int .u8 (c8 c)] 5)).drew.grownBy w' (Value.slice au nu cu).ownBlock → w'.cell? ⟨w.heap.size, 0, none⟩ = some (.slice au nu cu) ∧ w'.frozen? ⟨w.heap.size, 0, none⟩ = false) := fun w' h2 => by
        have hh := field_kept (v := .slice au nu cu) HG.out.1 (wx := (wr.alloc (.cells #[.int .u8 (c8 c)] 5)).drew) (fun k hk => Below.heap_alloc _ _ _ hk) (by show wr.heap.size ≤ (wr.alloc (.cells #[.int .u8 (c8 c)] 5)).heap.size; simp) h2 HG.out.2
        exact ⟨cell0 hh, frozen_of_row w' _ 0 _ _ hh⟩
      clear hc hcl d0 hu hnu huc hum
      go_wp2_with fail
      go_region_law (refine step_app_byte (B := w.heap.size) (v := .slice au nu cu) rfl _ _ rfl rfl O1.out S1.out c ⟨wr.heap.size, 0, none⟩ rfl N1.out L.out ?_; intro v' w' h1 h2 h3; obtain ⟨a2, n2, c2, rfl⟩ := own_slice h1; obtain ⟨k0, k1⟩ := FK.out w' h2)
      all_goals
        have kw : Kept (fun k => some k = u.ownBlock) wr w' := by
          rw [U.out]
          refine ⟨h2.os, h2.tape, h2.output, Nat.le_trans (by show wr.heap.size ≤ (wr.alloc (.cells #[.int .u8 (c8 c)] 5)).heap.size; simp) h2.size, fun x hx hn => ?_⟩
          rw [h2.block x (by show x < (wr.alloc (.cells #[.int .u8 (c8 c)] 5)).heap.size; simp; omega) hn]
          exact Below.heap_alloc _ _ _ hx
        have A : Aside (Kept (fun k => some k = u.ownBlock) wr w' ∧ Own w.heap.size w' (.slice a2 n2 c2) (l.take k ++ [c])) := ⟨kw, h1⟩
        clear kw h1 h2 h3 k0 k1 O1 S1 N1 FK HG O S L d0' fz0 hc1
        go_wp2_with fail
        go_roundg (l.length - (k + 1))
        case measure => have := R.out.1; omega
        case rel =>
          obtain ⟨kw, h1⟩ := A.out
          have tk := take_one l k 0 hlt
          rw [← C.out] at tk
          have ks : Kept (fun x => x = w.heap.size) w' (w'.setCell ⟨w.heap.size, 0, none⟩ (.slice a2 n2 c2)) := kept_set w' ⟨w.heap.size, 0, none⟩ _ rfl
          refine ⟨k + 1, .slice a2 n2 c2, by omega, rfl, by go_num, ?_, ?_⟩
          · rw [tk]; exact R.out.2.1.set kw h1
          · refine (R.out.2.2.trans (kw.below R.out.2.2.size (fun x hx => ?_))).trans (ks.below (Nat.le_trans R.out.2.2.size kw.size) (fun x hx => by omega))
            exact (R.out.2.1.2.2.lt x hx.symm).1
    · have E : Aside (YMake w.heap.size wr w.heap.size u l ∧ Below w.heap.size w wr) := by
        have h := R.out.2
        rw [List.take_of_length_le (by omega)] at h; exact h
      go_wp2_with fail
      go_ret
      obtain ⟨⟨_, h1, h2⟩, h3⟩ := E.out
      exact ⟨rfl, ⟨u, ⟨0, h1, h2.bytes, Nat.zero_le _, rfl, by show 0 < 256; decide⟩, h2.t8⟩, h3⟩
end Go.Proofs.Ytmdjicakjljmlaa
