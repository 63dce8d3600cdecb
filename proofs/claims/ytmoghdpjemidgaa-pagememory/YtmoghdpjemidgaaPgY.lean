/-
  withBody.
-/
import Derived.Test.YtmoghdpjemidgaaPgV
import Derived.Deep.RegionHeldLaw
namespace Go.Proofs.Ytmoghdpjemidgaa
open Go.RowKit Go.Maps
/-- The bytes of a leaf's entries. -/
def bsL (n : Nd) : List (List UInt8) := (n.ents.zip n.chs).map fun x => enE x.1 x.2.toNat
theorem bsL_length (n : Nd) (h : n.chs.length = n.ents.length) : (bsL n).length = n.ents.length := by unfold bsL; rw [List.length_map, List.length_zip]; omega
theorem bsL_at (n : Nd) (h : n.chs.length = n.ents.length) (k : Nat) (hk : k < n.ents.length) : (bsL n).getD k [] = enE (n.ents.getD k (⟨#[]⟩, ⟨#[]⟩)) (n.chs.getD k 0).toNat := by
  unfold bsL
  rw [List.getD_eq_getElem?_getD, List.getElem?_eq_getElem (by rw [List.length_map, List.length_zip]; omega), List.getElem_map, List.getElem_zip, List.getD_eq_getElem?_getD, List.getD_eq_getElem?_getD, List.getElem?_eq_getElem hk, List.getElem?_eq_getElem (by omega)]
  rfl
theorem flat_next (bs : List (List UInt8)) (k : Nat) (h : k < bs.length) : (bs.take (k + 1)).flatten = (bs.take k).flatten ++ bs.getD k [] := by
  rw [take_oneI bs k [] h, List.flatten_append]; simp
theorem flat_le (bs : List (List UInt8)) (k : Nat) : (bs.take k).flatten.length ≤ bs.flatten.length := by
  have : bs.flatten = (bs.take k).flatten ++ (bs.drop k).flatten := by rw [← List.flatten_append, List.take_append_drop]
  rw [this, List.length_append]; omega
/-- What a leaf's entries are like. -/
def EntOk (n : Nd) : Prop := n.chs.length = n.ents.length ∧ ∀ k, k < n.ents.length → (n.ents.getD k (⟨#[]⟩, ⟨#[]⟩)).1.size ≤ 120 ∧ (n.ents.getD k (⟨#[]⟩, ⟨#[]⟩)).2.size ≤ 64 ∧ 0 ≤ n.chs.getD k 0 ∧ n.chs.getD k 0 < 4096
/-- The slices came in ahead of the block that is filled. -/
structure Fil (w0 w : World) (g : Nat) (v : Nv) (n : Nd) : Prop where
  ls : Ls w0 v n
  bl : Below w0.heap.size w0 w
  lo : w0.heap.size ≤ g
theorem Fil.kept {w0 w w' : World} {g : Nat} {v : Nv} {n : Nd} (h : Fil w0 w g v n) (hk : Kept (fun y => y = g) w w') : Fil w0 w' g v n :=
  ⟨h.ls, h.bl.trans (hk.below h.bl.size (fun x hx => by rw [hx]; exact h.lo)), h.lo⟩
theorem Fil.at {w0 w : World} {g : Nat} {v : Nv} {n : Nd} (h : Fil w0 w g v n) : Ls w v n := h.ls.below h.bl
set_option maxHeartbeats 8000000 in
set_option maxRecDepth 100000 in
theorem withBody_leaf (n : Nd) (v : Nv) (w0 w : World) (g m : Nat) (l : List UInt8) (hf : Fil w0 w g v n) (hk1 : n.kind = 1) (ho : EntOk n) (hz : Zr w g l) (hm : m = l.length) (hl : l.length + (bsL n).flatten.length ≤ 512) :
    Calls Try.prog 24 #[.slice (some ⟨g, 0, none⟩) m 512, .agg (n.arr v)] w fun e w' => e = .returned (.slice (some ⟨g, 0, none⟩) (m + (bsL n).flatten.length) 512) ∧ Zr w' g (l ++ (bsL n).flatten) ∧ Kept (fun y => y = g) w w' := by
  obtain ⟨bs, hbs⟩ : ∃ bs, bs = bsL n := ⟨_, rfl⟩
  have BA : Hid (bs.length = n.ents.length ∧ ∀ k, k < n.ents.length → bs.getD k [] = enE (n.ents.getD k (⟨#[]⟩, ⟨#[]⟩)) (n.chs.getD k 0).toNat) := Lib.hid (by rw [hbs]; exact ⟨bsL_length n ho.1, fun k hk => bsL_at n ho.1 k hk⟩)
  rw [← hbs] at hl ⊢
  have F := Lib.hid hf
  have O := Lib.hid ho
  have LL := Lib.hid hl
  have MM := Lib.hid hm
  obtain ⟨kind, ents, chs, keys, kids, next, data⟩ := n
  obtain ⟨ve, vc, vk, vh⟩ := v
  simp only at hk1
  subst hk1
  obtain ⟨ae, ce, he, hle, hme⟩ := hf.ls.e.len
  obtain ⟨ac, cc, hc, hlc, hmc⟩ := hf.ls.c.len
  simp only at he hc hle hlc BA
  subst he hc
  unfold maxLen at hme hmc
  unfold Nd.arr
  simp only
  obtain ⟨ne, hne⟩ : ∃ k, k = ents.length := ⟨_, rfl⟩
  obtain ⟨nc, hnc⟩ : ∃ k, k = chs.length := ⟨_, rfl⟩
  rw [← hne, ← hnc]
  rw [← hne] at hle BA; rw [← hnc] at hlc
  have HE := Lib.hid hne; have HC := Lib.hid hnc
  have HQ : Hid (nc = ne) := Lib.hid (by rw [hnc, hne]; exact ho.1)
  obtain ⟨gx, hgx⟩ : ∃ gx, gx = w.heap.size := ⟨_, rfl⟩
  have ng : Hid (gx ≠ g) := Lib.hid (by have := lt_of_heap hz; omega)
  obtain ⟨X, hX⟩ : ∃ X, X = w.alloc (.cells #[.int .i64 1, .slice ae ne ce, .slice ac nc cc, vk, vh, .int .i64 next, .string data] 27) := ⟨_, rfl⟩
  have XG : Hid (X.heap[gx]? = some (.cells #[.int .i64 1, .slice ae ne ce, .slice ac nc cc, vk, vh, .int .i64 next, .string data] 27 (0, 0))) := Lib.hid (by rw [hX, hgx]; exact heap_alloc_new _ _)
  obtain ⟨cX0, cX1, cX2, cX3, cX4, cX5, cX6⟩ := node_cells XG.out
  have KX : Hid (Kept (fun y => y = g) w X ∧ Zr X g l) := Lib.hid ⟨by rw [hX]; exact Below.kept ((Below.refl _ _).alloc (Nat.le_refl _) _) _, by rw [hX]; exact hz.alloc _⟩
  have CX : Hid (∀ W ob, Kept (fun y => y = g) X W → (W.alloc ob).cell? ⟨gx, 2, none⟩ = some (.slice ac nc cc)) := Lib.hid (fun W ob h => (node_cells (by rw [Below.heap_alloc _ _ _ (by have := lt_of_heap XG.out; have := h.size; omega), h.block _ (lt_of_heap XG.out) ng.out]; exact XG.out)).2.2.1)
  have hX' := hX.symm
  have hgx' := hgx.symm
  clear hf ho hz hm hl hne hnc hX hgx hbs
  go_enter Try.func24, Try.ntmps24
  go_wp2_with fail
  clear cX0 cX1 cX2 cX3 cX4 cX5 cX6 hX' hgx'
  go_loopg [0, 16] ne (fun gg s0 si wr => ∃ (k : Nat) (m' : Nat), k ≤ ne ∧ gg = ne - k ∧ si = .int .i64 k ∧ s0 = .slice (some ⟨g, 0, none⟩) m' 512 ∧ m' = (l ++ (bs.take k).flatten).length ∧ Zr wr g (l ++ (bs.take k).flatten) ∧ Kept (fun y => y = g) X wr)
  case atStart => exact ⟨0, m, Nat.zero_le _, rfl, rfl, rfl, by simp [MM.out], by simpa using KX.out.2, Kept.refl _ _⟩
  case round =>
    obtain ⟨k, m', hk, hg, rfl, rfl, hm', hz', hkp⟩ := hrel
    have R : Aside (gk = ne - k ∧ m' = (l ++ (bs.take k).flatten).length ∧ Zr wr g (l ++ (bs.take k).flatten) ∧ Kept (fun y => y = g) X wr) := ⟨hg, hm', hz', hkp⟩
    clear hg hm' hz' hkp
    by_cases hlt : k < ne
    · have FR := Lib.hid ((F.out.kept KX.out.1).kept R.out.2.2.2)
      obtain ⟨b, off, hae, c0, c1⟩ := FR.out.at.e.at k (by rw [← HE.out]; exact hlt)
      obtain ⟨b', off', hac, d0⟩ := FR.out.at.c.at k (by rw [← HC.out, HQ.out]; exact hlt)
      simp only at hae hac c0 c1 d0
      have GT := Lib.hid (BA.out.2 k hlt)
      have OK : _ := O.out.2 k (by rw [← HE.out]; exact hlt)
      simp only at OK
      obtain ⟨x, hx⟩ : ∃ x, x = ents.getD k (⟨#[]⟩, ⟨#[]⟩) := ⟨_, rfl⟩
      obtain ⟨ci, hci⟩ : ∃ c, c = chs.getD k 0 := ⟨_, rfl⟩
      rw [← hx] at c0 c1
      rw [← hci] at d0
      rw [← hx, ← hci] at GT OK
      obtain ⟨xk, xv⟩ := x
      simp only at c0 c1 OK
      obtain ⟨s1, s2, s3, s4⟩ := OK
      obtain ⟨c, rfl⟩ : ∃ c : Nat, ci = (c : Int) := ⟨ci.toNat, by omega⟩
      have hc4 : c < 4096 := by omega
      rw [Int.toNat_natCast] at GT
      clear hx hci s3 s4
      subst hae hac
      have hlt' : (k : Int) < (ne : Int) := by omega
      have hltc : (k : Int) < (nc : Int) := by have := HQ.out; omega
      have FN := Lib.hid (flat_next bs k (by rw [BA.out.1]; exact hlt))
      rw [GT.out] at FN
      have FL := Lib.hid (flat_le bs (k + 1))
      obtain ⟨ge, hge⟩ : ∃ ge, ge = wr.heap.size := ⟨_, rfl⟩
      have nge : Hid (ge ≠ g) := Lib.hid (by have := lt_of_heap R.out.2.2.1; omega)
      obtain ⟨Y, hY⟩ : ∃ Y, Y = wr.alloc (.cells #[.string xk, .string xv] 29) := ⟨_, rfl⟩
      have ZY : Hid (Zr Y.drew g (l ++ (bs.take k).flatten)) := Lib.hid (by rw [hY]; exact R.out.2.2.1.alloc _)
      have KY : Hid (Kept (fun y => y = g) wr Y.drew) := Lib.hid (by
        rw [hY]
        have q := Below.kept ((Below.refl wr.heap.size wr).alloc (Nat.le_refl _) (.cells #[.string xk, .string xv] 29)) (fun y => y = g)
        exact ⟨q.os, q.tape, q.output, q.size, q.block⟩)
      have CY : Hid (Y.drew.cell? ⟨ge, 0, none⟩ = some (.string xk) ∧ Y.drew.cell? ⟨ge, 1, none⟩ = some (.string xv) ∧ Y.drew.cell? ⟨gx, 2, none⟩ = some (.slice (some ⟨b', off', none⟩) nc cc) ∧ Y.drew.cell? ⟨b', off' + k, none⟩ = some (.int .i64 (c : Int))) := Lib.hid (by
        refine ⟨?_, ?_, ?_, ?_⟩
        · rw [hY, hge]; exact World.cell?_alloc_new _ _ _ _
        · rw [hY, hge]; exact World.cell?_alloc_new _ _ _ _
        · rw [hY]; exact CX.out wr _ R.out.2.2.2
        · rw [hY]
          exact ((((Below.refl wr.heap.size wr).alloc (Nat.le_refl _) _)).cell (block_lt_of_cell d0)).trans d0)
      have WE : Hid (Calls Try.prog 32 #[.slice (some ⟨g, 0, none⟩) m' 512, .agg #[.string xk, .string xv], .int .i64 (c : Int)] Y.drew fun e w' => e = .returned (.slice (some ⟨g, 0, none⟩) (m' + (enE (xk, xv) c).length) 512) ∧ Zr w' g (l ++ (bs.take (k + 1)).flatten) ∧ Kept (fun y => y = g) X w' ∧ (w'.cell? ⟨ge, 0, none⟩ = some (.string xk) ∧ w'.cell? ⟨ge, 1, none⟩ = some (.string xv) ∧ w'.cell? ⟨gx, 2, none⟩ = some (.slice (some ⟨b', off', none⟩) nc cc) ∧ w'.cell? ⟨b', off' + k, none⟩ = some (.int .i64 (c : Int)))) := Lib.hid (by
        refine (withEntry_any g m' c xk xv (l ++ (bs.take k).flatten) Y.drew ZY.out R.out.2.1 ?_ s1 s2 (by omega)).mono ?_
        · have h1 := LL.out
          have h2 := FL.out
          rw [FN.out, List.length_append] at h2
          rw [List.length_append]
          omega
        · rintro e w' ⟨rfl, hz2, hk2⟩
          refine ⟨rfl, by rw [FN.out, ← List.append_assoc]; exact hz2, (R.out.2.2.2.trans KY.out (fun _ _ h => h)).trans hk2 (fun _ _ h => h), ?_⟩
          have hc' : ∀ p q u, Y.drew.cell? ⟨p, q, none⟩ = some u → p ≠ g → w'.cell? ⟨p, q, none⟩ = some u := fun p q u hu hne => by
            rw [← hu]
            unfold World.cell?
            simp only
            rw [hk2.block p (block_lt_of_cell hu) hne]
          obtain ⟨q0, q1, q2, q3⟩ := CY.out
          refine ⟨hc' _ _ _ q0 nge.out, hc' _ _ _ q1 nge.out, hc' _ _ _ q2 ng.out, hc' _ _ _ q3 ?_⟩
          intro e
          have hb := FR.out.bl
          subst e
          have hq : ∃ u, w0.cell? ⟨b', off' + k, none⟩ = some u := by
            obtain ⟨b2, off2, e2, d2⟩ := F.out.ls.c.at k (by rw [← HC.out, HQ.out]; exact hlt)
            simp only [Option.some.injEq, Addr.mk.injEq, and_true] at e2
            obtain ⟨rfl, rfl⟩ := e2
            exact ⟨_, d2⟩
          obtain ⟨u, hu⟩ := hq
          have := block_lt_of_cell hu
          have := F.out.lo
          simp only at *
          omega)
      have hY' := hY.symm
      have hge' := hge.symm
      clear hY hge d0
      go_wp2_with fail
      go_region_held (fun W : World => W.cell? ⟨ge, 0, none⟩ = some (.string xk) ∧ W.cell? ⟨ge, 1, none⟩ = some (.string xv) ∧ W.cell? ⟨gx, 2, none⟩ = some (.slice (some ⟨b', off', none⟩) nc cc) ∧ W.cell? ⟨b', off' + k, none⟩ = some (.int .i64 (c : Int))) (first | exact h1.2.2 | exact CY.out) (first | (go_at_call 32; refine WE.out.mono ?_; rintro e w1 ⟨rfl, h1⟩))
      have H1 := Lib.hid h1
      clear h1
      go_wp2_with fail
      go_roundg (ne - (k + 1))
      case measure => have := R.out.1; omega
      case rel => exact ⟨k + 1, _, by omega, rfl, by go_num, rfl, by rw [FN.out, ← List.append_assoc, List.length_append, ← R.out.2.1], H1.out.1, H1.out.2.1⟩
    · have ek : bs.take k = bs := List.take_of_length_le (by rw [BA.out.1]; omega)
      have e1 : m' = m + bs.flatten.length := by rw [R.out.2.1, ek, List.length_append, ← MM.out]
      have Z1 := Lib.hid R.out.2.2.1
      rw [ek] at Z1
      subst e1
      go_wp2_with fail
      go_ret
      exact ⟨rfl, Z1.out, KX.out.1.trans R.out.2.2.2 (fun _ _ h => h)⟩
end Go.Proofs.Ytmoghdpjemidgaa
