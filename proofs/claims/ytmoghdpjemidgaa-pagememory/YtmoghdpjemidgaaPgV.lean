/-
  withEntry.
-/
import Derived.Test.YtmoghdpjemidgaaPgW
namespace Go.Proofs.Ytmoghdpjemidgaa
open Go.RowKit Go.Maps
/-- An entry's bytes. -/
def enE (e : Ent) (c : Nat) : List UInt8 := [UInt8.ofNat e.1.size, UInt8.ofNat (if c = 0 then e.2.size else 255)] ++ e.1.data.toList ++ (if c = 0 then e.2.data.toList else leB 4 c)
theorem enE_length (e : Ent) (c : Nat) : (enE e c).length = 2 + e.1.size + (if c = 0 then e.2.size else 4) := by
  unfold enE
  rw [List.length_append, List.length_append, str_size]
  split
  · rw [str_size]; simp <;> omega
  · rw [leB_length]; simp <;> omega
set_option maxHeartbeats 2000000 in
theorem withEntry_any (g n x : Nat) (xk xv : ByteArray) (l : List UInt8) (w : World) (hz : Zr w g l) (hn : n = l.length) (hl : l.length + (enE (xk, xv) x).length ≤ 512) (hk : xk.size ≤ 120) (hv : xv.size ≤ 64) (hx : x < 4294967296) :
    Calls Try.prog 32 #[.slice (some ⟨g, 0, none⟩) n 512, .agg #[.string xk, .string xv], .int .i64 (x : Int)] w fun e w' => e = .returned (.slice (some ⟨g, 0, none⟩) (n + (enE (xk, xv) x).length) 512) ∧ Zr w' g (l ++ enE (xk, xv) x) ∧ Kept (fun y => y = g) w w' := by
  have NN := Lib.hid hn
  have EL := Lib.hid (enE_length (xk, xv) x)
  simp only at EL
  have LL := Lib.hid hl
  have k8 : Hid ((xk.size : Int) = c8 (UInt8.ofNat xk.size)) := Lib.hid (c8_of _ (by omega)).symm
  have v8 : Hid ((xv.size : Int) = c8 (UInt8.ofNat xv.size)) := Lib.hid (c8_of _ (by omega)).symm
  have f8 : Hid ((255 : Int) = c8 (UInt8.ofNat 255)) := Lib.hid (c8_of 255 (by omega)).symm
  obtain ⟨X, hX⟩ : ∃ X, X = w.alloc (.cells #[.string xk, .string xv] 29) := ⟨_, rfl⟩
  obtain ⟨gn, hgn⟩ : ∃ gn, gn = w.heap.size := ⟨_, rfl⟩
  have ng : Hid (gn ≠ g ∧ w.heap.size ≤ gn) := Lib.hid ⟨by have := lt_of_heap hz; omega, by omega⟩
  have KX : Hid (Kept (fun y => y = g) w X) := Lib.hid (by rw [hX]; exact Below.kept ((Below.refl _ _).alloc (Nat.le_refl _) _) _)
  have ZX : Hid (Zr X g l) := Lib.hid (by rw [hX]; exact hz.alloc _)
  have CX : Hid (∀ W, Kept (fun y => y = g) X W → W.cell? ⟨gn, 0, none⟩ = some (.string xk) ∧ W.cell? ⟨gn, 1, none⟩ = some (.string xv)) := Lib.hid (fun W h => by
    have hh : W.heap[gn]? = some (.cells #[.string xk, .string xv] 29 (0, 0)) := by
      rw [h.block gn (by rw [hX, hgn]; simp) ng.out.1, hX, hgn]; exact heap_alloc_new _ _
    exact ⟨by rw [cell_of_row W gn 0 _ _ _ hh]; rfl, by rw [cell_of_row W gn 1 _ _ _ hh]; rfl⟩)
  obtain ⟨p0, p1⟩ := CX.out X (Kept.refl _ _)
  have hX' := hX.symm
  have hgn' := hgn.symm
  clear hX hgn hz hn hl
  by_cases h0 : x = 0
  · subst h0
    have E : Hid (enE (xk, xv) 0 = [UInt8.ofNat xk.size, UInt8.ofNat xv.size] ++ xk.data.toList ++ xv.data.toList) := Lib.hid rfl
    rw [if_pos rfl] at EL
    have L2 : Hid (l.length + 2 ≤ 512) := Lib.hid (by have := LL.out; have := EL.out; omega)
    have N2 : Hid (n + 2 = (l ++ [UInt8.ofNat xk.size, UInt8.ofNat xv.size]).length) := Lib.hid (by rw [List.length_append, ← NN.out]; rfl)
    have L3 : Hid ((l ++ [UInt8.ofNat xk.size, UInt8.ofNat xv.size]).length + xk.size ≤ 512) := Lib.hid (by rw [← N2.out]; have := LL.out; have := EL.out; have := NN.out; omega)
    have N3 : Hid (n + 2 + xk.size = (l ++ [UInt8.ofNat xk.size, UInt8.ofNat xv.size] ++ xk.data.toList).length) := Lib.hid (by rw [List.length_append, ← N2.out, str_size])
    have L4 : Hid ((l ++ [UInt8.ofNat xk.size, UInt8.ofNat xv.size] ++ xk.data.toList).length + xv.size ≤ 512) := Lib.hid (by rw [← N3.out]; have := LL.out; have := EL.out; have := NN.out; omega)
    go_enter Try.func32, Try.ntmps32
    go_wp2_with (first | (refine app_two rfl (.tmp 13) (.tmp 20) rfl (g := g) (n := n) (l := l) rfl ZX.out NN.out L2.out (xk.size : Int) ((xv.size : Int)) (UInt8.ofNat xk.size) (UInt8.ofNat xv.size) k8.out v8.out rfl ?_; intro w1 H1; obtain ⟨p0, p1⟩ := CX.out w1 H1.out.2) | (refine app_inS rfl (.tmp 22) (.tmp 24) rfl (g := g) (n := n + 2) (l := l ++ [UInt8.ofNat xk.size, UInt8.ofNat xv.size]) (t := xk) rfl H1.out.1 N2.out L3.out rfl ?_; intro w2 H2; have K2 := Lib.hid (H1.out.2.trans H2.out.2 (fun _ _ h => h)); obtain ⟨p0, p1⟩ := CX.out w2 K2.out) | (refine app_inS rfl (.tmp 31) (.tmp 33) rfl (g := g) (n := n + 2 + xk.size) (l := l ++ [UInt8.ofNat xk.size, UInt8.ofNat xv.size] ++ xk.data.toList) (t := xv) rfl H2.out.1 N3.out L4.out rfl ?_; intro w3 H3))
    go_ret
    refine ⟨?_, ?_, (KX.out.trans K2.out (fun _ _ h => h)).trans H3.out.2 (fun _ _ h => h)⟩
    · rw [EL.out, show n + (2 + xk.size + xv.size) = n + 2 + xk.size + xv.size by omega]; rfl
    · have := H3.out.1
      rw [E.out]
      simpa only [List.append_assoc] using this
  · have g0 : ((x : Int) != 0) = true := by rw [bne_iff_ne]; omega
    have E : Hid (enE (xk, xv) x = [UInt8.ofNat xk.size, UInt8.ofNat 255] ++ xk.data.toList ++ leB 4 x) := Lib.hid (by unfold enE; rw [if_neg h0, if_neg h0])
    rw [if_neg h0] at EL
    have XL := Lib.hid hx
    clear h0 hx
    have L2 : Hid (l.length + 2 ≤ 512) := Lib.hid (by have := LL.out; have := EL.out; omega)
    have N2 : Hid (n + 2 = (l ++ [UInt8.ofNat xk.size, UInt8.ofNat 255]).length) := Lib.hid (by rw [List.length_append, ← NN.out]; rfl)
    have L3 : Hid ((l ++ [UInt8.ofNat xk.size, UInt8.ofNat 255]).length + xk.size ≤ 512) := Lib.hid (by rw [← N2.out]; have := LL.out; have := EL.out; have := NN.out; omega)
    have N3 : Hid (n + 2 + xk.size = (l ++ [UInt8.ofNat xk.size, UInt8.ofNat 255] ++ xk.data.toList).length) := Lib.hid (by rw [List.length_append, ← N2.out, str_size])
    have L4 : Hid ((l ++ [UInt8.ofNat xk.size, UInt8.ofNat 255] ++ xk.data.toList).length + 4 ≤ 512) := Lib.hid (by rw [← N3.out]; have := LL.out; have := EL.out; have := NN.out; omega)
    go_enter Try.func32, Try.ntmps32
    go_wp2_with (first | (refine app_two rfl (.tmp 13) (.tmp 20) rfl (g := g) (n := n) (l := l) rfl ZX.out NN.out L2.out (xk.size : Int) (255) (UInt8.ofNat xk.size) (UInt8.ofNat 255) k8.out f8.out rfl ?_; intro w1 H1; obtain ⟨p0, p1⟩ := CX.out w1 H1.out.2) | (refine app_inS rfl (.tmp 22) (.tmp 24) rfl (g := g) (n := n + 2) (l := l ++ [UInt8.ofNat xk.size, UInt8.ofNat 255]) (t := xk) rfl H1.out.1 N2.out L3.out rfl ?_; intro w2 H2; have K2 := Lib.hid (H1.out.2.trans H2.out.2 (fun _ _ h => h)); obtain ⟨p0, p1⟩ := CX.out w2 K2.out) | (go_at_call 33; refine (withBlock_any g (n + 2 + xk.size) x (l ++ [UInt8.ofNat xk.size, UInt8.ofNat 255] ++ xk.data.toList) w2 H2.out.1 N3.out L4.out XL.out).mono ?_; rintro e w3 ⟨rfl, h3, k3⟩; have H3 := Lib.hid h3; have K3 := Lib.hid k3; clear h3 k3))
    go_ret
    refine ⟨?_, ?_, (KX.out.trans K2.out (fun _ _ h => h)).trans K3.out (fun _ _ h => h)⟩
    · rw [EL.out, show n + (2 + xk.size + 4) = n + 2 + xk.size + 4 by omega]; rfl
    · have := H3.out
      rw [E.out]
      simpa only [List.append_assoc] using this
end Go.Proofs.Ytmoghdpjemidgaa
