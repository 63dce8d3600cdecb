/-
  AccessHoldsSixteen.
-/
import Derived.Test.YtiddgagfdijjeaaDoorAcK
namespace Go.Proofs.YtiddgagfdijjeaaDoor
open Go.RowKit
namespace Ac
theorem tt_start (P : ByteArray) : Tt D2 P [] [] := ⟨fun x => by
  refine ⟨fun hx => ?_, fun h => by simp at h⟩
  have q := (InD.del (x := x) (D := D1) (p := x0.p) (q := x0.n) (by decide) (by decide)).1 hx
  rcases (InD.put (x := x) (y := x0) Maps.isMap_empty (by decide) (by decide)).1 q.1 with rfl | r
  · exact absurd ⟨rfl, rfl⟩ q.2
  · have := r.1.1 (.lit (.bool true))
    have e := r.1.1 (.map [])
    have f : ∀ z : DataW Unit, (DataW.map [] : DataW Unit).atKey (kl x.p x.n) z = z := fun z => rfl
    rw [f] at this e
    rw [← e] at this
    simp at this, List.Pairwise.nil, fun x hx => by simp at hx, List.Pairwise.nil⟩
def mk (n : Int) (k : Nat) : Nat := (n % 18446744073709551616).toNat % 2 ^ k
theorem mk_lt (n : Int) (k : Nat) : mk n k < 2 ^ k := Nat.mod_lt _ (Nat.two_pow_pos k)
theorem and_mk (n : Int) (k : Nat) (hk : k ≤ 62) : bits .and .i64 n (((2 ^ k - 1 : Nat)) : Int) = (mk n k : Int) := by
  have hp : 2 ^ k ≤ 4611686018427387904 := Nat.le_trans (Nat.pow_le_pow_right (by decide) hk) (by decide)
  have hp0 : 0 < 2 ^ k := Nat.two_pow_pos k
  have h1 : (BitVec.ofInt 64 n).toNat = (n % 18446744073709551616).toNat := by rw [BitVec.toNat_ofInt]; rfl
  have h2 : (BitVec.ofInt 64 (((2 ^ k - 1 : Nat)) : Int)).toNat = 2 ^ k - 1 := by
    rw [BitVec.ofInt_natCast, BitVec.toNat_ofNat]; exact Nat.mod_eq_of_lt (by omega)
  show IntKind.i64.wrap ((BitVec.ofInt 64 n &&& BitVec.ofInt 64 (((2 ^ k - 1 : Nat)) : Int)).toNat : Int) = _
  rw [BitVec.toNat_and, h1, h2, Nat.and_two_pow_sub_one_eq_mod, IntKind.wrap_i64]
  unfold mk
  have := Nat.mod_lt (n % 18446744073709551616).toNat hp0
  omega
theorem and_15 (n : Int) : bits .and .i64 n 15 = (mk n 4 : Int) := and_mk n 4 (by decide)
theorem conv_one (W : World) (k : Nat) (hk : k ≤ 200) : (convert 38 9 (.slice (some ⟨W.heap.size, 0, none⟩) 1 1)).run Tryd.prog (W.alloc (.cells #[.int .u8 (k : Int)] 5)) = .ok (.string ⟨#[UInt8.ofNat k]⟩) (W.alloc (.cells #[.int .u8 (k : Int)] 5)) := by
  have h : (⟨#[UInt8.ofNat k]⟩ : ByteArray) = txt [UInt8.ofNat k] := rfl
  rw [h]
  refine convT ⟨_, _, rfl, Nat.le_refl _, by decide, fun h => by simp at h, fun j hj => ⟨W.heap.size, 0, rfl, ?_⟩⟩
  have hj0 : j = 0 := by simp at hj; omega
  subst hj0
  rw [Nat.zero_add, World.cell?_alloc_new]
  have : c8 (UInt8.ofNat k) = (k : Int) := by rw [c8_of _ (by omega)]
  show some (Value.int .u8 (k : Int)) = some (.int .u8 (c8 (UInt8.ofNat k)))
  rw [this]
/-- The i-th name. -/
def nm (i : Nat) : ByteArray := ⟨#[110, UInt8.ofNat (97 + i)]⟩
def en (i : Nat) : Ent := (nm i, ⟨#[115]⟩, ((i % 4 : Nat) : Int))
def Nn : Nat → List Ent
  | 0 => []
  | i + 1 => insE (Nn i) (en i)
theorem ok_en (i : Nat) (h : i < 16) : Ok (en i) := by
  obtain rfl | rfl | rfl | rfl | rfl | rfl | rfl | rfl | rfl | rfl | rfl | rfl | rfl | rfl | rfl | rfl : i = 0 ∨ i = 1 ∨ i = 2 ∨ i = 3 ∨ i = 4 ∨ i = 5 ∨ i = 6 ∨ i = 7 ∨ i = 8 ∨ i = 9 ∨ i = 10 ∨ i = 11 ∨ i = 12 ∨ i = 13 ∨ i = 14 ∨ i = 15 := by omega
  all_goals exact ⟨by decide +kernel, by decide +kernel, by decide +kernel, by decide +kernel, by decide +kernel⟩
theorem ok_go (i : Nat) (h : i < 16) : ((Nn i).any (fun y => decide (y.1 = (en i).1)) || decide ((Nn i).length < 16)) = true := by
  obtain rfl | rfl | rfl | rfl | rfl | rfl | rfl | rfl | rfl | rfl | rfl | rfl | rfl | rfl | rfl | rfl : i = 0 ∨ i = 1 ∨ i = 2 ∨ i = 3 ∨ i = 4 ∨ i = 5 ∨ i = 6 ∨ i = 7 ∨ i = 8 ∨ i = 9 ∨ i = 10 ∨ i = 11 ∨ i = 12 ∨ i = 13 ∨ i = 14 ∨ i = 15 := by omega
  all_goals decide +kernel
theorem wrap_u8 {x : Int} (h0 : 0 ≤ x) (h1 : x < 256) : IntKind.u8.wrap x = x := by
  show x % 256 = x
  omega
theorem wrap64 {x : Int} (h0 : 0 ≤ x) (h1 : x < 1000) : IntKind.i64.wrap x = x := by
  rw [IntKind.wrap_i64]
  omega
def N1 (g : Nat) : List Ent := insE (Nn 16) (nm g, ⟨#[122]⟩, 0)
def N2 (g : Nat) : List Ent := (N1 g).filter (fun y => decide (y.1 ≠ nm g))
def N3 (g : Nat) : List Ent := insE (N2 g) (⟨#[120]⟩, ⟨#[115]⟩, 0)
theorem nm_size (g : Nat) : (nm g).size ≤ maxLen := by show 2 ≤ maxLen; decide
theorem okX : Ok (⟨#[120]⟩, ⟨#[115]⟩, 0) := ⟨by decide +kernel, by decide +kernel, by decide, by decide, by decide⟩
theorem okY : Ok (⟨#[121]⟩, ⟨#[115]⟩, 0) := ⟨by decide +kernel, by decide +kernel, by decide, by decide, by decide⟩
theorem okZ (g : Nat) (h : g < 16) : Ok (nm g, ⟨#[122]⟩, 0) := ⟨(ok_en g h).q, by show L.nameB ⟨#[122]⟩ = true; decide +kernel, by show (0 : Int) ≤ 0 ∧ (0 : Int) ≤ 3; decide, by show 2 ≤ 32; decide, by show 1 ≤ 32; decide⟩
theorem all16 {p : Nat → Bool} (h : (List.range 16).all p = true) (g : Nat) (hg : g < 16) : p g = true := List.all_eq_true.1 h g (List.mem_range.2 hg)
theorem f2 (g : Nat) (h : g < 16) : ((Nn 16).any (fun y => decide (y.1 = nm g)) || decide ((Nn 16).length < 16)) = true := all16 (p := fun g => ((Nn 16).any (fun y => decide (y.1 = nm g)) || decide ((Nn 16).length < 16))) (by decide +kernel) g h
theorem f3 (g : Nat) (h : g < 16) : (N1 g).length = 16 := of_decide_eq_true (all16 (p := fun g => decide ((N1 g).length = 16)) (by decide +kernel) g h)
theorem f6 (g : Nat) (h : g < 16) : (N1 g).any (fun y => decide (y.1 = nm g)) = true := all16 (p := fun g => (N1 g).any (fun y => decide (y.1 = nm g))) (by decide +kernel) g h
theorem f7 (g : Nat) (h : g < 16) : (N2 g).any (fun y => decide (y.1 = nm g)) = false := by
  have := all16 (p := fun g => !(N2 g).any (fun y => decide (y.1 = nm g))) (by decide +kernel) g h
  simpa using this
theorem f8 (g : Nat) (h : g < 16) : ((N2 g).any (fun y => decide (y.1 = ⟨#[120]⟩)) || decide ((N2 g).length < 16)) = true := all16 (p := fun g => ((N2 g).any (fun y => decide (y.1 = ⟨#[120]⟩)) || decide ((N2 g).length < 16))) (by decide +kernel) g h
theorem f9 (g : Nat) (h : g < 16) : (N3 g).any (fun y => decide (y.1 = ⟨#[121]⟩)) = false := by
  have := all16 (p := fun g => !(N3 g).any (fun y => decide (y.1 = ⟨#[121]⟩))) (by decide +kernel) g h
  simpa using this
theorem qT : ((⟨#[47, 113]⟩ : ByteArray).toList == [47, 113]) = true := by rw [ByteArray.toList_eq]; rfl
theorem okQ : (L.splitO ⟨#[47, 113]⟩).isSome = true := by
  have e : (⟨#[47, 113]⟩ : ByteArray) = L.pth [⟨#[113]⟩] := by decide +kernel
  rw [e, L.splitO_good (ts := [⟨#[113]⟩]) ⟨by decide +kernel, by decide, by decide +kernel⟩]; rfl
theorem okR : (L.splitO ⟨#[47, 114]⟩).isSome = true := by
  have e : (⟨#[47, 114]⟩ : ByteArray) = L.pth [⟨#[114]⟩] := by decide +kernel
  rw [e, L.splitO_good (ts := [⟨#[114]⟩]) ⟨by decide +kernel, by decide, by decide +kernel⟩]; rfl
theorem no16 : (Nn 16).any (fun y => decide (y.1 = ⟨#[120]⟩)) = false := by decide +kernel
theorem le16 : 16 ≤ (Nn 16).length := by decide +kernel
theorem f10 (g : Nat) (h : g < 16) : (N3 g).length = 16 := of_decide_eq_true (all16 (p := fun g => decide ((N3 g).length = 16)) (by decide +kernel) g h)
end Ac
end Go.Proofs.YtiddgagfdijjeaaDoor
