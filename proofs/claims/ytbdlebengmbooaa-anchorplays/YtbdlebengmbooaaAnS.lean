/-
  seeming.
-/
import Derived.Test.YtbdlebengmbooaaAnV
import Derived.RegionTactic
import Derived.BigRegion
namespace Go.Proofs.Ytbdlebengmbooaa
open Go.RowKit Go.Maps
def sub (b : List UInt8) (a n : Nat) : List UInt8 := (b.drop a).take n
theorem size_super : (Try.prog.info? 34).map (·.size) = some 9 := by kernel_rfl
theorem load_super (w : World) (g : Nat) (x : Sup) (h : w.heap[g]? = some (.cells x.arr 34 (0, 0))) : (loadVar 34 ⟨g, 0, none⟩).run Try.prog w = .ok (.agg x.arr) w :=
  run_loadVar_row w g _ _ _ _ _ h Try.underlying34 rfl size_super
theorem arr_one (s : Sup) : s.arr.all (·.oneCell') = true := by simp [Sup.arr, Value.oneCell']
def zeroS : Sup := ⟨0, 0, 0, 0, 0, 0, 0, 0, 0⟩
/-- What 512 bytes say. -/
def seA (b : List UInt8) : Sup := ⟨IntKind.i64.wrap (leN (sub b 8 8) : Int), IntKind.i64.wrap (leN (sub b 16 8) : Int), IntKind.i64.wrap (leN (sub b 24 4) : Int), IntKind.i64.wrap (leN (sub b 28 4) : Int), IntKind.i64.wrap (leN (sub b 32 8) : Int), IntKind.i64.wrap (leN (sub b 40 4) : Int), IntKind.i64.wrap (leN (sub b 44 4) : Int), IntKind.i64.wrap (leN (sub b 48 8) : Int), IntKind.i64.wrap (leN (sub b 56 8) : Int)⟩
theorem get_sub {w W : World} {b : List UInt8} {bb off cap : Nat} (hv : Bytes w (.slice (some ⟨bb, off, none⟩) 512 cap) b) (hl : b.length = 512) (a n : Nat) (hn : a + n ≤ 512) (h8 : n ≤ 8) (hb : Below w.heap.size w W) :
    Calls Try.prog 69 #[.slice (some ⟨bb, off + a, none⟩) n (cap - a)] W fun e w' => e = .returned (.int .u64 (leN (sub b a n) : Int)) ∧ w' = W := by
  have hb' : Bytes W (.slice (some ⟨bb, off, none⟩) b.length cap) b := by rw [hl]; exact hv.below hb
  have hd := hb'.drop a (by rw [hl]; omega)
  rw [← List.length_drop] at hd
  have ht := hd.take n (by rw [List.length_drop, hl]; omega)
  simp only [Option.map_some, add_plain] at ht
  exact get_any _ _ W ht (by show ((b.drop a).take n).length ≤ 8; rw [List.length_take]; omega)
/-- Of these bytes get tells N. -/
def Got (bb off cap : Nat) (b : List UInt8) (v : Value) (N : Nat) : Prop := ∃ a n, a + n ≤ 512 ∧ n ≤ 8 ∧ v = .slice (some ⟨bb, off + a, none⟩) n (cap - a) ∧ N = leN (sub b a n)
theorem got_any {w W : World} {b : List UInt8} {bb off cap : Nat} (hv : Bytes w (.slice (some ⟨bb, off, none⟩) 512 cap) b) (hl : b.length = 512) (v : Value) (N : Nat) (hb : Below w.heap.size w W) (h : Got bb off cap b v N) :
    Calls Try.prog 69 #[v] W fun e w' => e = .returned (.int .u64 (N : Int)) ∧ w' = W := by
  obtain ⟨a, n, h1, h2, rfl, rfl⟩ := h
  exact get_sub hv hl a n h1 h2 hb
set_option maxHeartbeats 8000000 in
set_option maxRecDepth 100000 in
theorem seeming_any (v : Value) (b : List UInt8) (w : World) (hv : Bytes w v b) (hl : b.length = 512) : Calls Try.prog 59 #[v] w fun e w' => e = .returned (.agg (seA b).arr) ∧ Below w.heap.size w w' := by
  obtain ⟨RR, hRR⟩ : ∃ RR, RR = seA b := ⟨_, rfl⟩
  rw [← hRR]
  have HR := Lib.hid hRR
  clear hRR
  have V := Lib.hid hv
  obtain ⟨a, cap, rfl, hlc, hcm, hn, hc⟩ := hv
  obtain ⟨bb, off, rfl, _⟩ := hc 0 (by omega)
  unfold maxLen at hcm
  rw [hl] at hlc V ⊢
  have HL := Lib.hid hl
  obtain ⟨N0, hN0⟩ : ∃ N : Nat, N = leN (sub b 8 8) := ⟨_, rfl⟩
  obtain ⟨E0, hE0⟩ : ∃ E, E = IntKind.i64.wrap (N0 : Int) := ⟨_, rfl⟩
  have D0 : Hid (Got bb off cap b (.slice (some ⟨bb, off + 8, none⟩) 8 (cap - 8)) N0) := Lib.hid ⟨8, 8, by omega, by omega, rfl, hN0⟩
  have e0 := hE0.symm
  obtain ⟨N1, hN1⟩ : ∃ N : Nat, N = leN (sub b 16 8) := ⟨_, rfl⟩
  obtain ⟨E1, hE1⟩ : ∃ E, E = IntKind.i64.wrap (N1 : Int) := ⟨_, rfl⟩
  have D1 : Hid (Got bb off cap b (.slice (some ⟨bb, off + 16, none⟩) 8 (cap - 16)) N1) := Lib.hid ⟨16, 8, by omega, by omega, rfl, hN1⟩
  have e1 := hE1.symm
  obtain ⟨N2, hN2⟩ : ∃ N : Nat, N = leN (sub b 24 4) := ⟨_, rfl⟩
  obtain ⟨E2, hE2⟩ : ∃ E, E = IntKind.i64.wrap (N2 : Int) := ⟨_, rfl⟩
  have D2 : Hid (Got bb off cap b (.slice (some ⟨bb, off + 24, none⟩) 4 (cap - 24)) N2) := Lib.hid ⟨24, 4, by omega, by omega, rfl, hN2⟩
  have e2 := hE2.symm
  obtain ⟨N3, hN3⟩ : ∃ N : Nat, N = leN (sub b 28 4) := ⟨_, rfl⟩
  obtain ⟨E3, hE3⟩ : ∃ E, E = IntKind.i64.wrap (N3 : Int) := ⟨_, rfl⟩
  have D3 : Hid (Got bb off cap b (.slice (some ⟨bb, off + 28, none⟩) 4 (cap - 28)) N3) := Lib.hid ⟨28, 4, by omega, by omega, rfl, hN3⟩
  have e3 := hE3.symm
  obtain ⟨N4, hN4⟩ : ∃ N : Nat, N = leN (sub b 32 8) := ⟨_, rfl⟩
  obtain ⟨E4, hE4⟩ : ∃ E, E = IntKind.i64.wrap (N4 : Int) := ⟨_, rfl⟩
  have D4 : Hid (Got bb off cap b (.slice (some ⟨bb, off + 32, none⟩) 8 (cap - 32)) N4) := Lib.hid ⟨32, 8, by omega, by omega, rfl, hN4⟩
  have e4 := hE4.symm
  obtain ⟨N5, hN5⟩ : ∃ N : Nat, N = leN (sub b 40 4) := ⟨_, rfl⟩
  obtain ⟨E5, hE5⟩ : ∃ E, E = IntKind.i64.wrap (N5 : Int) := ⟨_, rfl⟩
  have D5 : Hid (Got bb off cap b (.slice (some ⟨bb, off + 40, none⟩) 4 (cap - 40)) N5) := Lib.hid ⟨40, 4, by omega, by omega, rfl, hN5⟩
  have e5 := hE5.symm
  obtain ⟨N6, hN6⟩ : ∃ N : Nat, N = leN (sub b 44 4) := ⟨_, rfl⟩
  obtain ⟨E6, hE6⟩ : ∃ E, E = IntKind.i64.wrap (N6 : Int) := ⟨_, rfl⟩
  have D6 : Hid (Got bb off cap b (.slice (some ⟨bb, off + 44, none⟩) 4 (cap - 44)) N6) := Lib.hid ⟨44, 4, by omega, by omega, rfl, hN6⟩
  have e6 := hE6.symm
  obtain ⟨N7, hN7⟩ : ∃ N : Nat, N = leN (sub b 48 8) := ⟨_, rfl⟩
  obtain ⟨E7, hE7⟩ : ∃ E, E = IntKind.i64.wrap (N7 : Int) := ⟨_, rfl⟩
  have D7 : Hid (Got bb off cap b (.slice (some ⟨bb, off + 48, none⟩) 8 (cap - 48)) N7) := Lib.hid ⟨48, 8, by omega, by omega, rfl, hN7⟩
  have e7 := hE7.symm
  obtain ⟨N8, hN8⟩ : ∃ N : Nat, N = leN (sub b 56 8) := ⟨_, rfl⟩
  obtain ⟨E8, hE8⟩ : ∃ E, E = IntKind.i64.wrap (N8 : Int) := ⟨_, rfl⟩
  have D8 : Hid (Got bb off cap b (.slice (some ⟨bb, off + 56, none⟩) 8 (cap - 56)) N8) := Lib.hid ⟨56, 8, by omega, by omega, rfl, hN8⟩
  have e8 := hE8.symm
  have HG : Hid (RR = ⟨E0, E1, E2, E3, E4, E5, E6, E7, E8⟩) := Lib.hid (by rw [HR.out]; unfold seA; rw [hE0, hE1, hE2, hE3, hE4, hE5, hE6, hE7, hE8, hN0, hN1, hN2, hN3, hN4, hN5, hN6, hN7, hN8])
  have GG := Lib.hid (fun (W : World) (v : Value) (N : Nat) (hb : Below w.heap.size w W) (h : Got bb off cap b v N) => got_any V.out HL.out v N hb h)
  have GA : Hid (RR.arr = #[.int .i64 E0, .int .i64 E1, .int .i64 E2, .int .i64 E3, .int .i64 E4, .int .i64 E5, .int .i64 E6, .int .i64 E7, .int .i64 E8]) := Lib.hid (by rw [HG.out]; rfl)
  rw [GA.out]
  have BL : Hid (∀ o : Obj, Below w.heap.size w (w.alloc o) ∧ Below w.heap.size w (w.alloc o).drew) := Lib.hid (fun o => by
    have h1 : Below w.heap.size w (w.alloc o) := (Below.refl _ _).alloc (Nat.le_refl _) _
    exact ⟨h1, ⟨h1.os, h1.tape, h1.output, h1.size, h1.block⟩⟩)
  clear hl hn hc hE0 hN0 hE1 hN1 hE2 hN2 hE3 hN3 hE4 hN4 hE5 hN5 hE6 hN6 hE7 hN7 hE8 hN8
  have q16 : (16 : Int) ≤ (cap : Int) := by omega
  have q24 : (24 : Int) ≤ (cap : Int) := by omega
  have q28 : (28 : Int) ≤ (cap : Int) := by omega
  have q32 : (32 : Int) ≤ (cap : Int) := by omega
  have q40 : (40 : Int) ≤ (cap : Int) := by omega
  have q44 : (44 : Int) ≤ (cap : Int) := by omega
  have q48 : (48 : Int) ≤ (cap : Int) := by omega
  have q56 : (56 : Int) ≤ (cap : Int) := by omega
  have q64 : (64 : Int) ≤ (cap : Int) := by omega
  have p8 : ¬ cap = 8 := by omega
  have p16 : ¬ cap = 16 := by omega
  have p24 : ¬ cap = 24 := by omega
  have p28 : ¬ cap = 28 := by omega
  have p32 : ¬ cap = 32 := by omega
  have p40 : ¬ cap = 40 := by omega
  have p44 : ¬ cap = 44 := by omega
  have p48 : ¬ cap = 48 := by omega
  have p56 : ¬ cap = 56 := by omega
  go_enter Try.func59, Try.ntmps59
  go_wp2_with fail
  go_region_held (fun _ : World => True) (exact trivial) (first | (go_at_call 69; refine (GG.out _ _ _ (by first | exact (BL.out _).1 | exact (BL.out _).2) (by with_reducible first | exact D0.out | exact D1.out | exact D2.out | exact D3.out | exact D4.out | exact D5.out | exact D6.out | exact D7.out | exact D8.out)).mono ?_; rintro r w8 ⟨rfl, rfl⟩))
  go_wp2_with fail
  refine bodyPost_ret (results_cell_row rfl _ _ w.heap.size 34 #[.int .i64 E0, .int .i64 E1, .int .i64 E2, .int .i64 E3, .int .i64 E4, .int .i64 E5, .int .i64 E6, .int .i64 E7, .int .i64 E8] (0, 0) _ rfl ?_ Try.underlying34 rfl size_super) rfl ⟨rfl, ?_⟩
  · exact heap_alloc_new _ _
  · exact (BL.out _).2
end Go.Proofs.Ytbdlebengmbooaa
