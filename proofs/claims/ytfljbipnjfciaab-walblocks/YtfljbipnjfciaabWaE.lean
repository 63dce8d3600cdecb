/-
  bytes.Clone, bytes.Equal; Unblock, Block.
-/
import Derived.Test.YtfljbipnjfciaabWaD
namespace Go.Proofs.Ytfljbipnjfciaab
open Go.RowKit Go.Maps
theorem results_cell2 {fn : Func} {p u v : Tmp} {ty : TypeId} (h : fn.results = #[.cell p ty, .tmp u, .tmp v]) (tmps : Array Value) (w : World) (ad : Addr) (x : Value)
    (hp : tmps.getD p undef = .pointer (some ad)) (hl : (loadVar ty ad).run Try.prog w = .ok x w) :
    (results fn tmps).run Try.prog w = .ok (.tuple #[x, tmps.getD u undef, tmps.getD v undef]) w := by
  have hp' : tmps[p]?.getD undef = .pointer (some ad) := by simpa using hp
  simp [results, h, hp', asAddr, hl, Result.andThen]
theorem size_group : (Try.prog.info? 23).map (·.size) = some 5 := by kernel_rfl
theorem load_group (w : World) (g : Nat) (x : Grp) (h : w.heap[g]? = some (.cells x.arr 23 (0, 0))) : (loadVar 23 ⟨g, 0, none⟩).run Try.prog w = .ok (.agg x.arr) w :=
  run_loadVar_row w g _ _ _ _ _ h Try.underlying23 rfl size_group
theorem own_empty (w : World) : Own w.heap.size (w.alloc (.cells #[] 5)) (.slice (some ⟨w.heap.size, 0, none⟩) 0 0) [] :=
  own_of (l := []) (heap_alloc_new _ _) (Nat.le_refl _) rfl (by decide)
set_option maxHeartbeats 400000 in
set_option maxRecDepth 100000 in
theorem clone_any (v : Value) (l : List UInt8) (w : World) (hv : Bytes w v l) (h0 : 0 < l.length) (hl : l.length ≤ 1000000) : Calls Try.prog 36 #[v] w fun e w' => ∃ v', e = .returned v' ∧ Own w.heap.size w' v' l ∧ Below w.heap.size w w' := by
  have V := Lib.hid hv
  obtain ⟨a, cap, rfl, hlc, hcm, hn, hc⟩ := hv
  obtain ⟨b, off, rfl, _⟩ := hc 0 h0
  have BV : Hid (Bytes (w.alloc (.cells #[] 5)) (.slice (some ⟨b, off, none⟩) l.length cap) l) := Lib.hid (V.out.below ((Below.refl _ _).alloc (Nat.le_refl _) _))
  have OE := Lib.hid (own_empty w)
  obtain ⟨n, hnn⟩ : ∃ n, n = l.length := ⟨_, rfl⟩
  rw [← hnn] at BV ⊢
  have LL : Hid (([] : List UInt8).length + l.length ≤ 140737488355328) := Lib.hid (by simp; omega)
  have hq : ∀ (w : World) (n : Nat), (binOp BinOp.eql 24 (.slice (some ⟨b, off, none⟩) n cap) (.slice none 0 0)).run Try.prog w = .ok (.bool false) w := fun w n => by first | rfl | (simp [binOp, run_underlying Try.underlying24, Result.andThen]; done) | go_simp
  clear hn hc hlc hcm hnn
  go_enter Try.func36, Try.ntmps36
  go_wp2_with (refine app_bytes rfl (.tmp 5) (.tmp 6) rfl (B := w.heap.size) (v := .slice (some ⟨w.heap.size, 0, none⟩) 0 0) (u := .slice (some ⟨b, off, none⟩) n cap) (l := []) (m := l) rfl OE.out (by simp) rfl BV.out LL.out ?_)
  intro v' w' ho hg _
  have R := Lib.hid (And.intro ho hg)
  clear ho hg
  go_wp2_with fail
  go_ret
  refine ⟨_, rfl, R.out.1, ?_⟩
  exact ((Below.refl _ _).alloc (Nat.le_refl _) _).trans (grown_below R.out.2 OE.out (by simp))
set_option maxHeartbeats 400000 in
theorem equal_any (v v' : Value) (l m : List UInt8) (w : World) (hv : Bytes w v l) (hv' : Bytes w v' m) :
    Calls Try.prog 37 #[v, v'] w fun e w' => e = .returned (.bool (decide (l = m))) ∧ w' = w := by
  have h1 := convT hv
  have h2 := convT hv'
  go_enter Try.func37, Try.ntmps37
  go_wp2
  go_ret
  exact ⟨congrArg (fun b => Ending.returned (.bool b)) (txt_beq l m), rfl⟩
def sub (b : List UInt8) (a n : Nat) : List UInt8 := (b.drop a).take n
/-- What 512 bytes say. -/
def unG (b : List UInt8) : Grp := ⟨IntKind.i64.wrap (leN (sub b 8 8) : Int), IntKind.i64.wrap (leN (sub b 16 8) : Int), IntKind.i64.wrap (leN (sub b 2 2) : Int), IntKind.i64.wrap (leN (sub b 4 2) : Int), IntKind.i64.wrap (leN (sub b 24 4) : Int)⟩
def unP (b : List UInt8) : List UInt8 := sub b 32 (shG (unG b)).toNat
def zeroG : Grp := ⟨0, 0, 0, 0, 0⟩
/-- What Unblock answers of them. -/
def unR (b : List UInt8) : Grp × List UInt8 × Int := if valG (unG b) = true ∧ layB (unG b) (unP b) = b then (unG b, unP b, 0) else (zeroG, [], 2)
theorem Val.share {g : Grp} (h : Val g) : 1 ≤ shG g ∧ shG g ≤ 464 := by
  obtain ⟨h1, h2, h3, h4, h5, h6, h7, h8, h9, h10⟩ := h
  unfold shG
  omega
set_option maxHeartbeats 400000 in
theorem unblock_short (v : Value) (b : List UInt8) (w : World) (hv : Bytes w v b) (hl : b.length ≠ 512) : Calls Try.prog 10 #[v] w fun e w' => e = .returned (.tuple #[.agg zeroG.arr, .slice none 0 0, .int .i64 61]) ∧ Below w.heap.size w w' := by
  obtain ⟨a, cap, rfl, hlc, hcm, hn, hc⟩ := hv
  unfold maxLen at hcm
  have hne : ((b.length : Int) != 512) = true := by rw [bne_iff_ne]; omega
  obtain ⟨n, hnn⟩ : ∃ n, n = b.length := ⟨_, rfl⟩
  rw [← hnn] at hne hlc ⊢
  clear hc hn hnn
  go_enter Try.func10, Try.ntmps10
  go_wp2_with fail
  refine bodyPost_ret (results_cell2 rfl _ _ ⟨w.heap.size, 0, none⟩ (.agg zeroG.arr) rfl (load_group _ _ zeroG ?_)) rfl ⟨rfl, ?_⟩
  · exact heap_alloc_new _ _
  · exact (Below.refl _ _).alloc (Nat.le_refl _) _
end Go.Proofs.Ytfljbipnjfciaab
