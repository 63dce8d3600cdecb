/-
  What Block and Unblock answer, the program's and the document's alike.
-/
import Derived.Test.YtfljbipnjfciaabRwE
import Derived.Test.YtfljbipnjfciaabBkA
namespace Go.Proofs.Ytfljbipnjfciaab
open Go.RowKit Go.Maps
set_option maxRecDepth 100000 in
set_option maxHeartbeats 1000000 in
theorem runblock_short (v : Value) (b : List UInt8) (w : World) (hv : Bytes w v b) (hl : b.length ≠ 512) : Calls Try.prog 11 #[v] w fun e w' => e = .returned (.tuple #[.agg zeroG.arr, .slice none 0 0, .int .i64 61]) ∧ Below w.heap.size w w' := by
  obtain ⟨a, cap, rfl, hlc, hcm, hn, hc⟩ := hv
  unfold maxLen at hcm
  have hne : ((b.length : Int) != 512) = true := by rw [bne_iff_ne]; omega
  obtain ⟨n, hnn⟩ : ∃ n, n = b.length := ⟨_, rfl⟩
  rw [← hnn] at hne hlc ⊢
  clear hc hn hnn
  go_enter Try.func11, Try.ntmps11
  go_wp2_with fail
  refine bodyPost_ret (results_cell2 rfl _ _ ⟨w.heap.size, 0, none⟩ (.agg zeroG.arr) rfl (load_group _ _ zeroG ?_)) rfl ⟨rfl, ?_⟩
  · exact heap_alloc_new _ _
  · exact (Below.refl _ _).alloc (Nat.le_refl _) _
/-- What Block answers. -/
def bkR (g : Grp) (p : List UInt8) : List UInt8 × Int := if valG g = true ∧ (p.length : Int) = shG g then (layB g p, 0) else ([], 1)
/-- What Unblock answers. -/
def unA (b : List UInt8) : Grp × List UInt8 × Int := if b.length = 512 then unR b else (zeroG, [], 61)
def BkA' (g : Grp) (p : List UInt8) (W : World) (e : Ending) (w' : World) : Prop := ∃ a n c, e = .returned (.tuple #[.slice a n c, .int .i64 (bkR g p).2]) ∧ Own W.heap.size w' (.slice a n c) (bkR g p).1 ∧ Below W.heap.size W w'
def UnA' (b : List UInt8) (W : World) (e : Ending) (w' : World) : Prop := ∃ a n c, e = .returned (.tuple #[.agg (unA b).1.arr, .slice a n c, .int .i64 (unA b).2.2]) ∧ Own W.heap.size w' (.slice a n c) (unA b).2.1 ∧ Below W.heap.size W w'
theorem bkA_of {f : FuncId} {xs : Array Value} (g : Grp) (p : List UInt8) (W : World)
    (h1 : valG g = false → Calls Try.prog f xs W fun e w' => e = .returned (.tuple #[.slice none 0 0, .int .i64 1]) ∧ Below W.heap.size W w')
    (h2 : valG g = true → (p.length : Int) ≠ shG g → Calls Try.prog f xs W fun e w' => e = .returned (.tuple #[.slice none 0 0, .int .i64 1]) ∧ Below W.heap.size W w')
    (h3 : valG g = true → (p.length : Int) = shG g → Calls Try.prog f xs W fun e w' => ∃ gb, e = .returned (.tuple #[.slice (some ⟨gb, 0, none⟩) 512 512, .int .i64 0]) ∧ Own W.heap.size w' (.slice (some ⟨gb, 0, none⟩) 512 512) (layB g p) ∧ Below W.heap.size W w') :
    Calls Try.prog f xs W (BkA' g p W) := by
  have no : ¬ (valG g = true ∧ (p.length : Int) = shG g) → ∀ e w', (e = .returned (.tuple #[.slice none 0 0, .int .i64 1]) ∧ Below W.heap.size W w') → BkA' g p W e w' := fun hn e w' ⟨q1, q2⟩ => by
    unfold BkA' bkR
    rw [if_neg hn]
    exact ⟨none, 0, 0, q1, World.ownsRow_nil _ _ _ _, q2⟩
  cases hva : valG g
  · exact (h1 hva).mono (no (by rw [hva]; simp))
  · by_cases hs : (p.length : Int) = shG g
    · refine (h3 hva hs).mono ?_
      rintro e w' ⟨gb, q1, q2, q3⟩
      unfold BkA' bkR
      rw [if_pos ⟨hva, hs⟩]
      exact ⟨_, _, _, q1, q2, q3⟩
    · exact (h2 hva hs).mono (no (fun h => hs h.2))
theorem blkA (g : Grp) (v : Value) (p : List UInt8) (w : World) (hv : Bytes w v p) : Calls Try.prog 7 #[.agg g.arr, v] w (BkA' g p w) :=
  bkA_of g p w (fun h => blk_no g v p w hv h) (fun h1 h2 => blk_len g v p w hv h1 h2) (fun h1 h2 => blk_ok g v p w hv h1 h2)
theorem rblkA (g : Grp) (v : Value) (p : List UInt8) (w : World) (hv : Bytes w v p) : Calls Try.prog 8 #[.agg g.arr, v] w (BkA' g p w) :=
  bkA_of g p w (fun h => rblk_no g v p w hv h) (fun h1 h2 => rblk_len g v p w hv h1 h2) (fun h1 h2 => rblk_ok g ((val_iff g).1 h1) v p h2 w hv)
theorem unA_of {f : FuncId} {xs : Array Value} (b : List UInt8) (W : World)
    (h1 : b.length ≠ 512 → Calls Try.prog f xs W fun e w' => e = .returned (.tuple #[.agg zeroG.arr, .slice none 0 0, .int .i64 61]) ∧ Below W.heap.size W w')
    (h2 : b.length = 512 → Calls Try.prog f xs W fun e w' => ∃ vp, e = .returned (.tuple #[.agg (unR b).1.arr, vp, .int .i64 (unR b).2.2]) ∧ Own W.heap.size w' vp (unR b).2.1 ∧ Below W.heap.size W w') :
    Calls Try.prog f xs W (UnA' b W) := by
  by_cases hl : b.length = 512
  · refine (h2 hl).mono ?_
    rintro e w' ⟨vp, q1, q2, q3⟩
    unfold UnA' unA
    rw [if_pos hl]
    obtain ⟨a, c, rfl, _⟩ := q2.bytes.len
    exact ⟨_, _, _, q1, q2, q3⟩
  · refine (h1 hl).mono ?_
    rintro e w' ⟨q1, q2⟩
    unfold UnA' unA
    rw [if_neg hl]
    exact ⟨none, 0, 0, q1, World.ownsRow_nil _ _ _ _, q2⟩
theorem unblkA (v : Value) (b : List UInt8) (w : World) (hv : Bytes w v b) : Calls Try.prog 10 #[v] w (UnA' b w) := unA_of b w (fun h => unblock_short v b w hv h) (fun h => unblock_any v b w hv h)
theorem runblkA (v : Value) (b : List UInt8) (w : World) (hv : Bytes w v b) : Calls Try.prog 11 #[v] w (UnA' b w) := unA_of b w (fun h => runblock_short v b w hv h) (fun h => runblock_any v b w hv h)
end Go.Proofs.Ytfljbipnjfciaab
