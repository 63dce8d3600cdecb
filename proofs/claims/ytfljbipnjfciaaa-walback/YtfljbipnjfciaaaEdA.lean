/-
  Edit.
-/
import Derived.Test.YtfljbipnjfciaaaFlA
namespace Go.Proofs.Ytfljbipnjfciaaa
open Go.RowKit Go.Maps
/-- The device with other bytes on its medium. -/
theorem Dv.medium {B : Nat} {w w' : World} {d mb mp : Nat} {cv : Value} {s : DS} (h : Dv B w d mb mp cv s) (hk : Kept (fun k => k = mb) w w') (m : List UInt8) (hl : m.length = 512 * s.n) (hm : w'.heap[mb]? = some (.cells (cells8 m).toArray 107 (0, 0))) : Dv B w' d mb mp cv { s with med := m } := by
  have A := h.apart
  obtain ⟨M, hM, hlat⟩ := h.latest
  exact ⟨by rw [hk.block d (lt_of_heap h.self) A.dm]; exact h.self, hm, row_kept h.cache hk (fun g hg e => A.cm (by rw [hg, e])), ⟨M, map_kept hM hk (fun e => A.bp e.symm), hlat⟩, ⟨h.fit.lo, h.fit.hi, hl, h.fit.ok, h.fit.ws⟩, h.b1, h.b2, h.b3⟩
end Go.Proofs.Ytfljbipnjfciaaa
