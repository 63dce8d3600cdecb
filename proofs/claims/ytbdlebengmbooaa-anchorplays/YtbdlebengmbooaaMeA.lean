/-
  Medium.
-/
import Derived.Test.YtbdlebengmbooaaEdA
namespace Go.Proofs.Ytbdlebengmbooaa
open Go.RowKit Go.Maps
/-- The first blocks told, the others still 0. -/
def part (m : List UInt8) (n k : Nat) : List UInt8 := m.take (512 * k) ++ List.replicate (512 * (n - k)) 0
theorem part_length (m : List UInt8) (n k : Nat) (h : m.length = 512 * n) (hk : k ≤ n) : (part m n k).length = 512 * n := by
  unfold part
  rw [List.length_append, List.length_take, List.length_replicate, h]
  omega
theorem part_next (m : List UInt8) (n k : Nat) (h : m.length = 512 * n) (hk : k < n) : splice (part m n k) (512 * k) (raw m k) = part m n (k + 1) := by
  have hr := raw_length m k (by omega)
  apply List.ext_getElem?
  intro j
  rw [splice_at _ _ _ (by rw [part_length m n k h (by omega), hr]; omega), hr]
  unfold part
  by_cases h1 : j < 512 * k
  · rw [if_neg (by omega), List.getElem?_append_left (by rw [List.length_take]; omega), List.getElem?_append_left (by rw [List.length_take]; omega), List.getElem?_take_of_lt h1, List.getElem?_take_of_lt (by omega)]
  · by_cases h2 : j < 512 * k + 512
    · rw [if_pos ⟨by omega, h2⟩, List.getElem?_append_left (by rw [List.length_take]; omega), List.getElem?_take_of_lt (by omega), raw_at _ _ _ (by omega)]
      congr 1
      omega
    · rw [if_neg (by omega), List.getElem?_append_right (by rw [List.length_take]; omega), List.getElem?_append_right (by rw [List.length_take]; omega), List.length_take, List.length_take, List.getElem?_replicate, List.getElem?_replicate]
      by_cases h3 : j < 512 * n
      · rw [if_pos (by omega), if_pos (by omega)]
      · rw [if_neg (by omega), if_neg (by omega)]
theorem part_all (m : List UInt8) (n : Nat) (h : m.length = 512 * n) : part m n n = m := by
  unfold part
  rw [Nat.sub_self, Nat.mul_zero, List.replicate_zero, List.append_nil, List.take_of_length_le (by omega)]
theorem made_zeros (n : Nat) : (madeCells #[Value.int .u8 0] n) = (cells8 (List.replicate n 0)).toArray := by
  apply Array.ext
  · simp [size_madeCells, cells8]
  · intro k h1 h2
    simp [madeCells, cells8, c8, Nat.mod_one]
set_option maxRecDepth 100000 in
set_option maxHeartbeats 1000000 in
theorem medium_any {B : Nat} {w : World} {d mb mp : Nat} {cv : Value} {s : DS} (h : Dv B w d mb mp cv s) :
    Calls Try.prog 22 #[.pointer (some ⟨d, 0, none⟩)] w fun e w' => e = .returned (.slice (some ⟨w.heap.size, 0, none⟩) (512 * s.n) (512 * s.n)) ∧ Own w.heap.size w' (.slice (some ⟨w.heap.size, 0, none⟩) (512 * s.n) (512 * s.n)) s.med ∧ Below w.heap.size w w' := by
  have H := Lib.hid h
  have hn := h.fit.hi
  have ML := Lib.hid h.fit.len
  have p0 : w.cell? ⟨d, 0, none⟩ = some (.slice (some ⟨mb, 0, none⟩) s.n s.n) := h.cell 0
  obtain ⟨n, hN⟩ : ∃ n, n = s.n := ⟨_, rfl⟩
  rw [← hN] at hn ML p0 ⊢
  have NN := Lib.hid hN
  obtain ⟨X, hX⟩ : ∃ X, X = w.alloc (.cells (madeCells #[.int .u8 0] (n * 512)) 5) := ⟨_, rfl⟩
  have hB : Hid (Below w.heap.size w X) := Lib.hid (by rw [hX]; exact (Below.refl _ _).alloc (Nat.le_refl _) _)
  have gX : Hid (X.heap[w.heap.size]? = some (.cells (cells8 (part s.med n 0)).toArray 5 (0, 0))) := Lib.hid (by
    rw [hX, heap_alloc_new, made_zeros]
    unfold part
    rw [Nat.mul_zero, List.take_zero, List.nil_append, Nat.sub_zero, Nat.mul_comm])
  have q0 : X.cell? ⟨d, 0, none⟩ = some (.slice (some ⟨mb, 0, none⟩) n n) := (hB.out.cell (block_lt_of_cell p0)).trans p0
  have hm : (Instr.makeSlice 35 (.int .i64 ((n : Int) * 512)) (.int .i64 ((n : Int) * 512))).run Try.prog w = .ok (.slice (some ⟨w.heap.size, 0, none⟩) (n * 512) (n * 512)) X := by
    rw [hX]
    exact make_bytes w (n * 512) (n * 512) (by omega) (by omega) (Nat.le_refl _) (by omega)
  clear h hX hN
  rw [Nat.mul_comm 512 n]
  go_enter Try.func22, Try.ntmps22
  go_wp2_with fail
  clear hm
  go_loopg [17] n (fun g si wr => ∃ (k : Nat), k ≤ n ∧ g = n - k ∧ si = .int .i64 k ∧ wr.heap[w.heap.size]? = some (.cells (cells8 (part s.med n k)).toArray 5 (0, 0)) ∧ Below w.heap.size w wr)
  case atStart => exact ⟨0, Nat.zero_le _, rfl, rfl, gX.out, hB.out⟩
  case round =>
    obtain ⟨k, hk, hg, rfl, hp, hb⟩ := hrel
    by_cases hlt : k < n
    · have R : Aside (gk = n - k ∧ wr.heap[w.heap.size]? = some (.cells (cells8 (part s.med n k)).toArray 5 (0, 0)) ∧ Below w.heap.size w wr) := ⟨hg, hp, hb⟩
      have hlt' : (k : Int) < (n : Int) := by omega
      have D1 := Lib.hid (H.out.below hb)
      have r0 : wr.cell? ⟨d, 0, none⟩ = some (.slice (some ⟨mb, 0, none⟩) n n) := (hb.cell (block_lt_of_cell p0)).trans p0
      have hr : Hid ((raw s.med k).length = 512) := Lib.hid (raw_length _ _ (by rw [ML.out]; omega))
      obtain ⟨cs, hcs⟩ : ∃ cs, cs = cells8 (raw s.med k) := ⟨_, rfl⟩
      have HCS := Lib.hid hcs
      have hcl : Hid (cs.length = 512) := Lib.hid (by rw [hcs, cells8_length, hr.out])
      have MIN : Hid (cs.length = Nat.min 512 (n * 512 - k * 512)) := Lib.hid (by rw [hcl.out]; exact (Nat.min_eq_left (by omega)).symm)
      have SRC : Hid (∀ j v, cs[j]? = some v → wr.drew.cell? ((⟨mb, k * 512, none⟩ : Addr).add j) = some v) := Lib.hid (fun j v hv => by
        rw [add_plain]
        exact (raw_range D1.out k (by rw [← NN.out]; exact hlt)) j v (by rw [← hcs]; exact hv))
      have FIT : Hid (k * 512 + cs.length ≤ (cells8 (part s.med n k)).length) := Lib.hid (by rw [cells8_length, part_length _ _ _ ML.out (by omega), hcl.out]; omega)
      have ONE : Hid (∀ v ∈ cs, v.oneCell' = true) := Lib.hid (by rw [hcs]; exact cells8_one _)
      obtain ⟨q, hq⟩ : ∃ q, q = k * 512 := ⟨_, rfl⟩
      have hqw : IntKind.i64.wrap ((k : Int) * 512) = (q : Int) := by rw [IntKind.wrap_i64]; omega
      have hqn : ¬ n * 512 = q := by omega
      have hqi : (q : Int) ≤ (n : Int) * 512 := by omega
      have hqi0 : (0 : Int) ≤ (q : Int) := by omega
      rw [← hq] at MIN FIT
      have QQ := Lib.hid hq
      clear hg hp hb hcs hq
      go_wp2_with fail
      go_region_law (refine step_copy_kept rfl (.tmp 23) (.tmp 30) rfl _ _ _ _ _ _ rfl rfl w.heap.size q _ 5 R.out.2.1 cs MIN.out (fun _ => ⟨rfl, _, rfl, SRC.out⟩) FIT.out ONE.out ?_; intro w3 K3)
      all_goals
        have N3 : Hid (w3.heap[w.heap.size]? = some (.cells (cells8 (part s.med n (k + 1))).toArray 5 (0, 0)) ∧ Below w.heap.size w w3) := Lib.hid (by
          have h1 := K3.out.1
          rw [HCS.out, splice_cells, QQ.out, Nat.mul_comm k 512, part_next _ _ _ ML.out hlt] at h1
          have h2 : Below w.heap.size wr w3 := ⟨K3.out.2.os, K3.out.2.tape, K3.out.2.output, K3.out.2.size, fun j hj => K3.out.2.block j (by have := R.out.2.2.size; show j < wr.heap.size; omega) (by omega)⟩
          exact ⟨h1, R.out.2.2.trans h2⟩)
        clear K3 SRC MIN FIT ONE HCS r0 hqw hqn hqi hqi0 hcl
        go_wp2_with fail
        go_roundg (n - (k + 1))
        case measure => have := R.out.1; omega
        case rel => exact ⟨k + 1, by omega, rfl, by go_num, N3.out.1, N3.out.2⟩
    · have ek : k = n := by omega
      subst ek
      rw [part_all _ _ ML.out] at hp
      have R : Aside (wr.heap[w.heap.size]? = some (.cells (cells8 s.med).toArray 5 (0, 0)) ∧ Below w.heap.size w wr) := ⟨hp, hb⟩
      clear hg hp hb
      go_wp2_with fail
      go_ret
      refine ⟨rfl, ?_, R.out.2⟩
      have e : s.med.length = k * 512 := by rw [ML.out]; omega
      refine ⟨by rw [cells8_length, Nat.mul_one], .inr ⟨w.heap.size, _, _, by rw [e], Nat.le_refl _, R.out.1, by rw [e]; exact Nat.le_refl _, by unfold maxLen; omega, by simp [cells8_length, e], ?_⟩⟩
      rw [Nat.mul_one]
      exact List.take_of_length_le (by simp [cells8_length])
end Go.Proofs.Ytbdlebengmbooaa
