/-
  Of.
-/
import Derived.Test.YtojemioophlplaaMeA
namespace Go.Proofs.Ytojemioophlplaa
open Go.RowKit Go.Maps
theorem part_zero (m : List UInt8) (n : Nat) : part m n 0 = List.replicate (512 * n) 0 := by
  unfold part
  rw [Nat.mul_zero, List.take_zero, List.nil_append, Nat.sub_zero]
def OfOk (n : Nat) : Bool := decide (n % 512 = 0) && decide (64 ≤ n / 512) && decide (n / 512 ≤ 4096)
set_option maxRecDepth 100000 in
set_option maxHeartbeats 1000000 in
theorem of_bad (v : Value) (m : List UInt8) (w : World) (hv : Bytes w v m) (h : OfOk m.length = false) : Calls Try.prog 21 #[v] w fun e w' => e = .returned (.tuple #[.pointer none, .int .i64 61]) ∧ w' = w := by
  obtain ⟨av, cap, rfl, hlc, hcm⟩ := hv.len
  unfold maxLen at hcm
  obtain ⟨n, hn⟩ : ∃ n, n = m.length := ⟨_, rfl⟩
  rw [← hn] at h hlc ⊢
  clear hv hn
  have e1 : ((n : Int)).tmod 512 = ((n % 512 : Nat) : Int) := by rw [Int.tmod_eq_emod_of_nonneg (by omega)]; omega
  have e2 : ((n : Int)).tdiv 512 = ((n / 512 : Nat) : Int) := by rw [Int.tdiv_eq_ediv_of_nonneg (by omega)]; omega
  go_enter Try.func21, Try.ntmps21
  by_cases h1 : n % 512 = 0
  · have g1 : (((n % 512 : Nat) : Int) == 0) = true := by rw [h1]; rfl
    have NB := Lib.hid (new_bad ((n : Int) / 512) w (by
      unfold OfOk at h
      rw [decide_eq_true h1, Bool.true_and, Bool.and_eq_false_iff, decide_eq_false_iff_not, decide_eq_false_iff_not] at h
      omega))
    clear h
    go_wp2_with fail
    refine NB.out.mono ?_
    rintro e w1 ⟨rfl, rfl⟩
    go_wp2_with fail
    go_ret2
    exact ⟨rfl, rfl⟩
  · have g1 : (((n % 512 : Nat) : Int) == 0) = false := by rw [beq_eq_false_iff_ne]; omega
    clear h
    go_wp2_with fail
    go_ret2
    exact ⟨rfl, rfl⟩
set_option maxRecDepth 100000 in
set_option maxHeartbeats 1000000 in
theorem of_ok (v : Value) (m : List UInt8) (n : Nat) (w : World) (hv : Bytes w v m) (hm : m.length = 512 * n) (h1 : 64 ≤ n) (h2 : n ≤ 4096) : Calls Try.prog 21 #[v] w fun e w' => e = .returned (.tuple #[.pointer (some ⟨w.heap.size + 2, 0, none⟩), .int .i64 0]) ∧ Below w.heap.size w w' ∧ Dv w.heap.size w' (w.heap.size + 2) w.heap.size (w.heap.size + 1) (.slice none 0 0) (newD n m) := by
  have VV := Lib.hid hv
  obtain ⟨av, cap, rfl, hlc, hcm⟩ := hv.len
  unfold maxLen at hcm
  obtain ⟨N, hN⟩ : ∃ N, N = m.length := ⟨_, rfl⟩
  have MM := Lib.hid hm
  have e1 : ((N : Int)) % 512 = 0 := by omega
  have e2 : ((N : Int)) / 512 = (n : Int) := by omega
  have hN2 : Hid (N = 512 * n) := Lib.hid (by omega)
  rw [← hN] at hlc VV ⊢
  have NW := Lib.hid (new_ok n w h1 h2)
  have NN := Lib.hid hN
  clear hv hN hm
  go_enter Try.func21, Try.ntmps21
  go_wp2_with fail
  refine NW.out.mono ?_
  rintro e w1 ⟨rfl, hb1, hd1⟩
  have D1 := Lib.hid (And.intro hb1 hd1)
  have p0 : w1.cell? ⟨w.heap.size + 2, 0, none⟩ = some (.slice (some ⟨w.heap.size, 0, none⟩) n n) := hd1.cell 0
  clear hb1 hd1 NW
  go_wp2_with fail
  go_loopg [25] n (fun g si wr => ∃ (k : Nat), k ≤ n ∧ g = n - k ∧ si = .int .i64 k ∧ Dv w.heap.size wr (w.heap.size + 2) w.heap.size (w.heap.size + 1) (.slice none 0 0) (newD n (part m n k)) ∧ Below w.heap.size w wr)
  case atStart => exact ⟨0, Nat.zero_le _, rfl, rfl, by rw [part_zero]; exact D1.out.2, D1.out.1⟩
  case round =>
    obtain ⟨k, hk, hg, rfl, hd, hb⟩ := hrel
    by_cases hlt : k < n
    · have R : Aside (gk = n - k ∧ Dv w.heap.size wr (w.heap.size + 2) w.heap.size (w.heap.size + 1) (.slice none 0 0) (newD n (part m n k)) ∧ Below w.heap.size w wr) := ⟨hg, hd, hb⟩
      have hlt' : (k : Int) < (n : Int) := by omega
      have r0 : wr.cell? ⟨w.heap.size + 2, 0, none⟩ = some (.slice (some ⟨w.heap.size, 0, none⟩) n n) := hd.cell 0
      have hr : Hid ((raw m k).length = 512) := Lib.hid (raw_length _ _ (by rw [MM.out]; omega))
      obtain ⟨cs, hcs⟩ : ∃ cs, cs = cells8 (raw m k) := ⟨_, rfl⟩
      have HCS := Lib.hid hcs
      have hcl : Hid (cs.length = 512) := Lib.hid (by rw [hcs, cells8_length, hr.out])
      obtain ⟨q, hq⟩ : ∃ q, q = k * 512 := ⟨_, rfl⟩
      have QQ := Lib.hid hq
      have hqw : IntKind.i64.wrap ((k : Int) * 512) = (q : Int) := by rw [IntKind.wrap_i64]; omega
      have hN3 := hN2.out
      have hqn : ¬ cap = q := by omega
      have hqi : (q : Int) ≤ (N : Int) := by omega
      have hqi2 : (q : Int) ≤ (cap : Int) := by omega
      have hqi0 : (0 : Int) ≤ (q : Int) := by omega
      have MIN : Hid (cs.length = Nat.min (N - q) 512) := Lib.hid (by rw [hcl.out]; exact (Nat.min_eq_right (by omega)).symm)
      obtain ⟨b, off, rfl⟩ : ∃ b off, av = some ⟨b, off, none⟩ := by
        obtain ⟨a', c', e', _, _, _, hc'⟩ := VV.out
        obtain ⟨b, off, ea, _⟩ := hc' 0 (by rw [MM.out]; omega)
        simp only [Value.slice.injEq] at e'
        exact ⟨b, off, by rw [e'.1, ea]⟩
      have SRC : Hid (∀ j v, cs[j]? = some v → wr.drew.cell? ((⟨b, off + q, none⟩ : Addr).add j) = some v) := Lib.hid (fun j v hv => by
        obtain ⟨a', c', e', _, _, _, hc'⟩ := VV.out.below hb
        simp only [Value.slice.injEq] at e'
        have hj : j < 512 := by have := (List.getElem?_eq_some_iff.1 hv).1; rw [hcl.out] at this; exact this
        obtain ⟨b', off', ea, hcell⟩ := hc' (q + j) (by rw [MM.out]; omega)
        rw [← e'.1] at ea
        simp only [Option.some.injEq, Addr.mk.injEq] at ea
        obtain ⟨rfl, rfl, _⟩ := ea
        rw [add_plain, Nat.add_assoc]
        show wr.cell? _ = _
        rw [hcell, ← hv, hcs]
        unfold cells8
        rw [List.getElem?_map, raw_at _ _ _ hj, List.getElem?_eq_getElem (by rw [MM.out]; omega), Option.map_some, List.getD_eq_getElem?_getD, List.getElem?_eq_getElem (by rw [MM.out]; omega)]
        simp only [Option.getD_some]
        congr 3
        simp only [hq, Nat.mul_comm k 512])
      have FIT : Hid (q + cs.length ≤ (cells8 (part m n k)).length) := Lib.hid (by rw [cells8_length, part_length _ _ _ MM.out (by omega), hcl.out]; omega)
      have ONE : Hid (∀ v ∈ cs, v.oneCell' = true) := Lib.hid (by rw [hcs]; exact cells8_one _)
      clear hg hd hb hcs hq hN3
      go_wp2_with fail
      go_region_law (refine step_copy_kept rfl (.tmp 34) (.tmp 38) rfl _ _ _ _ _ _ rfl rfl w.heap.size (k * 512) _ 66 R.out.2.1.med cs MIN.out (fun _ => ⟨rfl, _, rfl, SRC.out⟩) (by rw [← QQ.out]; exact FIT.out) ONE.out ?_; intro w3 K3)
      all_goals
        have N3 : Hid (Dv w.heap.size w3 (w.heap.size + 2) w.heap.size (w.heap.size + 1) (.slice none 0 0) (newD n (part m n (k + 1))) ∧ Below w.heap.size w w3) := Lib.hid (by
          have h1 := K3.out.1
          have h3 : Kept (fun j => j = w.heap.size) wr w3 := ⟨K3.out.2.os, K3.out.2.tape, K3.out.2.output, K3.out.2.size, K3.out.2.block⟩
          rw [HCS.out] at h1
          have e : (newD n (part m n k)).med = part m n k := rfl
          rw [e, splice_cells, Nat.mul_comm k 512, part_next _ _ _ MM.out hlt] at h1
          have h2 : Below w.heap.size wr w3 := h3.below R.out.2.2.size (fun x hx => by omega)
          exact ⟨R.out.2.1.medium h3 _ (by rw [part_length _ _ _ MM.out (by omega)]; rfl) h1, R.out.2.2.trans h2⟩)
        clear K3 SRC MIN FIT ONE HCS r0 hqw hqn hqi hqi0 hqi2 hcl
        go_wp2_with fail
        go_roundg (n - (k + 1))
        case measure => have := R.out.1; omega
        case rel => exact ⟨k + 1, by omega, rfl, by go_num, N3.out.1, N3.out.2⟩
    · have ek : k = n := by omega
      subst ek
      rw [part_all _ _ MM.out] at hd
      have R : Aside (Dv w.heap.size wr (w.heap.size + 2) w.heap.size (w.heap.size + 1) (.slice none 0 0) (newD k m) ∧ Below w.heap.size w wr) := ⟨hd, hb⟩
      clear hg hd hb
      go_wp2_with fail
      go_ret2
      exact ⟨rfl, R.out.2, R.out.1⟩
end Go.Proofs.Ytojemioophlplaa
