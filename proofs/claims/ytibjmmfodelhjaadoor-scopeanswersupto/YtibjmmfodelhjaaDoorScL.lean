/-
  Lists of scopes: the document's All, the law's scopes.
-/
import Derived.Test.YtibjmmfodelhjaaDoorScS
namespace Go.Proofs.YtibjmmfodelhjaaDoor
open Go.RowKit
def kSc : Kd (Int × Int) := ⟨fun x => [.int .i64 x.1, .int .i64 x.2], 2, 41, 46, 16, (0, 0)⟩
theorem okSc : kSc.Ok := ⟨fun _ => rfl, by decide, fun x u hu => by simp only [kSc, List.mem_cons, List.not_mem_nil, or_false] at hu; rcases hu with rfl | rfl <;> rfl, Tryd.underlying46, ⟨_, (by kernel_rfl : (Tryd.prog.info? 41).map (fun i => (i.zero, i.size, i.bytes)) = some (some (.agg #[.int .i64 0, .int .i64 0]), 2, 16)), rfl⟩, by decide⟩
/-- The scopes of a kind, of all kinds, of which something holds. -/
def enumA (P : Int → Int → Bool) (k a0 : Int) : Nat → List (Int × Int)
  | 0 => []
  | n + 1 => enumA P k a0 n ++ (if P k (a0 + n) = true then [(k, a0 + n)] else [])
def enumK (P : Int → Int → Bool) (k0 a0 : Int) (n : Nat) : Nat → List (Int × Int)
  | 0 => []
  | m + 1 => enumK P k0 a0 n m ++ enumA P (k0 + m) a0 n
theorem enumA_len (P : Int → Int → Bool) (k a0 : Int) (n : Nat) : (enumA P k a0 n).length ≤ n := by
  induction n with
  | zero => simp [enumA]
  | succ n ih => rw [enumA, List.length_append]; split <;> simp <;> omega
theorem enumK_len (P : Int → Int → Bool) (k0 a0 : Int) (n m : Nat) : (enumK P k0 a0 n m).length ≤ m * n := by
  induction m with
  | zero => simp [enumK]
  | succ m ih => rw [enumK, List.length_append, Nat.succ_mul]; have := enumA_len P (k0 + m) a0 n; omega
def allS : List (Int × Int) := [(0, 0), (1, 0), (2, 0), (3, 0), (4, 0), (5, 0), (5, 1), (5, 2), (5, 3), (5, 4), (5, 5), (5, 6), (5, 7), (5, 8), (5, 9)]
theorem enum_all : enumK validB 0 0 10 6 = allS := by decide
theorem enum_scopes : enumK validB (-1) (-1) 13 9 = allS := by decide

set_option maxHeartbeats 4000000 in
set_option maxRecDepth 100000 in
theorem all_any (w : World) : Calls Tryd.prog 37 #[] w fun e w' => ∃ a n c, e = .returned (.slice a n c) ∧ OwnR kSc w.heap.size w' (.slice a n c) allS ∧ Below w.heap.size w w' := by
  go_enter Tryd.func37, Tryd.ntmps37
  go_wp2_with fail
  go_loopg [1, 2] 6 (fun g so si wr => ∃ (k : Nat) (kk : Int) (a' : Option Addr) (m c : Nat), k ≤ 6 ∧ g = 6 - k ∧ kk = 0 + (k : Int) ∧ si = .int .i64 kk ∧ so = .slice a' m c ∧ OwnR kSc w.heap.size wr (.slice a' m c) (enumK validB 0 0 10 k) ∧ Below w.heap.size w wr)
  case atStart => exact ⟨0, 0, none, 0, 0, by omega, rfl, by decide, rfl, rfl, OwnR.nil _ _ _, Below.refl _ _⟩
  case round =>
    obtain ⟨k, kk, a', m, c, hk, hg, hkk, rfl, rfl, ho, hb⟩ := hrel
    have R : Hid (gk = 6 - k ∧ kk = 0 + (k : Int) ∧ OwnR kSc w.heap.size wr (.slice a' m c) (enumK validB 0 0 10 k) ∧ Below w.heap.size w wr ∧ k ≤ 6) := Lib.hid ⟨hg, hkk, ho, hb, hk⟩
    by_cases hlt : k < 6
    · have hlt' : decide (kk < 6) = true := decide_eq_true (by omega)
      have bk : -100 ≤ kk ∧ kk ≤ 100 := by omega
      have LK := Lib.hid hlt
      clear hg ho hb hkk hlt hk
      go_wp2_with fail
      go_loopg [1, 3] 10 (fun g so si wq => ∃ (j : Nat) (jj : Int) (a' : Option Addr) (m c : Nat), j ≤ 10 ∧ g = 10 - j ∧ jj = 0 + (j : Int) ∧ si = .int .i64 jj ∧ so = .slice a' m c ∧ OwnR kSc w.heap.size wq (.slice a' m c) (enumK validB 0 0 10 k ++ enumA validB kk 0 j) ∧ Below w.heap.size w wq)
      case atStart => exact ⟨0, 0, a', m, c, by omega, rfl, by decide, rfl, rfl, by rw [enumA, List.append_nil]; exact R.out.2.2.1, R.out.2.2.2.1⟩
      case round =>
        obtain ⟨j, jj, a', m, c, hj, hg, hjj, rfl, rfl, ho, hb⟩ := hrel
        have S : Hid (gk = 10 - j ∧ jj = 0 + (j : Int) ∧ OwnR kSc w.heap.size wr (.slice a' m c) (enumK validB 0 0 10 k ++ enumA validB kk 0 j) ∧ Below w.heap.size w wr ∧ j ≤ 10) := Lib.hid ⟨hg, hjj, ho, hb, hj⟩
        by_cases hlj : j < 10
        · have hlj' : decide (jj < 10) = true := decide_eq_true (by omega)
          have bj : -100 ≤ jj ∧ jj ≤ 100 := by omega
          have LJ := Lib.hid hlj
          clear hg ho hb hjj hlj hj
          have BA : Hid (∀ o, Below w.heap.size w (wr.alloc o)) := Lib.hid fun o => S.out.2.2.2.1.alloc S.out.2.2.2.1.size _
          have VA : Hid (∀ o, Calls Tryd.prog 26 #[.agg #[.int .i64 kk, .int .i64 jj]] (wr.alloc o) fun e w' => e = .returned (.bool (validB kk jj)) ∧ Below (wr.alloc o).heap.size (wr.alloc o) w') := Lib.hid fun o => refValid_any kk jj _
          go_wp2_with fail
          refine (VA.out _).mono ?_
          rintro e w3 ⟨rfl, hb3⟩
          have d0 : w3.cell? ⟨wr.heap.size, 0, none⟩ = some (.int .i64 kk) := (hb3.cell (p := ⟨wr.heap.size, 0, none⟩) (by simp)).trans (by rw [World.cell?_alloc_new]; rfl)
          have d1 : w3.cell? ⟨wr.heap.size, 1, none⟩ = some (.int .i64 jj) := (hb3.cell (p := ⟨wr.heap.size, 1, none⟩) (by simp)).trans (by rw [World.cell?_alloc_new]; rfl)
          have B3 : Hid (Below w.heap.size w w3) := Lib.hid ((BA.out _).trans (hb3.mono (BA.out _).size))
          have O3 : Hid (OwnR kSc w.heap.size w3 (.slice a' m c) (enumK validB 0 0 10 k ++ enumA validB kk 0 j)) := Lib.hid ((S.out.2.2.1.below ((Below.refl _ wr).alloc (Nat.le_refl _) _)).below hb3)
          clear hb3 VA
          obtain ⟨acc, hacc⟩ : ∃ acc, acc = enumK validB 0 0 10 k ++ enumA validB kk 0 j := ⟨_, rfl⟩
          have N1 : Hid (validB kk jj = true → enumK validB 0 0 10 k ++ enumA validB kk 0 (j + 1) = acc ++ [(kk, jj)]) := Lib.hid (fun q => by rw [enumA, hacc, List.append_assoc, ← S.out.2.1, if_pos q])
          have N0 : Hid (validB kk jj = false → enumK validB 0 0 10 k ++ enumA validB kk 0 (j + 1) = acc) := Lib.hid (fun q => by rw [enumA, hacc, ← S.out.2.1, if_neg (by rw [q]; decide), List.append_nil])
          have LN : Hid ((acc.length + 1) * kSc.b ≤ 140737488355328) := Lib.hid (by
            rw [hacc, List.length_append]
            have h1 := enumK_len validB 0 0 10 k
            have h2 := enumA_len validB kk 0 j
            have h3 := R.out.2.2.2.2
            have h4 := S.out.2.2.2.2
            show (_ + 1) * 16 ≤ 140737488355328
            omega)
          rw [← hacc] at O3
          clear hacc
          cases hv : validB kk jj with
          | true =>
            have NX := Lib.hid (N1.out hv)
            clear hv N1 N0
            go_wp2_with (at_builtin; refine app_rowB okSc (gg := w3.heap.size) rfl _ _ rfl rfl O3.out B3.out.size (kk, jj) (by simp) rfl rfl LN.out ?_; intro v' w' h1 h2)
            obtain ⟨a2, c2, rfl⟩ := h1.slice
            have A : Hid (OwnR kSc w.heap.size w' (.slice a2 (acc ++ [(kk, jj)]).length c2) (enumK validB 0 0 10 k ++ enumA validB kk 0 (j + 1)) ∧ Below w.heap.size w w') := Lib.hid ⟨by rw [NX.out]; exact h1, B3.out.trans (grown_belowR h2 O3.out B3.out.size)⟩
            clear h1 h2
            go_wp2_with fail
            go_roundg (10 - (j + 1))
            case measure => have := S.out.1; have := LJ.out; omega
            case rel => exact ⟨j + 1, jj + 1, a2, _, c2, by have := LJ.out; omega, rfl, by have := S.out.2.1; omega, by go_num, rfl, A.out.1, A.out.2⟩
          | false =>
            have NX := Lib.hid (N0.out hv)
            clear hv N1 N0
            go_wp2_with fail
            go_roundg (10 - (j + 1))
            case measure => have := S.out.1; have := LJ.out; omega
            case rel => exact ⟨j + 1, jj + 1, a', _, c, by have := LJ.out; omega, rfl, by have := S.out.2.1; omega, by go_num, rfl, by rw [NX.out]; exact O3.out, B3.out⟩
        · have ej : j = 10 := by omega
          have hlj' : decide (jj < 10) = false := decide_eq_false (by omega)
          have E : Hid (enumK validB 0 0 10 (k + 1) = enumK validB 0 0 10 k ++ enumA validB kk 0 j) := Lib.hid (by rw [enumK, ej, ← R.out.2.1])
          clear hg ho hb hjj hlj hj ej
          go_wp2_with fail
          go_roundg (6 - (k + 1))
          case measure => have := R.out.1; have := LK.out; omega
          case rel => exact ⟨k + 1, kk + 1, a', m, c, by have := LK.out; omega, rfl, by have := R.out.2.1; omega, by go_num, rfl, by rw [E.out]; exact S.out.2.2.1, S.out.2.2.2.1⟩
    · have ek : k = 6 := by omega
      have hlt' : decide (kk < 6) = false := decide_eq_false (by omega)
      have E : Hid (enumK validB 0 0 10 k = allS) := Lib.hid (by rw [ek]; exact enum_all)
      clear hg ho hb hkk hlt hk ek
      go_wp2_with fail
      go_ret
      exact ⟨a', m, c, rfl, by have := R.out.2.2.1; rw [E.out] at this; exact this, R.out.2.2.2.1⟩

set_option maxHeartbeats 4000000 in
set_option maxRecDepth 100000 in
theorem scopes_any (w : World) (h : Nms w) : Calls Tryd.prog 25 #[] w fun e w' => ∃ a n c, e = .returned (.slice a n c) ∧ OwnR kSc w.heap.size w' (.slice a n c) allS ∧ Below w.heap.size w w' := by
  have H := Lib.hid h
  clear h
  go_enter Tryd.func25, Tryd.ntmps25
  go_wp2_with fail
  go_loopg [1, 2] 9 (fun g so si wr => ∃ (k : Nat) (kk : Int) (a' : Option Addr) (m c : Nat), k ≤ 9 ∧ g = 9 - k ∧ kk = (-1) + (k : Int) ∧ si = .int .i64 kk ∧ so = .slice a' m c ∧ OwnR kSc w.heap.size wr (.slice a' m c) (enumK validB (-1) (-1) 13 k) ∧ Below w.heap.size w wr)
  case atStart => exact ⟨0, -1, none, 0, 0, by omega, rfl, by decide, rfl, rfl, OwnR.nil _ _ _, Below.refl _ _⟩
  case round =>
    obtain ⟨k, kk, a', m, c, hk, hg, hkk, rfl, rfl, ho, hb⟩ := hrel
    have R : Hid (gk = 9 - k ∧ kk = (-1) + (k : Int) ∧ OwnR kSc w.heap.size wr (.slice a' m c) (enumK validB (-1) (-1) 13 k) ∧ Below w.heap.size w wr ∧ k ≤ 9) := Lib.hid ⟨hg, hkk, ho, hb, hk⟩
    by_cases hlt : k < 9
    · have hlt' : decide (kk < 8) = true := decide_eq_true (by omega)
      have bk : -100 ≤ kk ∧ kk ≤ 100 := by omega
      have LK := Lib.hid hlt
      clear hg ho hb hkk hlt hk
      go_wp2_with fail
      go_loopg [1, 3] 13 (fun g so si wq => ∃ (j : Nat) (jj : Int) (a' : Option Addr) (m c : Nat), j ≤ 13 ∧ g = 13 - j ∧ jj = (-1) + (j : Int) ∧ si = .int .i64 jj ∧ so = .slice a' m c ∧ OwnR kSc w.heap.size wq (.slice a' m c) (enumK validB (-1) (-1) 13 k ++ enumA validB kk (-1) j) ∧ Below w.heap.size w wq)
      case atStart => exact ⟨0, -1, a', m, c, by omega, rfl, by decide, rfl, rfl, by rw [enumA, List.append_nil]; exact R.out.2.2.1, R.out.2.2.2.1⟩
      case round =>
        obtain ⟨j, jj, a', m, c, hj, hg, hjj, rfl, rfl, ho, hb⟩ := hrel
        have S : Hid (gk = 13 - j ∧ jj = (-1) + (j : Int) ∧ OwnR kSc w.heap.size wr (.slice a' m c) (enumK validB (-1) (-1) 13 k ++ enumA validB kk (-1) j) ∧ Below w.heap.size w wr ∧ j ≤ 13) := Lib.hid ⟨hg, hjj, ho, hb, hj⟩
        by_cases hlj : j < 13
        · have hlj' : decide (jj < 12) = true := decide_eq_true (by omega)
          have bj : -100 ≤ jj ∧ jj ≤ 100 := by omega
          have LJ := Lib.hid hlj
          clear hg ho hb hjj hlj hj
          have BA : Hid (∀ o, Below w.heap.size w (wr.alloc o)) := Lib.hid fun o => S.out.2.2.2.1.alloc S.out.2.2.2.1.size _
          have VA : Hid (∀ o, Calls Tryd.prog 16 #[.agg #[.int .i64 kk, .int .i64 jj]] (wr.alloc o) fun e w' => e = .returned (.bool (validB kk jj)) ∧ Below (wr.alloc o).heap.size (wr.alloc o) w') := Lib.hid fun o => valid_any kk jj _ (H.out.below (BA.out o))
          go_wp2_with fail
          refine (VA.out _).mono ?_
          rintro e w3 ⟨rfl, hb3⟩
          have d0 : w3.cell? ⟨wr.heap.size, 0, none⟩ = some (.int .i64 kk) := (hb3.cell (p := ⟨wr.heap.size, 0, none⟩) (by simp)).trans (by rw [World.cell?_alloc_new]; rfl)
          have d1 : w3.cell? ⟨wr.heap.size, 1, none⟩ = some (.int .i64 jj) := (hb3.cell (p := ⟨wr.heap.size, 1, none⟩) (by simp)).trans (by rw [World.cell?_alloc_new]; rfl)
          have B3 : Hid (Below w.heap.size w w3) := Lib.hid ((BA.out _).trans (hb3.mono (BA.out _).size))
          have O3 : Hid (OwnR kSc w.heap.size w3 (.slice a' m c) (enumK validB (-1) (-1) 13 k ++ enumA validB kk (-1) j)) := Lib.hid ((S.out.2.2.1.below ((Below.refl _ wr).alloc (Nat.le_refl _) _)).below hb3)
          clear hb3 VA
          obtain ⟨acc, hacc⟩ : ∃ acc, acc = enumK validB (-1) (-1) 13 k ++ enumA validB kk (-1) j := ⟨_, rfl⟩
          have N1 : Hid (validB kk jj = true → enumK validB (-1) (-1) 13 k ++ enumA validB kk (-1) (j + 1) = acc ++ [(kk, jj)]) := Lib.hid (fun q => by rw [enumA, hacc, List.append_assoc, ← S.out.2.1, if_pos q])
          have N0 : Hid (validB kk jj = false → enumK validB (-1) (-1) 13 k ++ enumA validB kk (-1) (j + 1) = acc) := Lib.hid (fun q => by rw [enumA, hacc, ← S.out.2.1, if_neg (by rw [q]; decide), List.append_nil])
          have LN : Hid ((acc.length + 1) * kSc.b ≤ 140737488355328) := Lib.hid (by
            rw [hacc, List.length_append]
            have h1 := enumK_len validB (-1) (-1) 13 k
            have h2 := enumA_len validB kk (-1) j
            have h3 := R.out.2.2.2.2
            have h4 := S.out.2.2.2.2
            show (_ + 1) * 16 ≤ 140737488355328
            omega)
          rw [← hacc] at O3
          clear hacc
          cases hv : validB kk jj with
          | true =>
            have NX := Lib.hid (N1.out hv)
            clear hv N1 N0
            go_wp2_with (at_builtin; refine app_rowB okSc (gg := w3.heap.size) rfl _ _ rfl rfl O3.out B3.out.size (kk, jj) (by simp) rfl rfl LN.out ?_; intro v' w' h1 h2)
            obtain ⟨a2, c2, rfl⟩ := h1.slice
            have A : Hid (OwnR kSc w.heap.size w' (.slice a2 (acc ++ [(kk, jj)]).length c2) (enumK validB (-1) (-1) 13 k ++ enumA validB kk (-1) (j + 1)) ∧ Below w.heap.size w w') := Lib.hid ⟨by rw [NX.out]; exact h1, B3.out.trans (grown_belowR h2 O3.out B3.out.size)⟩
            clear h1 h2
            go_wp2_with fail
            go_roundg (13 - (j + 1))
            case measure => have := S.out.1; have := LJ.out; omega
            case rel => exact ⟨j + 1, jj + 1, a2, _, c2, by have := LJ.out; omega, rfl, by have := S.out.2.1; omega, by go_num, rfl, A.out.1, A.out.2⟩
          | false =>
            have NX := Lib.hid (N0.out hv)
            clear hv N1 N0
            go_wp2_with fail
            go_roundg (13 - (j + 1))
            case measure => have := S.out.1; have := LJ.out; omega
            case rel => exact ⟨j + 1, jj + 1, a', _, c, by have := LJ.out; omega, rfl, by have := S.out.2.1; omega, by go_num, rfl, by rw [NX.out]; exact O3.out, B3.out⟩
        · have ej : j = 13 := by omega
          have hlj' : decide (jj < 12) = false := decide_eq_false (by omega)
          have E : Hid (enumK validB (-1) (-1) 13 (k + 1) = enumK validB (-1) (-1) 13 k ++ enumA validB kk (-1) j) := Lib.hid (by rw [enumK, ej, ← R.out.2.1])
          clear hg ho hb hjj hlj hj ej
          go_wp2_with fail
          go_roundg (9 - (k + 1))
          case measure => have := R.out.1; have := LK.out; omega
          case rel => exact ⟨k + 1, kk + 1, a', m, c, by have := LK.out; omega, rfl, by have := R.out.2.1; omega, by go_num, rfl, by rw [E.out]; exact S.out.2.2.1, S.out.2.2.2.1⟩
    · have ek : k = 9 := by omega
      have hlt' : decide (kk < 8) = false := decide_eq_false (by omega)
      have E : Hid (enumK validB (-1) (-1) 13 k = allS) := Lib.hid (by rw [ek]; exact enum_scopes)
      clear hg ho hb hkk hlt hk ek
      go_wp2_with fail
      go_ret
      exact ⟨a', m, c, rfl, by have := R.out.2.2.1; rw [E.out] at this; exact this, R.out.2.2.2.1⟩

end Go.Proofs.YtibjmmfodelhjaaDoor
