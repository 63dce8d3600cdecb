/-
  Parse of every text.
-/
import Derived.Test.YtibjmmfodelhjaaDoorScP
import Derived.Deep.WholeRow
import Derived.OwnWalk
namespace Go.Proofs.YtibjmmfodelhjaaDoor
open Go.RowKit
theorem list_of_bytes (t : ByteArray) : t.toList = t.data.toList := ByteArray.toList_eq t
theorem data_inj {s t : ByteArray} (h : s.data.toList = t.data.toList) : s = t := by rw [← list_txt s, ← list_txt t, h]
theorem teq_yes {x y : ByteArray} (h : x = y) : (x.toList == y.toList) = true := by subst h; simp
theorem teq_no {x y : ByteArray} (h : x ≠ y) : (x.toList == y.toList) = false := by
  rw [beq_eq_false_iff_ne, list_of_bytes, list_of_bytes]
  exact fun e => h (data_inj e)
/-- No scope ahead of this has the text. -/
def NoneB (t : ByteArray) (k a : Int) : Prop := ∀ k' a', validB k' a' = true → (k' < k ∨ (k' = k ∧ a' < a)) → printT k' a' ≠ t
/-- What Parse tells. -/
def ParR (t : ByteArray) (k a e : Int) : Prop := (e = 0 ∧ validB k a = true ∧ printT k a = t) ∨ (e = 150 ∧ k = 0 ∧ a = 0 ∧ ∀ k' a', validB k' a' = true → printT k' a' ≠ t)
theorem NoneB.start (t : ByteArray) : NoneB t 0 0 := fun k' a' h q => by
  unfold validB at h
  have := of_decide_eq_true h
  omega
theorem NoneB.next {t : ByteArray} {k a : Int} (h : NoneB t k a) (hn : printT k a ≠ t) : NoneB t k (a + 1) := fun k' a' hv q => by
  by_cases e : k' = k ∧ a' = a
  · rw [e.1, e.2]; exact hn
  · exact h k' a' hv (by omega)
theorem NoneB.up {t : ByteArray} {k a : Int} (h : NoneB t k a) (ha : ∀ a', validB k a' = true → a' < a) : NoneB t (k + 1) 0 := fun k' a' hv q => by
  have q2 : 0 ≤ a' := by
    unfold validB at hv
    have := of_decide_eq_true hv
    omega
  by_cases e : k' = k
  · subst e; exact h k' a' hv (Or.inr ⟨rfl, ha a' hv⟩)
  · exact h k' a' hv (by omega)
theorem NoneB.all {t : ByteArray} (h : NoneB t 6 0) : ∀ k' a', validB k' a' = true → printT k' a' ≠ t := fun k' a' hv => h k' a' hv (Or.inl (by
  unfold validB at hv
  have := of_decide_eq_true hv
  omega))
def nmArr : Array Value := #[.string ⟨#[97, 108, 108]⟩, .int .i64 1, .string ⟨#[98, 101, 115, 116]⟩, .int .i64 1, .string ⟨#[110, 111, 116, 98, 101, 115, 116]⟩, .int .i64 1, .string ⟨#[101, 110, 100, 115]⟩, .int .i64 1, .string ⟨#[110, 111, 116, 101, 110, 100, 115]⟩, .int .i64 1, .string ⟨#[112, 114, 105, 111, 114, 105, 116, 121, 61]⟩, .int .i64 10]

theorem nm_0 (w : World) : (Instr.index 67 (.agg nmArr) (.int .i64 0)).run Tryd.prog w = .ok (.agg #[.string ⟨#[97, 108, 108]⟩, .int .i64 1]) w := by kernel_rfl
theorem nm_1 (w : World) : (Instr.index 67 (.agg nmArr) (.int .i64 1)).run Tryd.prog w = .ok (.agg #[.string ⟨#[98, 101, 115, 116]⟩, .int .i64 1]) w := by kernel_rfl
theorem nm_2 (w : World) : (Instr.index 67 (.agg nmArr) (.int .i64 2)).run Tryd.prog w = .ok (.agg #[.string ⟨#[110, 111, 116, 98, 101, 115, 116]⟩, .int .i64 1]) w := by kernel_rfl
theorem nm_3 (w : World) : (Instr.index 67 (.agg nmArr) (.int .i64 3)).run Tryd.prog w = .ok (.agg #[.string ⟨#[101, 110, 100, 115]⟩, .int .i64 1]) w := by kernel_rfl
theorem nm_4 (w : World) : (Instr.index 67 (.agg nmArr) (.int .i64 4)).run Tryd.prog w = .ok (.agg #[.string ⟨#[110, 111, 116, 101, 110, 100, 115]⟩, .int .i64 1]) w := by kernel_rfl
theorem nm_5 (w : World) : (Instr.index 67 (.agg nmArr) (.int .i64 5)).run Tryd.prog w = .ok (.agg #[.string ⟨#[112, 114, 105, 111, 114, 105, 116, 121, 61]⟩, .int .i64 10]) w := by kernel_rfl
theorem nms_cell {w : World} (h : Nms w) (j : Nat) (v : Value) (hv : nmArr.toList[j]? = some v) : w.cell? ⟨0, j, none⟩ = some v := by
  have hj : j < 12 := by
    rcases Nat.lt_or_ge j 12 with q | q
    · exact q
    · rw [List.getElem?_eq_none (by simpa [nmArr] using q)] at hv; simp at hv
  have h0 := h 0 (by decide)
  have h1 := h 1 (by decide)
  have h2 := h 2 (by decide)
  have h3 := h 3 (by decide)
  have h4 := h 4 (by decide)
  have h5 := h 5 (by decide)
  match j, hj with
  | 0, _ => rw [← Option.some.inj hv]; exact h0.1
  | 1, _ => rw [← Option.some.inj hv]; exact h0.2
  | 2, _ => rw [← Option.some.inj hv]; exact h1.1
  | 3, _ => rw [← Option.some.inj hv]; exact h1.2
  | 4, _ => rw [← Option.some.inj hv]; exact h2.1
  | 5, _ => rw [← Option.some.inj hv]; exact h2.2
  | 6, _ => rw [← Option.some.inj hv]; exact h3.1
  | 7, _ => rw [← Option.some.inj hv]; exact h3.2
  | 8, _ => rw [← Option.some.inj hv]; exact h4.1
  | 9, _ => rw [← Option.some.inj hv]; exact h4.2
  | 10, _ => rw [← Option.some.inj hv]; exact h5.1
  | 11, _ => rw [← Option.some.inj hv]; exact h5.2

theorem nms_load {w : World} (h : Nms w) : (loadCellsFrom ⟨0, 0, none⟩ 0 12 #[]).run Tryd.prog w = .ok nmArr w := by
  have := run_loadCells_list (P := Tryd.prog) w ⟨0, 0, none⟩ nmArr.toList (fun j v hv => by
    have hadd : (⟨0, 0, none⟩ : Addr).add j = ⟨0, j, none⟩ := by unfold Addr.add; split <;> simp_all
    rw [hadd]; exact nms_cell h j v hv)
  exact this
theorem nms_loadAt {w : World} (h : Nms w) : (Instr.loadAt 67 (.pointer (some ⟨0, 0, none⟩))).run Tryd.prog w = .ok (.agg nmArr) w := by
  have hl := nms_load h
  have hs : (Tryd.prog.info? 67).map (·.size) = some 12 := by kernel_rfl
  cases hq : Tryd.prog.info? 67 with
  | none => simp [hq] at hs
  | some i =>
    have hz : i.size = 12 := by simpa [hq] using hs
    simp only [Instr.loadAt, Instr.sureAddr, Sem.run_bind, Sem.run_pure, Result.andThen]
    simp [loadVar, sizeOf, typeInfo, hq, hz, loadCells, hl]
set_option maxRecDepth 100000 in
theorem load_nms {ops : Array Oper} {rest : List Oper} {o : Oper} {a : Act} {w : World} {Q : Exit → Act → World → Prop} (hgd : o.guard = none) (ho : o.op = .load 67 (.global 0)) (h : Nms w)
    (hk : wpList Tryd.prog ops Q rest (a.put o.dst (.agg nmArr)) w) : wpList Tryd.prog ops Q (o :: rest) a w := by
  refine wpList_plain hgd fun K hK => ?_
  unfold Oper.wp execOp
  have e : a.eval (.global 0) = .pointer (some ⟨0, 0, none⟩) := rfl
  simp only [ho, e, Sem.run_bind, Sem.run_pure, Result.andThen_ok, nms_loadAt h]
  exact hK _ _ hk
theorem two_scope (w : World) {X : World} (hX : X = w.alloc (.cells #[.int .i64 0, .int .i64 0] 41)) {W : World} (hb : Below (w.heap.size + 1) X W) :
    W.cell? ⟨w.heap.size, 0, none⟩ = some (.int .i64 0) ∧ W.cell? ⟨w.heap.size, 1, none⟩ = some (.int .i64 0) ∧ W.frozen? ⟨w.heap.size, 0, none⟩ = false ∧ W.frozen? ⟨w.heap.size, 1, none⟩ = false ∧ Below w.heap.size w W := by
  subst hX
  refine ⟨(hb.cell (p := ⟨w.heap.size, 0, none⟩) (by simp)).trans (by rw [World.cell?_alloc_new]; rfl), (hb.cell (p := ⟨w.heap.size, 1, none⟩) (by simp)).trans (by rw [World.cell?_alloc_new]; rfl), (hb.frozen (p := ⟨w.heap.size, 0, none⟩) (by simp)).trans (by go_simp), (hb.frozen (p := ⟨w.heap.size, 1, none⟩) (by simp)).trans (by go_simp), ?_⟩
  exact ((Below.refl _ w).alloc (Nat.le_refl _) _).trans (hb.mono (by omega))
set_option maxHeartbeats 4000000 in
set_option maxRecDepth 100000 in
theorem parse_any (t : ByteArray) (w : World) (h : Nms w) :
    Calls Tryd.prog 21 #[.string t] w fun e w' => ∃ k a er, e = .returned (.tuple #[.agg #[.int .i64 k, .int .i64 a], .int .i64 er]) ∧ ParR t k a er ∧ Below w.heap.size w w' := by
  have H : Hid (Nms w) := Lib.hid h
  clear h
  have i0 := nm_0
  have i1 := nm_1
  have i2 := nm_2
  have i3 := nm_3
  have i4 := nm_4
  have i5 := nm_5
  obtain ⟨X, hX⟩ : ∃ X, X = w.alloc (.cells #[.int .i64 0, .int .i64 0] 41) := ⟨_, rfl⟩
  have XX : Hid (X = w.alloc (.cells #[.int .i64 0, .int .i64 0] 41) ∧ X.heap.size = w.heap.size + 1) := Lib.hid ⟨hX, by rw [hX]; simp⟩
  have NX : Hid (Nms X) := Lib.hid (by rw [hX]; exact H.out.below ((Below.refl _ w).alloc (Nat.le_refl _) _))
  go_enter Tryd.func21, Tryd.ntmps21
  have HL : Hid (Nms (w.alloc (.cells #[.int .i64 0, .int .i64 0] 41))) := Lib.hid (by rw [← hX]; exact NX.out)
  clear hX
  go_wp2_with (refine load_nms rfl rfl HL.out ?_)
  clear HL
  go_loopg [11] 6 (fun g si wr => ∃ (k : Nat), k ≤ 6 ∧ g = 6 - k ∧ si = .int .i64 k ∧ NoneB t k 0 ∧ Below (w.heap.size + 1) X wr)
  case atStart => exact ⟨0, by omega, rfl, rfl, NoneB.start t, by rw [← XX.out.1]; exact Below.refl _ _⟩
  case round =>
    obtain ⟨k, hk, hg, rfl, hn, hb⟩ := hrel
    have R : Hid (gk = 6 - k ∧ NoneB t k 0 ∧ Below (w.heap.size + 1) X wr) := Lib.hid ⟨hg, hn, hb⟩
    clear hg hn hb
    by_cases hlt : k < 6
    · have kc : k = 0 ∨ k = 1 ∨ k = 2 ∨ k = 3 ∨ k = 4 ∨ k = 5 := by omega
      clear hk hlt
      rcases kc with rfl | rfl | rfl | rfl | rfl | rfl

      · go_wp2_with fail
        have B5 : Hid (∀ o, Below (w.heap.size + 1) X (wr.alloc o)) := Lib.hid fun o => R.out.2.2.alloc (by have := R.out.2.2.size; have := XX.out.2; omega) _
        go_loopg [17] 1 (fun g si wq => ∃ (a : Nat), a ≤ 1 ∧ g = 1 - a ∧ si = .int .i64 a ∧ NoneB t 0 a ∧ Below (w.heap.size + 1) X wq)
        case atStart => exact ⟨0, by omega, rfl, rfl, R.out.2.1, B5.out _⟩
        case round =>
          obtain ⟨a, ha, hg, rfl, hn, hb⟩ := hrel
          have S : Hid (gk = 1 - a ∧ NoneB t 0 a ∧ Below (w.heap.size + 1) X wr) := Lib.hid ⟨hg, hn, hb⟩
          clear hg hn hb
          by_cases hla : a < 1
          · have hla' : (a : Int) < 1 := by omega
            have VV : Hid (validB 0 a = true) := Lib.hid (decide_eq_true (by omega))
            have WS : Hid (w.heap.size + 1 ≤ wr.heap.size) := Lib.hid (by have := S.out.2.2.size; have := XX.out.2; omega)
            obtain ⟨pt, hpt⟩ : ∃ pt, pt = printT 0 a := ⟨_, rfl⟩
            have PT := Lib.hid hpt
            have PR : Hid (∀ o, Calls Tryd.prog 23 #[.agg #[.int .i64 0, .int .i64 a]] (wr.alloc o) fun e w' => e = .returned (.tuple #[.string pt, .int .i64 0]) ∧ Below (wr.alloc o).heap.size (wr.alloc o) w') := Lib.hid fun o => by
              have q := print_any 0 a (wr.alloc o) ((NX.out.below (S.out.2.2.mono (by rw [XX.out.2]; exact Nat.le_refl _))).below ((Below.refl _ wr).alloc (Nat.le_refl _) _))
              rw [(pr_yes VV.out).1, (pr_yes VV.out).2, ← hpt] at q
              exact q
            clear hpt
            go_wp2_with fail
            refine (PR.out _).mono ?_
            rintro e w3 ⟨rfl, hb3⟩
            have d0 : w3.cell? ⟨wr.heap.size, 0, none⟩ = some (.int .i64 0) := (hb3.cell (p := ⟨wr.heap.size, 0, none⟩) (by simp)).trans (by rw [World.cell?_alloc_new]; rfl)
            have d1 : w3.cell? ⟨wr.heap.size, 1, none⟩ = some (.int .i64 a) := (hb3.cell (p := ⟨wr.heap.size, 1, none⟩) (by simp)).trans (by rw [World.cell?_alloc_new]; rfl)
            have B3 : Hid (Below (w.heap.size + 1) X w3) := Lib.hid ((S.out.2.2.alloc WS.out _).trans (hb3.mono (by have := WS.out; simp; omega)))
            clear hb3 PR
            by_cases heq : pt = t
            · have ge := teq_yes heq
              obtain ⟨e0, e1, f0, f1, eb⟩ := two_scope w XX.out.1 B3.out
              have EB := Lib.hid eb
              have FR : Hid (ParR t 0 a 0) := Lib.hid (Or.inl ⟨rfl, VV.out, by rw [← PT.out]; exact heq⟩)
              clear eb heq
              go_wp2_with fail
              refine bodyPost_ret (v := .tuple #[.agg #[.int .i64 0, .int .i64 a], .int .i64 0]) ?_ rfl ?_
              · rw [results_cell_tmp rfl]
                go_simp
              · exact ⟨0, a, 0, rfl, FR.out, (EB.out.setCell (p := ⟨w.heap.size, 0, none⟩) (Nat.le_refl _) _).setCell (p := ⟨w.heap.size, 1, none⟩) (Nat.le_refl _) _⟩
            · have ge := teq_no heq
              have NN : Hid (NoneB t 0 ((a + 1 : Nat) : Int)) := Lib.hid (by
                have := S.out.2.1.next (by rw [← PT.out]; exact heq)
                simpa using this)
              clear heq
              go_wp2_with fail
              go_roundg (1 - (a + 1))
              case measure => have := S.out.1; omega
              case rel => exact ⟨a + 1, by omega, rfl, by go_num, NN.out, B3.out⟩
          · have UP : Hid (NoneB t ((0 + 1 : Nat) : Int) 0) := Lib.hid (by
              have := S.out.2.1.up (fun a' hv => by unfold validB at hv; have := of_decide_eq_true hv; omega)
              simpa using this)
            have ge : (decide ((a : Int) < 1)) = false := decide_eq_false (by omega)
            go_wp2_with fail
            go_roundg (6 - 1)
            case measure => have := R.out.1; omega
            case rel => exact ⟨1, by omega, rfl, by go_num, UP.out, S.out.2.2⟩
      · go_wp2_with fail
        have B5 : Hid (∀ o, Below (w.heap.size + 1) X (wr.alloc o)) := Lib.hid fun o => R.out.2.2.alloc (by have := R.out.2.2.size; have := XX.out.2; omega) _
        go_loopg [17] 1 (fun g si wq => ∃ (a : Nat), a ≤ 1 ∧ g = 1 - a ∧ si = .int .i64 a ∧ NoneB t 1 a ∧ Below (w.heap.size + 1) X wq)
        case atStart => exact ⟨0, by omega, rfl, rfl, R.out.2.1, B5.out _⟩
        case round =>
          obtain ⟨a, ha, hg, rfl, hn, hb⟩ := hrel
          have S : Hid (gk = 1 - a ∧ NoneB t 1 a ∧ Below (w.heap.size + 1) X wr) := Lib.hid ⟨hg, hn, hb⟩
          clear hg hn hb
          by_cases hla : a < 1
          · have hla' : (a : Int) < 1 := by omega
            have VV : Hid (validB 1 a = true) := Lib.hid (decide_eq_true (by omega))
            have WS : Hid (w.heap.size + 1 ≤ wr.heap.size) := Lib.hid (by have := S.out.2.2.size; have := XX.out.2; omega)
            obtain ⟨pt, hpt⟩ : ∃ pt, pt = printT 1 a := ⟨_, rfl⟩
            have PT := Lib.hid hpt
            have PR : Hid (∀ o, Calls Tryd.prog 23 #[.agg #[.int .i64 1, .int .i64 a]] (wr.alloc o) fun e w' => e = .returned (.tuple #[.string pt, .int .i64 0]) ∧ Below (wr.alloc o).heap.size (wr.alloc o) w') := Lib.hid fun o => by
              have q := print_any 1 a (wr.alloc o) ((NX.out.below (S.out.2.2.mono (by rw [XX.out.2]; exact Nat.le_refl _))).below ((Below.refl _ wr).alloc (Nat.le_refl _) _))
              rw [(pr_yes VV.out).1, (pr_yes VV.out).2, ← hpt] at q
              exact q
            clear hpt
            go_wp2_with fail
            refine (PR.out _).mono ?_
            rintro e w3 ⟨rfl, hb3⟩
            have d0 : w3.cell? ⟨wr.heap.size, 0, none⟩ = some (.int .i64 1) := (hb3.cell (p := ⟨wr.heap.size, 0, none⟩) (by simp)).trans (by rw [World.cell?_alloc_new]; rfl)
            have d1 : w3.cell? ⟨wr.heap.size, 1, none⟩ = some (.int .i64 a) := (hb3.cell (p := ⟨wr.heap.size, 1, none⟩) (by simp)).trans (by rw [World.cell?_alloc_new]; rfl)
            have B3 : Hid (Below (w.heap.size + 1) X w3) := Lib.hid ((S.out.2.2.alloc WS.out _).trans (hb3.mono (by have := WS.out; simp; omega)))
            clear hb3 PR
            by_cases heq : pt = t
            · have ge := teq_yes heq
              obtain ⟨e0, e1, f0, f1, eb⟩ := two_scope w XX.out.1 B3.out
              have EB := Lib.hid eb
              have FR : Hid (ParR t 1 a 0) := Lib.hid (Or.inl ⟨rfl, VV.out, by rw [← PT.out]; exact heq⟩)
              clear eb heq
              go_wp2_with fail
              refine bodyPost_ret (v := .tuple #[.agg #[.int .i64 1, .int .i64 a], .int .i64 0]) ?_ rfl ?_
              · rw [results_cell_tmp rfl]
                go_simp
              · exact ⟨1, a, 0, rfl, FR.out, (EB.out.setCell (p := ⟨w.heap.size, 0, none⟩) (Nat.le_refl _) _).setCell (p := ⟨w.heap.size, 1, none⟩) (Nat.le_refl _) _⟩
            · have ge := teq_no heq
              have NN : Hid (NoneB t 1 ((a + 1 : Nat) : Int)) := Lib.hid (by
                have := S.out.2.1.next (by rw [← PT.out]; exact heq)
                simpa using this)
              clear heq
              go_wp2_with fail
              go_roundg (1 - (a + 1))
              case measure => have := S.out.1; omega
              case rel => exact ⟨a + 1, by omega, rfl, by go_num, NN.out, B3.out⟩
          · have UP : Hid (NoneB t ((1 + 1 : Nat) : Int) 0) := Lib.hid (by
              have := S.out.2.1.up (fun a' hv => by unfold validB at hv; have := of_decide_eq_true hv; omega)
              simpa using this)
            have ge : (decide ((a : Int) < 1)) = false := decide_eq_false (by omega)
            go_wp2_with fail
            go_roundg (6 - 2)
            case measure => have := R.out.1; omega
            case rel => exact ⟨2, by omega, rfl, by go_num, UP.out, S.out.2.2⟩
      · go_wp2_with fail
        have B5 : Hid (∀ o, Below (w.heap.size + 1) X (wr.alloc o)) := Lib.hid fun o => R.out.2.2.alloc (by have := R.out.2.2.size; have := XX.out.2; omega) _
        go_loopg [17] 1 (fun g si wq => ∃ (a : Nat), a ≤ 1 ∧ g = 1 - a ∧ si = .int .i64 a ∧ NoneB t 2 a ∧ Below (w.heap.size + 1) X wq)
        case atStart => exact ⟨0, by omega, rfl, rfl, R.out.2.1, B5.out _⟩
        case round =>
          obtain ⟨a, ha, hg, rfl, hn, hb⟩ := hrel
          have S : Hid (gk = 1 - a ∧ NoneB t 2 a ∧ Below (w.heap.size + 1) X wr) := Lib.hid ⟨hg, hn, hb⟩
          clear hg hn hb
          by_cases hla : a < 1
          · have hla' : (a : Int) < 1 := by omega
            have VV : Hid (validB 2 a = true) := Lib.hid (decide_eq_true (by omega))
            have WS : Hid (w.heap.size + 1 ≤ wr.heap.size) := Lib.hid (by have := S.out.2.2.size; have := XX.out.2; omega)
            obtain ⟨pt, hpt⟩ : ∃ pt, pt = printT 2 a := ⟨_, rfl⟩
            have PT := Lib.hid hpt
            have PR : Hid (∀ o, Calls Tryd.prog 23 #[.agg #[.int .i64 2, .int .i64 a]] (wr.alloc o) fun e w' => e = .returned (.tuple #[.string pt, .int .i64 0]) ∧ Below (wr.alloc o).heap.size (wr.alloc o) w') := Lib.hid fun o => by
              have q := print_any 2 a (wr.alloc o) ((NX.out.below (S.out.2.2.mono (by rw [XX.out.2]; exact Nat.le_refl _))).below ((Below.refl _ wr).alloc (Nat.le_refl _) _))
              rw [(pr_yes VV.out).1, (pr_yes VV.out).2, ← hpt] at q
              exact q
            clear hpt
            go_wp2_with fail
            refine (PR.out _).mono ?_
            rintro e w3 ⟨rfl, hb3⟩
            have d0 : w3.cell? ⟨wr.heap.size, 0, none⟩ = some (.int .i64 2) := (hb3.cell (p := ⟨wr.heap.size, 0, none⟩) (by simp)).trans (by rw [World.cell?_alloc_new]; rfl)
            have d1 : w3.cell? ⟨wr.heap.size, 1, none⟩ = some (.int .i64 a) := (hb3.cell (p := ⟨wr.heap.size, 1, none⟩) (by simp)).trans (by rw [World.cell?_alloc_new]; rfl)
            have B3 : Hid (Below (w.heap.size + 1) X w3) := Lib.hid ((S.out.2.2.alloc WS.out _).trans (hb3.mono (by have := WS.out; simp; omega)))
            clear hb3 PR
            by_cases heq : pt = t
            · have ge := teq_yes heq
              obtain ⟨e0, e1, f0, f1, eb⟩ := two_scope w XX.out.1 B3.out
              have EB := Lib.hid eb
              have FR : Hid (ParR t 2 a 0) := Lib.hid (Or.inl ⟨rfl, VV.out, by rw [← PT.out]; exact heq⟩)
              clear eb heq
              go_wp2_with fail
              refine bodyPost_ret (v := .tuple #[.agg #[.int .i64 2, .int .i64 a], .int .i64 0]) ?_ rfl ?_
              · rw [results_cell_tmp rfl]
                go_simp
              · exact ⟨2, a, 0, rfl, FR.out, (EB.out.setCell (p := ⟨w.heap.size, 0, none⟩) (Nat.le_refl _) _).setCell (p := ⟨w.heap.size, 1, none⟩) (Nat.le_refl _) _⟩
            · have ge := teq_no heq
              have NN : Hid (NoneB t 2 ((a + 1 : Nat) : Int)) := Lib.hid (by
                have := S.out.2.1.next (by rw [← PT.out]; exact heq)
                simpa using this)
              clear heq
              go_wp2_with fail
              go_roundg (1 - (a + 1))
              case measure => have := S.out.1; omega
              case rel => exact ⟨a + 1, by omega, rfl, by go_num, NN.out, B3.out⟩
          · have UP : Hid (NoneB t ((2 + 1 : Nat) : Int) 0) := Lib.hid (by
              have := S.out.2.1.up (fun a' hv => by unfold validB at hv; have := of_decide_eq_true hv; omega)
              simpa using this)
            have ge : (decide ((a : Int) < 1)) = false := decide_eq_false (by omega)
            go_wp2_with fail
            go_roundg (6 - 3)
            case measure => have := R.out.1; omega
            case rel => exact ⟨3, by omega, rfl, by go_num, UP.out, S.out.2.2⟩
      · go_wp2_with fail
        have B5 : Hid (∀ o, Below (w.heap.size + 1) X (wr.alloc o)) := Lib.hid fun o => R.out.2.2.alloc (by have := R.out.2.2.size; have := XX.out.2; omega) _
        go_loopg [17] 1 (fun g si wq => ∃ (a : Nat), a ≤ 1 ∧ g = 1 - a ∧ si = .int .i64 a ∧ NoneB t 3 a ∧ Below (w.heap.size + 1) X wq)
        case atStart => exact ⟨0, by omega, rfl, rfl, R.out.2.1, B5.out _⟩
        case round =>
          obtain ⟨a, ha, hg, rfl, hn, hb⟩ := hrel
          have S : Hid (gk = 1 - a ∧ NoneB t 3 a ∧ Below (w.heap.size + 1) X wr) := Lib.hid ⟨hg, hn, hb⟩
          clear hg hn hb
          by_cases hla : a < 1
          · have hla' : (a : Int) < 1 := by omega
            have VV : Hid (validB 3 a = true) := Lib.hid (decide_eq_true (by omega))
            have WS : Hid (w.heap.size + 1 ≤ wr.heap.size) := Lib.hid (by have := S.out.2.2.size; have := XX.out.2; omega)
            obtain ⟨pt, hpt⟩ : ∃ pt, pt = printT 3 a := ⟨_, rfl⟩
            have PT := Lib.hid hpt
            have PR : Hid (∀ o, Calls Tryd.prog 23 #[.agg #[.int .i64 3, .int .i64 a]] (wr.alloc o) fun e w' => e = .returned (.tuple #[.string pt, .int .i64 0]) ∧ Below (wr.alloc o).heap.size (wr.alloc o) w') := Lib.hid fun o => by
              have q := print_any 3 a (wr.alloc o) ((NX.out.below (S.out.2.2.mono (by rw [XX.out.2]; exact Nat.le_refl _))).below ((Below.refl _ wr).alloc (Nat.le_refl _) _))
              rw [(pr_yes VV.out).1, (pr_yes VV.out).2, ← hpt] at q
              exact q
            clear hpt
            go_wp2_with fail
            refine (PR.out _).mono ?_
            rintro e w3 ⟨rfl, hb3⟩
            have d0 : w3.cell? ⟨wr.heap.size, 0, none⟩ = some (.int .i64 3) := (hb3.cell (p := ⟨wr.heap.size, 0, none⟩) (by simp)).trans (by rw [World.cell?_alloc_new]; rfl)
            have d1 : w3.cell? ⟨wr.heap.size, 1, none⟩ = some (.int .i64 a) := (hb3.cell (p := ⟨wr.heap.size, 1, none⟩) (by simp)).trans (by rw [World.cell?_alloc_new]; rfl)
            have B3 : Hid (Below (w.heap.size + 1) X w3) := Lib.hid ((S.out.2.2.alloc WS.out _).trans (hb3.mono (by have := WS.out; simp; omega)))
            clear hb3 PR
            by_cases heq : pt = t
            · have ge := teq_yes heq
              obtain ⟨e0, e1, f0, f1, eb⟩ := two_scope w XX.out.1 B3.out
              have EB := Lib.hid eb
              have FR : Hid (ParR t 3 a 0) := Lib.hid (Or.inl ⟨rfl, VV.out, by rw [← PT.out]; exact heq⟩)
              clear eb heq
              go_wp2_with fail
              refine bodyPost_ret (v := .tuple #[.agg #[.int .i64 3, .int .i64 a], .int .i64 0]) ?_ rfl ?_
              · rw [results_cell_tmp rfl]
                go_simp
              · exact ⟨3, a, 0, rfl, FR.out, (EB.out.setCell (p := ⟨w.heap.size, 0, none⟩) (Nat.le_refl _) _).setCell (p := ⟨w.heap.size, 1, none⟩) (Nat.le_refl _) _⟩
            · have ge := teq_no heq
              have NN : Hid (NoneB t 3 ((a + 1 : Nat) : Int)) := Lib.hid (by
                have := S.out.2.1.next (by rw [← PT.out]; exact heq)
                simpa using this)
              clear heq
              go_wp2_with fail
              go_roundg (1 - (a + 1))
              case measure => have := S.out.1; omega
              case rel => exact ⟨a + 1, by omega, rfl, by go_num, NN.out, B3.out⟩
          · have UP : Hid (NoneB t ((3 + 1 : Nat) : Int) 0) := Lib.hid (by
              have := S.out.2.1.up (fun a' hv => by unfold validB at hv; have := of_decide_eq_true hv; omega)
              simpa using this)
            have ge : (decide ((a : Int) < 1)) = false := decide_eq_false (by omega)
            go_wp2_with fail
            go_roundg (6 - 4)
            case measure => have := R.out.1; omega
            case rel => exact ⟨4, by omega, rfl, by go_num, UP.out, S.out.2.2⟩
      · go_wp2_with fail
        have B5 : Hid (∀ o, Below (w.heap.size + 1) X (wr.alloc o)) := Lib.hid fun o => R.out.2.2.alloc (by have := R.out.2.2.size; have := XX.out.2; omega) _
        go_loopg [17] 1 (fun g si wq => ∃ (a : Nat), a ≤ 1 ∧ g = 1 - a ∧ si = .int .i64 a ∧ NoneB t 4 a ∧ Below (w.heap.size + 1) X wq)
        case atStart => exact ⟨0, by omega, rfl, rfl, R.out.2.1, B5.out _⟩
        case round =>
          obtain ⟨a, ha, hg, rfl, hn, hb⟩ := hrel
          have S : Hid (gk = 1 - a ∧ NoneB t 4 a ∧ Below (w.heap.size + 1) X wr) := Lib.hid ⟨hg, hn, hb⟩
          clear hg hn hb
          by_cases hla : a < 1
          · have hla' : (a : Int) < 1 := by omega
            have VV : Hid (validB 4 a = true) := Lib.hid (decide_eq_true (by omega))
            have WS : Hid (w.heap.size + 1 ≤ wr.heap.size) := Lib.hid (by have := S.out.2.2.size; have := XX.out.2; omega)
            obtain ⟨pt, hpt⟩ : ∃ pt, pt = printT 4 a := ⟨_, rfl⟩
            have PT := Lib.hid hpt
            have PR : Hid (∀ o, Calls Tryd.prog 23 #[.agg #[.int .i64 4, .int .i64 a]] (wr.alloc o) fun e w' => e = .returned (.tuple #[.string pt, .int .i64 0]) ∧ Below (wr.alloc o).heap.size (wr.alloc o) w') := Lib.hid fun o => by
              have q := print_any 4 a (wr.alloc o) ((NX.out.below (S.out.2.2.mono (by rw [XX.out.2]; exact Nat.le_refl _))).below ((Below.refl _ wr).alloc (Nat.le_refl _) _))
              rw [(pr_yes VV.out).1, (pr_yes VV.out).2, ← hpt] at q
              exact q
            clear hpt
            go_wp2_with fail
            refine (PR.out _).mono ?_
            rintro e w3 ⟨rfl, hb3⟩
            have d0 : w3.cell? ⟨wr.heap.size, 0, none⟩ = some (.int .i64 4) := (hb3.cell (p := ⟨wr.heap.size, 0, none⟩) (by simp)).trans (by rw [World.cell?_alloc_new]; rfl)
            have d1 : w3.cell? ⟨wr.heap.size, 1, none⟩ = some (.int .i64 a) := (hb3.cell (p := ⟨wr.heap.size, 1, none⟩) (by simp)).trans (by rw [World.cell?_alloc_new]; rfl)
            have B3 : Hid (Below (w.heap.size + 1) X w3) := Lib.hid ((S.out.2.2.alloc WS.out _).trans (hb3.mono (by have := WS.out; simp; omega)))
            clear hb3 PR
            by_cases heq : pt = t
            · have ge := teq_yes heq
              obtain ⟨e0, e1, f0, f1, eb⟩ := two_scope w XX.out.1 B3.out
              have EB := Lib.hid eb
              have FR : Hid (ParR t 4 a 0) := Lib.hid (Or.inl ⟨rfl, VV.out, by rw [← PT.out]; exact heq⟩)
              clear eb heq
              go_wp2_with fail
              refine bodyPost_ret (v := .tuple #[.agg #[.int .i64 4, .int .i64 a], .int .i64 0]) ?_ rfl ?_
              · rw [results_cell_tmp rfl]
                go_simp
              · exact ⟨4, a, 0, rfl, FR.out, (EB.out.setCell (p := ⟨w.heap.size, 0, none⟩) (Nat.le_refl _) _).setCell (p := ⟨w.heap.size, 1, none⟩) (Nat.le_refl _) _⟩
            · have ge := teq_no heq
              have NN : Hid (NoneB t 4 ((a + 1 : Nat) : Int)) := Lib.hid (by
                have := S.out.2.1.next (by rw [← PT.out]; exact heq)
                simpa using this)
              clear heq
              go_wp2_with fail
              go_roundg (1 - (a + 1))
              case measure => have := S.out.1; omega
              case rel => exact ⟨a + 1, by omega, rfl, by go_num, NN.out, B3.out⟩
          · have UP : Hid (NoneB t ((4 + 1 : Nat) : Int) 0) := Lib.hid (by
              have := S.out.2.1.up (fun a' hv => by unfold validB at hv; have := of_decide_eq_true hv; omega)
              simpa using this)
            have ge : (decide ((a : Int) < 1)) = false := decide_eq_false (by omega)
            go_wp2_with fail
            go_roundg (6 - 5)
            case measure => have := R.out.1; omega
            case rel => exact ⟨5, by omega, rfl, by go_num, UP.out, S.out.2.2⟩
      · go_wp2_with fail
        have B5 : Hid (∀ o, Below (w.heap.size + 1) X (wr.alloc o)) := Lib.hid fun o => R.out.2.2.alloc (by have := R.out.2.2.size; have := XX.out.2; omega) _
        go_loopg [17] 10 (fun g si wq => ∃ (a : Nat), a ≤ 10 ∧ g = 10 - a ∧ si = .int .i64 a ∧ NoneB t 5 a ∧ Below (w.heap.size + 1) X wq)
        case atStart => exact ⟨0, by omega, rfl, rfl, R.out.2.1, B5.out _⟩
        case round =>
          obtain ⟨a, ha, hg, rfl, hn, hb⟩ := hrel
          have S : Hid (gk = 10 - a ∧ NoneB t 5 a ∧ Below (w.heap.size + 1) X wr) := Lib.hid ⟨hg, hn, hb⟩
          clear hg hn hb
          by_cases hla : a < 10
          · have hla' : (a : Int) < 10 := by omega
            have VV : Hid (validB 5 a = true) := Lib.hid (decide_eq_true (by omega))
            have WS : Hid (w.heap.size + 1 ≤ wr.heap.size) := Lib.hid (by have := S.out.2.2.size; have := XX.out.2; omega)
            obtain ⟨pt, hpt⟩ : ∃ pt, pt = printT 5 a := ⟨_, rfl⟩
            have PT := Lib.hid hpt
            have PR : Hid (∀ o, Calls Tryd.prog 23 #[.agg #[.int .i64 5, .int .i64 a]] (wr.alloc o) fun e w' => e = .returned (.tuple #[.string pt, .int .i64 0]) ∧ Below (wr.alloc o).heap.size (wr.alloc o) w') := Lib.hid fun o => by
              have q := print_any 5 a (wr.alloc o) ((NX.out.below (S.out.2.2.mono (by rw [XX.out.2]; exact Nat.le_refl _))).below ((Below.refl _ wr).alloc (Nat.le_refl _) _))
              rw [(pr_yes VV.out).1, (pr_yes VV.out).2, ← hpt] at q
              exact q
            clear hpt
            go_wp2_with fail
            refine (PR.out _).mono ?_
            rintro e w3 ⟨rfl, hb3⟩
            have d0 : w3.cell? ⟨wr.heap.size, 0, none⟩ = some (.int .i64 5) := (hb3.cell (p := ⟨wr.heap.size, 0, none⟩) (by simp)).trans (by rw [World.cell?_alloc_new]; rfl)
            have d1 : w3.cell? ⟨wr.heap.size, 1, none⟩ = some (.int .i64 a) := (hb3.cell (p := ⟨wr.heap.size, 1, none⟩) (by simp)).trans (by rw [World.cell?_alloc_new]; rfl)
            have B3 : Hid (Below (w.heap.size + 1) X w3) := Lib.hid ((S.out.2.2.alloc WS.out _).trans (hb3.mono (by have := WS.out; simp; omega)))
            clear hb3 PR
            by_cases heq : pt = t
            · have ge := teq_yes heq
              obtain ⟨e0, e1, f0, f1, eb⟩ := two_scope w XX.out.1 B3.out
              have EB := Lib.hid eb
              have FR : Hid (ParR t 5 a 0) := Lib.hid (Or.inl ⟨rfl, VV.out, by rw [← PT.out]; exact heq⟩)
              clear eb heq
              go_wp2_with fail
              refine bodyPost_ret (v := .tuple #[.agg #[.int .i64 5, .int .i64 a], .int .i64 0]) ?_ rfl ?_
              · rw [results_cell_tmp rfl]
                go_simp
              · exact ⟨5, a, 0, rfl, FR.out, (EB.out.setCell (p := ⟨w.heap.size, 0, none⟩) (Nat.le_refl _) _).setCell (p := ⟨w.heap.size, 1, none⟩) (Nat.le_refl _) _⟩
            · have ge := teq_no heq
              have NN : Hid (NoneB t 5 ((a + 1 : Nat) : Int)) := Lib.hid (by
                have := S.out.2.1.next (by rw [← PT.out]; exact heq)
                simpa using this)
              clear heq
              go_wp2_with fail
              go_roundg (10 - (a + 1))
              case measure => have := S.out.1; omega
              case rel => exact ⟨a + 1, by omega, rfl, by go_num, NN.out, B3.out⟩
          · have UP : Hid (NoneB t ((5 + 1 : Nat) : Int) 0) := Lib.hid (by
              have := S.out.2.1.up (fun a' hv => by unfold validB at hv; have := of_decide_eq_true hv; omega)
              simpa using this)
            have ge : (decide ((a : Int) < 10)) = false := decide_eq_false (by omega)
            go_wp2_with fail
            go_roundg (6 - 6)
            case measure => have := R.out.1; omega
            case rel => exact ⟨6, by omega, rfl, by go_num, UP.out, S.out.2.2⟩
    · have e6 : k = 6 := by omega
      subst e6
      obtain ⟨e0, e1, f0, f1, eb⟩ := two_scope w XX.out.1 R.out.2.2
      have EB := Lib.hid eb
      have FR : Hid (ParR t 0 0 150) := Lib.hid (Or.inr ⟨rfl, rfl, rfl, R.out.2.1.all⟩)
      clear eb
      go_wp2_with fail
      refine bodyPost_ret (v := .tuple #[.agg #[.int .i64 0, .int .i64 0], .int .i64 150]) ?_ rfl ?_
      · rw [results_cell_tmp rfl]
        go_simp
      · exact ⟨0, 0, 150, rfl, FR.out, (EB.out.setCell (p := ⟨w.heap.size, 0, none⟩) (Nat.le_refl _) _).setCell (p := ⟨w.heap.size, 1, none⟩) (Nat.le_refl _) _⟩
end Go.Proofs.YtibjmmfodelhjaaDoor
