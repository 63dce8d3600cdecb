/-
  kept, settle.
-/
import Derived.Test.YtbdlebengmbooaaRdA
namespace Go.Proofs.Ytbdlebengmbooaa
open Go.RowKit Go.Maps
theorem ret2_int {a b : Int} {t : Bool} (h : a = b) : Ending.returned (.tuple #[.int .i64 a, .bool t]) = .returned (.tuple #[.int .i64 b, .bool t]) := by rw [h]
set_option maxHeartbeats 1000000 in
theorem kept_any (k a : Int) (w : World) : Calls Try.prog 57 #[.agg #[.int .i64 k, .int .i64 a]] w fun e w' => e = .returned (.tuple #[.int .i64 (keptN (k, a)).1, .bool (keptN (k, a)).2]) ∧ Below w.heap.size w w' := by
  go_enter Try.func57, Try.ntmps57
  by_cases h1 : k = 1
  · have g1 : (k == 1) = true := by rw [beq_iff_eq]; exact h1
    have E : Hid (keptN (k, a) = (512, true)) := Lib.hid (by simp [keptN, h1])
    clear h1
    go_wp2_with fail
    go_ret2
    rw [E.out]
    exact ⟨rfl, (Below.refl _ _).alloc (Nat.le_refl _) _⟩
  · have g1 : (k == 1) = false := by rw [beq_eq_false_iff_ne]; exact h1
    by_cases h2 : k = 2
    · have g2 : (k == 2) = true := by rw [beq_iff_eq]; exact h2
      have E : Hid (keptN (k, a) = ((min (max a 0) 512).toNat, true)) := Lib.hid (by simp [keptN, h2])
      clear h1 h2
      by_cases ha : a < 0
      · go_wp2_with fail
        go_ret2
        rw [E.out]
        exact ⟨ret2_int (by show _ = (((min (max a 0) 512).toNat : Nat) : Int); omega), (Below.refl _ _).alloc (Nat.le_refl _) _⟩
      · have ha0 : 0 ≤ a := by omega
        by_cases hb : a ≤ 512
        · go_wp2_with fail
          go_ret2
          rw [E.out]
          exact ⟨ret2_int (by show _ = (((min (max a 0) 512).toNat : Nat) : Int); omega), (Below.refl _ _).alloc (Nat.le_refl _) _⟩
        · have hb' : 512 < a := by omega
          go_wp2_with fail
          go_ret2
          rw [E.out]
          exact ⟨ret2_int (by show _ = (((min (max a 0) 512).toNat : Nat) : Int); omega), (Below.refl _ _).alloc (Nat.le_refl _) _⟩
    · have g2 : (k == 2) = false := by rw [beq_eq_false_iff_ne]; exact h2
      have E : Hid (keptN (k, a) = (0, false)) := Lib.hid (by simp [keptN, h1, h2])
      clear h1 h2
      go_wp2_with fail
      go_ret2
      rw [E.out]
      exact ⟨rfl, (Below.refl _ _).alloc (Nat.le_refl _) _⟩
theorem size_write : (Try.prog.info? 86).map (·.size) = some 513 := by kernel_rfl
theorem zero_write (w : World) : (zeroValue 86).run Try.prog w = .ok (.agg (#[.int .i64 0] ++ Array.replicate 512 (.int .u8 0))) w := (zero_of_info (P := Try.prog) (t := 86) (n := 513) (by kernel_rfl)).1 w
theorem zeros_size : (#[Value.int .i64 0] ++ Array.replicate 512 (Value.int .u8 0)).size = 513 := by simp
/-- A whole value into the block that was made last. -/
theorem store_new {ops : Array Oper} {rest : List Oper} {o : Oper} {a : Act} {w : World} {Q : Exit → Act → World → Prop} (hgd : o.guard = none) (ty : TypeId) (x y : Operand) (ho : o.op = .store ty x y) (c C : Array Value)
    (hx : a.eval x = .pointer (some ⟨w.heap.size, 0, none⟩)) (hy : a.eval y = .agg C) (hi : (Try.prog.info? ty).map (·.size) = some C.size) (hc : c.size = C.size) (h1 : C.all (·.oneCell') = true)
    (h : wpList Try.prog ops Q rest (a.put o.dst undef) (w.alloc (.cells C ty))) : wpList Try.prog ops Q (o :: rest) a (w.alloc (.cells c ty)) := by
  refine wpList_plain hgd fun K hK => ?_
  unfold Oper.wp execOp
  simp only [ho, hx, hy, Sem.run_bind, run_storeAt_new (P := Try.prog) w ty c C hi hc h1, Sem.run_pure, Result.andThen_ok]
  exact hK _ _ h
theorem wt_cells (x : Wt) (h : x.2.length = 512) : ((Value.int .i64 (x.1 : Int) :: cells8 x.2).toArray).size = 513 ∧ ((Value.int .i64 (x.1 : Int) :: cells8 x.2).toArray).all (·.oneCell') = true := by
  refine ⟨by simp [cells8_length, h], all_oneCell_toArray fun v hv => ?_⟩
  rcases List.mem_cons.1 hv with rfl | hv
  · rfl
  · exact cells8_one _ v hv
theorem load_wt {ops : Array Oper} {rest : List Oper} {op : Oper} {a : Act} {w : World} {Q : Exit → Act → World → Prop} (hgd : op.guard = none) (ty : TypeId) (x : Operand) (ho : op.op = .load ty x)
    (b o : Nat) (hx : a.eval x = .pointer (some ⟨b, o, none⟩)) (cs : List Value) (C : Array Value) (hC : cs.toArray = C) (d : TypeDesc) (hc : w.rangeAt b o cs)
    (hu : Try.prog.underlying ty = some d) (hd : d.isRow = true) (hi : (Try.prog.info? ty).map (·.size) = some cs.length)
    (h : wpList Try.prog ops Q rest (a.put op.dst (.agg C)) w) : wpList Try.prog ops Q (op :: rest) a w := by
  subst hC
  exact wpList_load_mid hgd ty x ho b o hx cs d hc hu hd hi h
/-- The closure that tells the fates. -/
def Tells (m : Nat) (caps : Array Value) (f : Nat → Int × Int) (w : World) : Prop := ∀ k : Nat, Calls Try.prog m (#[.int .i64 (k : Int)] ++ caps) w fun e w' => e = .returned (.agg #[.int .i64 (f k).1, .int .i64 (f k).2]) ∧ Below w.heap.size w w'
end Go.Proofs.Ytbdlebengmbooaa
