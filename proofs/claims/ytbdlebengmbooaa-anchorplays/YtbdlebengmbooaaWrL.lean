/-
  What Write is made of.
-/
import Derived.Test.YtbdlebengmbooaaFlA
import Derived.Deep.RegionHeldLaw
namespace Go.Proofs.Ytbdlebengmbooaa
open Go.RowKit Go.Maps Go.ChangeMaps
def addW (t : DS) (k : Nat) (p : List UInt8) : DS := ⟨t.n, t.med, t.cache ++ [(k, p)], t.armed, t.left, t.down, t.cr, up t.cw, t.cf, t.ws + 1⟩
/-- Write. -/
def wrE (s : DS) (i : Int) (p : List UInt8) : DS × Int :=
  if hasB s i = false then (s, 60)
  else if p.length ≠ 512 then (s, 61)
  else if (actD s).2 ≠ 0 then (actD s)
  else (addW (actD s).1 i.toNat p, 0)
theorem zeros_cells (n : Nat) (i : Int) : #[Value.int .i64 i] ++ Array.replicate n (Value.int .u8 0) = (Value.int .i64 i :: cells8 (List.replicate n 0)).toArray := by
  apply Array.ext'
  simp [cells8, c8]
theorem fold_set : ∀ (l : List Value) (k : Nat) (Z : Array Value), k + l.length = Z.size → (l.zipIdx k).foldl (fun cs p => cs.setIfInBounds (0 + p.2) p.1) Z = (Z.toList.take k ++ l).toArray
  | [], k, Z, h => by
    rw [List.zipIdx_nil, List.foldl_nil, List.append_nil, List.take_of_length_le (by simp at h ⊢; omega)]
  | x :: l, k, Z, h => by
    simp only [List.length_cons] at h
    rw [List.zipIdx_cons, List.foldl_cons, fold_set l (k + 1) _ (by simp; omega)]
    congr 1
    simp only [Nat.zero_add, Array.toList_setIfInBounds]
    rw [List.take_add_one, List.getElem?_set_self (by simp; omega), List.take_set_of_le (Nat.le_refl k)]
    simp
theorem fill_one (C Z : Array Value) (n : Nat) (hC : C.size = n) (hZ : Z.size = n) : Instr.fill (fun i => some (i * n, n)) Z [(0, .agg C)] = some C := by
  obtain ⟨l⟩ := C
  have hl : l.length = n := by simpa using hC
  have h1 : (Value.agg ⟨l⟩).cells = ⟨l⟩ := rfl
  simp only [Instr.fill, h1, Nat.zero_mul]
  rw [if_neg (by simp; omega)]
  have := fold_set l 0 Z (by omega)
  simp only [List.take_zero, List.nil_append] at this
  rw [← Array.foldl_toList, Array.toList_zipIdx]
  exact congrArg some this
theorem build_slice (C : Array Value) (hC : C.size = 513) (w : World) : (Instr.buildSlice 60 1 #[(0, .agg C)]).run Try.prog w = .ok (.slice (some ⟨w.heap.size, 0, none⟩) 1 1) (w.alloc (.cells C 86)) := by
  have hz : (sizeOf 86).run Try.prog w = .ok 513 w := by
    cases hq : Try.prog.info? 86 with
    | none => have := size_write; rw [hq] at this; cases this
    | some i => have := size_write; rw [hq] at this; simp at this; simp [sizeOf, typeInfo, hq, this]
  obtain ⟨Z, hZ⟩ : ∃ Z : Array Value, Z = (Array.range (1 * 513)).map ((#[Value.int .i64 0] ++ Array.replicate 512 (Value.int .u8 0))[· % (#[Value.int .i64 0] ++ Array.replicate 512 (Value.int .u8 0)).size]!) := ⟨_, rfl⟩
  have hf := fill_one C Z 513 hC (by rw [hZ]; simp)
  have hzw := zero_write w
  simp only [Instr.buildSlice, Sem.run_bind, run_underlying Try.underlying60, Result.andThen_ok, hz]
  rw [if_neg (by decide), if_neg (by decide)]
  simp only [Sem.run_bind, Sem.run_pure, Result.andThen_ok, hzw]
  rw [fill_one C _ 513 hC (by simp)]
  rfl
theorem built_write (i : Int) : Try.prog.built 86 [(0, .int .i64 i)] = some (#[Value.int .i64 i] ++ Array.replicate 512 (Value.int .u8 0)) := by kernel_rfl
theorem build_write {ops : Array Oper} {rest : List Oper} {o : Oper} {a : Act} {w : World} {Q : Exit → Act → World → Prop} (hg : o.guard = none) (x : Operand) (ho : o.op = .build 86 #[(0, x)]) (i : Int) (hx : a.eval x = .int .i64 i) (Y : Array Value) (hY : Y = #[Value.int .i64 i] ++ Array.replicate 512 (Value.int .u8 0))
    (h : wpList Try.prog ops Q rest (a.put o.dst (.agg Y)) w) : wpList Try.prog ops Q (o :: rest) a w := by
  have e : Try.prog.built 86 ((#[(0, x)] : Array (Nat × Operand)).map fun (i, x) => (i, a.eval x)).toList = some Y := by
    rw [hY, ← built_write i]
    simp [hx]
  refine wpList_build hg _ _ ho (by rw [e]; rfl) ?_
  rw [e]
  exact h
theorem step_app_wt {ops : Array Oper} {o : Oper} {a : Act} {K : Act → World → Prop} {Q : Exit → Act → World → Prop} {E : Prop} (hgd : o.guard = none) (s x : Operand)
    (ho : o.op = .call { callee := .builtin .append, args := #[s, x], argTypes := #[60, 60] })
    {B : Nat} {wx : World} {v : Value} {l : List Wt} (hs : a.eval s = v) (hown : wx.ownsRow B 86 513 v l.length (cellsW l)) (hB : B ≤ wx.heap.size) (y : Wt) (hy : y.2.length = 512) (ad : Addr)
    (hx : a.eval x = .slice (some ad) 1 1) (hnews : ∀ j u, (Value.int .i64 (y.1 : Int) :: cells8 y.2)[j]? = some u → wx.cell? (ad.add j) = some u) (hl : l.length < 137438953472) (t : Nat) (hd : o.dst = some t)
    (h : ∀ v' w', Hid (w'.ownsRow B 86 513 v' (l ++ [y]).length (cellsW (l ++ [y])) ∧ wx.grownBy w' v.ownBlock ∧ (v'.ownBlock = v.ownBlock ∨ v'.ownBlock = some wx.heap.size)) → K (a.put (some t) v') w') :
    if Region.wanted o (yielded ops a.tmps) = true then Oper.wp Try.prog o a wx K Q else E := by
  rw [← hd] at h
  have hw : Region.wanted o (yielded ops a.tmps) = true := by simp [Region.wanted, hgd]
  rw [if_pos hw]
  have info : (Try.prog.info? 86).map (fun i => (i.zero.map (·.cells.size), i.size, i.bytes)) = some (some 513, 513, 520) := by kernel_rfl
  obtain ⟨i0, z, hi, hz0, hz1, hz2, hz3⟩ : ∃ i0 z, Try.prog.info? 86 = some i0 ∧ i0.zero = some z ∧ i0.size = 513 ∧ i0.bytes = 520 ∧ z.cells.size = 513 := by
    cases hq : Try.prog.info? 86 with
    | none => rw [hq] at info; cases info
    | some i0 =>
      rw [hq] at info
      simp only [Option.map_some, Option.some.injEq, Prod.mk.injEq] at info
      cases hz : i0.zero with
      | none => rw [hz] at info; cases info.1
      | some z =>
        rw [hz] at info
        simp only [Option.map_some, Option.some.injEq] at info
        exact ⟨i0, z, rfl, hz, info.2.1, info.2.2, info.1⟩
  obtain ⟨v', w', hr, h1, h2, _, h3⟩ := run_append_own_at (P := Try.prog) wx B 60 o.type 86 i0 z 513 520 Try.underlying60 hi hz0 hz1 hz2 hz3 (by decide) v l.length (cellsW l) hown ad 1 1 (Value.int .i64 (y.1 : Int) :: cells8 y.2) (by simp [cells8_length, hy]) hnews (fun u hu => by
    rcases List.mem_cons.1 hu with rfl | hu
    · rfl
    · exact cells8_one _ u hu) (by unfold maxLen; omega) (by omega) hB
  unfold Oper.wp execOp
  simp only [ho, resolve, invoke, builtin, Sem.run_bind, Sem.run_pure, Result.andThen_ok, List.map_toArray, List.map_cons, List.map_nil, hs, hx, hr]
  have e : cellsW (l ++ [y]) = cellsW l ++ (Value.int .i64 (y.1 : Int) :: cells8 y.2) := by simp [cellsW]
  exact h v' w' ⟨by rw [e, List.length_append]; exact h1, h2, h3⟩
theorem takeH {P : Program} {ops : Array Oper} {Q : Exit → Act → World → Prop} {md : Region.Mode} {S : World → Prop} {i t : Nat} {oi : Oper} {v : Value} {fuel : Nat} {listed : Array Bool} {a : Act} {w : World} (hi : ops[i]? = some oi) (hd : oi.dst = some t)
    (hs : Region.noSelect ops = true) (hf : Region.free md ops listed i = true) (hr : (Region.ready md ops listed).contains i = true)
    (hQ : ∀ c a w, Q (.panic c) (a.put (some t) v) w → Q (.panic c) a w) (hy : YieldsIf P ops S oi v a) (hS : S w)
    (h : wpAnyH P md ops Q S fuel (listed.setIfInBounds i true) (a.put (some t) v) w) : wpAnyH P md ops Q S (fuel + 1) listed a w := by
  rw [← hd] at hQ h
  exact wpAnyH_take hi hs hf hr hQ hy hS h
theorem step_get {w : World} {ops : Array Oper} {o : Oper} {a : Act} {K : Act → World → Prop} {Q : Exit → Act → World → Prop} {E : Prop} (hgd : o.guard = none) (ty : TypeId) (x : Operand) (ho : o.op = .load ty x)
    (ad : Addr) (v : Value) (hx : a.eval x = .pointer (some ad)) (hrun : (Instr.loadAt ty (.pointer (some ad))).run Try.prog w = .ok v w) (t : Nat) (hd : o.dst = some t) (h : K (a.put (some t) v) w) :
    if Region.wanted o (yielded ops a.tmps) = true then Oper.wp Try.prog o a w K Q else E := by
  rw [← hd] at h
  have hw : Region.wanted o (yielded ops a.tmps) = true := by simp [Region.wanted, hgd]
  rw [if_pos hw]
  unfold Oper.wp execOp
  simp only [ho, hx, Sem.run_bind, Sem.run_pure, Result.andThen_ok, hrun]
  exact h
theorem step_put {w w' : World} {ops : Array Oper} {o : Oper} {a : Act} {K : Act → World → Prop} {Q : Exit → Act → World → Prop} {E : Prop} (hgd : o.guard = none) (ty : TypeId) (x y : Operand) (ho : o.op = .store ty x y)
    (ad : Addr) (v : Value) (hx : a.eval x = .pointer (some ad)) (hy : a.eval y = v) (hrun : (Instr.storeAt ty (.pointer (some ad)) v).run Try.prog w = .ok () w') (hd : o.dst = none) (h : K a w') :
    if Region.wanted o (yielded ops a.tmps) = true then Oper.wp Try.prog o a w K Q else E := by
  have h : K (a.put o.dst undef) w' := by rw [hd]; exact h
  have hw : Region.wanted o (yielded ops a.tmps) = true := by simp [Region.wanted, hgd]
  rw [if_pos hw]
  unfold Oper.wp execOp
  simp only [ho, hx, hy, Sem.run_bind, Sem.run_pure, Result.andThen_ok, hrun]
  exact h
theorem step_bs {w : World} {ops : Array Oper} {o : Oper} {a : Act} {K : Act → World → Prop} {Q : Exit → Act → World → Prop} {E : Prop} (hgd : o.guard = none) (x : Operand) (ho : o.op = .buildSlice 60 1 #[(0, x)])
    (C : Array Value) (hx : a.eval x = .agg C) (hrun : ∀ w, (Instr.buildSlice 60 1 #[(0, .agg C)]).run Try.prog w = .ok (.slice (some ⟨w.heap.size, 0, none⟩) 1 1) (w.alloc (.cells C 86)))
    (t : Nat) (hd : o.dst = some t) (h : K (a.put (some t) (.slice (some ⟨w.heap.size, 0, none⟩) 1 1)) (w.alloc (.cells C 86))) :
    if Region.wanted o (yielded ops a.tmps) = true then Oper.wp Try.prog o a w K Q else E := by
  rw [← hd] at h
  have hw : Region.wanted o (yielded ops a.tmps) = true := by simp [Region.wanted, hgd]
  rw [if_pos hw]
  unfold Oper.wp execOp
  have e : ((#[(0, x)] : Array (Nat × Operand)).map fun (i, x) => (i, a.eval x)) = #[(0, .agg C)] := by simp [hx]
  simp only [ho, e, Sem.run_bind, Sem.run_pure, Result.andThen_ok, hrun]
  exact h
theorem load_row (w : World) {d : Nat} {v : Value} (h : w.cell? ⟨d, 1, none⟩ = some v) : (Instr.loadAt 60 (.pointer (some ⟨d, 1, none⟩))).run Try.prog w = .ok v w := by go_simp
theorem store_row (w : World) (v : Value) {B n : Nat} {xs : List Value} (hv : w.ownsRow B 86 513 v n xs) {d : Nat} {u : Value} (h : w.cell? ⟨d, 1, none⟩ = some u) (hf : w.frozen? ⟨d, 1, none⟩ = false) : (Instr.storeAt 60 (.pointer (some ⟨d, 1, none⟩)) v).run Try.prog w = .ok () (w.setCell ⟨d, 1, none⟩ v) := by
  obtain ⟨a, m, c, rfl⟩ : ∃ a m c, v = .slice a m c := by
    obtain ⟨_, ⟨hv, _⟩ | ⟨g, cap, cur, hv, _⟩⟩ := hv
    · exact ⟨_, _, _, hv⟩
    · exact ⟨_, _, _, hv⟩
  go_simp
end Go.Proofs.Ytbdlebengmbooaa
