/-
  The iterator over an object's shares.
-/
import Derived.Test.YtodfmnbfbndkhaaGreatDoorLeT
import Derived.Test.YtodfmnbfbndkhaaGreatDoorScY
import Derived.Test.YtodfmnbfbndkhaaGreatDoorScR
import Derived.Test.YtodfmnbfbndkhaaGreatDoorLPathA
import Derived.RangeFuncNested
import Derived.RangeFuncBound
import Derived.RangeFuncCalls
import Derived.RangeFuncLeaves
import Derived.RangeFuncWrites
import Derived.RangeFuncStops
import Derived.RangeFuncKeeps
import Derived.Sort.MapsRangeIn
import Derived.Maps.OwnIn
import Derived.LoopIn
import Derived.LoopNIn
import Derived.TacticsInMore
import Derived.Shelf.RegionOpen
namespace Go.Proofs.YtodfmnbfbndkhaaGreatDoor
open Go.RowKit Go.Shelf
namespace Le
theorem grown_of_below {w w' : World} (h : Below w.heap.size w w') : w.grownBy w' none := ⟨h.os, h.tape, h.output, h.size, fun i hi _ => h.block i hi⟩
/-- The shares of a path in a scope; of a path; all. -/
def shU (p : ByteArray) (s : Int × Int) (us : List Am) : Sh := us.map fun u => (⟨p, s.1, s.2, u.n⟩, u.v)
def shS (p : ByteArray) (sc : List (Int × Int)) (us : List Am) : Sh := sc.flatMap fun s => shU p s us
def shL (ln : List ByteArray) (sc : List (Int × Int)) (us : List Am) : Sh := ln.flatMap fun p => shS p sc us
abbrev zB : ByteArray := ⟨#[]⟩
/-- A share that Go bears; every other is told as the empty one. -/
def Okk (x : Ky × Int) : Prop := x.1.Fit ∧ 0 ≤ x.2 ∧ x.2 ≤ MX
open Classical in
noncomputable def cl (x : Ky × Int) : Ky × Int := if Okk x then x else (⟨zB, 0, 0, zB⟩, 0)
theorem cl_ok (x : Ky × Int) : Okk (cl x) := by
  unfold cl
  split
  · assumption
  · exact ⟨⟨by decide, by decide, by decide, by decide⟩, by decide, by decide⟩
theorem cl_eq {x : Ky × Int} (h : Okk x) : cl x = x := by unfold cl; rw [if_pos h]
/-- What has come when i paths, j scopes of the next, k amounts of the next are done. -/
def pre3 (ln : List ByteArray) (sc : List (Int × Int)) (us : List Am) (i j k : Nat) : Sh := shL (ln.take i) sc us ++ (shS (ln.getD i zB) (sc.take j) us ++ shU (ln.getD i zB) (sc.getD j (0, 0)) (us.take k))
variable {ln : List ByteArray} {sc : List (Int × Int)} {us : List Am} {i j k : Nat}
theorem take_snoc {α : Type} (l : List α) (i : Nat) (d : α) (h : i < l.length) : l.take (i + 1) = l.take i ++ [l.getD i d] := take_onez l i d h
theorem pre3_zero : pre3 ln sc us i 0 0 = shL (ln.take i) sc us := by simp [pre3, shS, shU]
theorem pre3_j0 : pre3 ln sc us i j 0 = shL (ln.take i) sc us ++ shS (ln.getD i zB) (sc.take j) us := by simp [pre3, shU]
theorem pre3_k (h : k < us.length) : pre3 ln sc us i j (k + 1) = pre3 ln sc us i j k ++ [(⟨ln.getD i zB, (sc.getD j (0, 0)).1, (sc.getD j (0, 0)).2, (us.getD k kAm.z).n⟩, (us.getD k kAm.z).v)] := by
  unfold pre3 shU
  rw [take_snoc us k kAm.z h]
  simp [List.append_assoc]
theorem pre3_kend (hj : j < sc.length) : pre3 ln sc us i j us.length = pre3 ln sc us i (j + 1) 0 := by
  rw [pre3_j0, pre3, List.take_length, take_snoc sc j (0, 0) hj]
  simp [shS, shU]
theorem pre3_jend (hi : i < ln.length) : pre3 ln sc us i sc.length 0 = shL (ln.take (i + 1)) sc us := by
  rw [pre3_j0, List.take_length, take_snoc ln i zB hi]
  simp [shL]
theorem take_all {α : Type} (l : List α) : l.take l.length = l := List.take_length
theorem pre3_pre (hi : i < ln.length) (hj : j < sc.length) (k : Nat) : pre3 ln sc us i j k <+: shL ln sc us := by
  have e1 : shL ln sc us = shL (ln.take i) sc us ++ (shS (ln.getD i zB) sc us ++ shL (ln.drop (i + 1)) sc us) := by
    have : ln = ln.take i ++ (ln.getD i zB :: ln.drop (i + 1)) := by
      conv => lhs; rw [← List.take_append_drop (i + 1) ln, take_snoc ln i zB hi]
      simp
    conv => lhs; rw [this]
    simp [shL]
  have e2 : shS (ln.getD i zB) sc us = shS (ln.getD i zB) (sc.take j) us ++ (shU (ln.getD i zB) (sc.getD j (0, 0)) us ++ shS (ln.getD i zB) (sc.drop (j + 1)) us) := by
    have : sc = sc.take j ++ (sc.getD j (0, 0) :: sc.drop (j + 1)) := by
      conv => lhs; rw [← List.take_append_drop (j + 1) sc, take_snoc sc j (0, 0) hj]
      simp
    conv => lhs; rw [this]
    simp [shS]
  have e3 : shU (ln.getD i zB) (sc.getD j (0, 0)) us = shU (ln.getD i zB) (sc.getD j (0, 0)) (us.take k) ++ shU (ln.getD i zB) (sc.getD j (0, 0)) (us.drop k) := by
    unfold shU
    rw [← List.map_append, List.take_append_drop]
  rw [e1, e2, e3]
  unfold pre3
  simp only [List.append_assoc]
  refine (List.prefix_append_right_inj _).2 ((List.prefix_append_right_inj _).2 ?_)
  exact List.prefix_append _ _
/-- What a round must keep: all that lies in cells. -/
def Kp (W W' : World) : Prop := W.heap.size ≤ W'.heap.size ∧ ∀ (y : Nat) (cs : Array Value) (ty : TypeId) (fr : Nat × Nat), W.heap[y]? = some (Obj.cells cs ty fr) → W'.heap[y]? = some (Obj.cells cs ty fr)
structure Kq (w W : World) : Prop where
  sz : w.heap.size ≤ W.heap.size
  bk : ∀ (y : Nat) (cs : Array Value) (ty : TypeId) (fr : Nat × Nat), w.heap[y]? = some (Obj.cells cs ty fr) → W.heap[y]? = some (Obj.cells cs ty fr)
theorem Kq.below {w W W' : World} (h : Kq w W) (hb : Below W.heap.size W W') : Kq w W' :=
  ⟨Nat.le_trans h.sz hb.size, fun y cs ty fr hy => (hb.block y (lt_of_some (h.bk y cs ty fr hy))).trans (h.bk y cs ty fr hy)⟩
theorem Kq.round {w W W' : World} (h : Kq w W) (hk : Kp W W') : Kq w W' :=
  ⟨Nat.le_trans h.sz hk.1, fun y cs ty fr hy => hk.2 y cs ty fr (h.bk y cs ty fr hy)⟩
theorem cells_of_cell {w : World} {y i : Nat} {u : Value} (h : w.cell? ⟨y, i, none⟩ = some u) : ∃ cs ty fr, w.heap[y]? = some (.cells cs ty fr) := by
  unfold World.cell? at h
  cases e : w.heap[y]? with
  | none => rw [e] at h; simp at h
  | some o =>
    cases o with
    | cells cs ty fr => exact ⟨cs, ty, fr, rfl⟩
    | _ => rw [e] at h; simp at h
theorem Kq.cell {w W : World} (h : Kq w W) {y i : Nat} {u : Value} (hc : w.cell? ⟨y, i, none⟩ = some u) : W.cell? ⟨y, i, none⟩ = some u := by
  obtain ⟨cs, ty, fr, e⟩ := cells_of_cell hc
  exact (World.cell?_of_block ((h.bk y cs ty fr e).trans e.symm)).trans hc
/-- What is left of a loop's rounds. -/
def lf (n : Nat) : Value → Nat
  | .int _ i => n - i.toNat
  | _ => 0
theorem lf_succ (n i : Nat) : lf n (.int .i64 ((i : Int) + 1)) = n - (i + 1) := by simp only [lf]; omega
theorem lf_int (n i : Nat) : lf n (.int .i64 (i : Int)) = n - i := by simp [lf]
set_option maxHeartbeats 16000000 in
set_option maxRecDepth 100000 in
theorem shr1 (m : Nat) (hm : 2 ≤ m) (c1 c2 c3 : Nat) (av bv dv : Option Addr) (n1 n2 n3 k1 k2 k3 : Nat) (ln : List ByteArray) (sc : List (Int × Int)) (us : List Am) (w : World)
    (h1 : w.cell? ⟨c1, 0, none⟩ = some (.slice av n1 k1)) (h2 : w.cell? ⟨c2, 0, none⟩ = some (.slice bv n2 k2)) (h3 : w.cell? ⟨c3, 0, none⟩ = some (.slice dv n3 k3))
    (HL : L.Strs w (.slice av n1 k1) ln) (HS : Row kSc w (.slice bv n2 k2) sc) (HU : Row kAm w (.slice dv n3 k3) us) (hok : ∀ e ∈ shL ln sc us, Okk e) :
    SeqStopsK Fence.wide m Tryz.prog 92 #[.pointer (some ⟨c1, 0, none⟩), .pointer (some ⟨c2, 0, none⟩), .pointer (some ⟨c3, 0, none⟩)] (fun x : Ky × Int => #[(cl x).1.val, .int .i64 (cl x).2]) Kp (fun xs => xs = shL ln sc us) (fun pre => pre <+: shL ln sc us) (shL ln sc us).length w := fun l J Jx W hW aJ aJx hY h0 => by
  obtain ⟨e1, q1, AC1⟩ : n1 = ln.length ∧ n1 ≤ 9223372036854775807 ∧ Hid (∀ i, i < n1 → ∃ bb off, av = some ⟨bb, off, none⟩ ∧ w.cell? ⟨bb, off + i, none⟩ = some (.string (ln.getD i zB))) := by
    obtain ⟨a, c, e, h4, h5, _, h6⟩ := HL
    simp only [Value.slice.injEq] at e
    obtain ⟨r1, r2, r3⟩ := e
    subst r1 r2 r3
    unfold maxLen at h5
    exact ⟨rfl, by omega, Lib.hid h6⟩
  obtain ⟨e2, q2⟩ : n2 = sc.length ∧ n2 ≤ 9223372036854775807 := by
    obtain ⟨a, c, e, h4, h5⟩ := HS.len
    simp only [Value.slice.injEq] at e
    obtain ⟨r1, r2, r3⟩ := e
    subst r1 r2 r3
    unfold maxLen at h5
    exact ⟨rfl, by omega⟩
  obtain ⟨e3, q3⟩ : n3 = us.length ∧ n3 ≤ 9223372036854775807 := by
    obtain ⟨a, c, e, h4, h5⟩ := HU.len
    simp only [Value.slice.injEq] at e
    obtain ⟨r1, r2, r3⟩ := e
    subst r1 r2 r3
    unfold maxLen at h5
    exact ⟨rfl, by omega⟩
  have AC2 : Hid (∀ j, j < n2 → ∃ bb off, bv = some ⟨bb, off, none⟩ ∧ w.cell? ⟨bb, off + j * 2, none⟩ = some (.int .i64 (sc.getD j (0, 0)).1) ∧ w.cell? ⟨bb, off + j * 2 + 1, none⟩ = some (.int .i64 (sc.getD j (0, 0)).2)) := Lib.hid (fun j hj => by
    obtain ⟨bb, off, e, h⟩ := HS.at (k := j) (by omega)
    exact ⟨bb, off, e, h 0 _ rfl, h 1 _ rfl⟩)
  have AC3 : Hid (∀ k, k < n3 → ∃ bb off, dv = some ⟨bb, off, none⟩ ∧ w.cell? ⟨bb, off + k * 2, none⟩ = some (.string (us.getD k kAm.z).n) ∧ w.cell? ⟨bb, off + k * 2 + 1, none⟩ = some (.int .i64 (us.getD k kAm.z).v)) := Lib.hid (fun k hk => by
    obtain ⟨bb, off, e, h⟩ := HU.at (k := k) (by omega)
    exact ⟨bb, off, e, h 0 _ rfl, h 1 _ rfl⟩)
  have Q0 : Hid (Kq w W) := Lib.hid ⟨hW.size, fun y cs ty fr hy => (hW.block y (lt_of_some hy)).trans hy⟩
  have CL : Hid (∀ (X : World) (y i : Nat) (u : Value), Kq w X → w.cell? ⟨y, i, none⟩ = some u → X.cell? ⟨y, i, none⟩ = some u) := Lib.hid (fun X y i u h hc => h.cell hc)
  have HD : Hid (w.cell? ⟨c1, 0, none⟩ = some (.slice av n1 k1) ∧ w.cell? ⟨c2, 0, none⟩ = some (.slice bv n2 k2) ∧ w.cell? ⟨c3, 0, none⟩ = some (.slice dv n3 k3)) := Lib.hid ⟨h1, h2, h3⟩
  have d1 : W.cell? ⟨c1, 0, none⟩ = some (.slice av n1 k1) := CL.out _ _ _ _ Q0.out h1
  have OKK := Lib.hid hok
  have AJ := Lib.hid aJ
  have J0 := Lib.hid h0
  have YY := Lib.hid hY
  have EE : Hid (n1 = ln.length ∧ n2 = sc.length ∧ n3 = us.length) := Lib.hid ⟨e1, e2, e3⟩
  clear hW aJ aJx hY h0 h1 h2 h3 HL HS HU e1 e2 e3 hok
  refine callsIn_of_wp Tryz.func92 rfl trivial ?_ rfl
  simp only [Tryz.ntmps92, List.size_toArray, List.length_cons, List.length_nil, Nat.reduceAdd, Nat.reduceSub, Array.replicate_succ, Array.replicate_zero, List.push_toArray, List.append_toArray, List.nil_append, List.cons_append]
  gi_wp2_with (first | gi_in)
  try go_frame
  gi_loopw [13] (fun s13 wr => ∃ i : Nat, s13 = .int .i64 i ∧ Hid (i ≤ n1 ∧ Kq w wr ∧ W.heap.size ≤ wr.heap.size ∧ J (shL (ln.take i) sc us) wr)) (fun s13 _ => lf n1 s13)
  case atStart => exact ⟨0, rfl, Lib.hid ⟨Nat.zero_le _, Q0.out, Nat.le_refl _, J0.out⟩⟩
  case round =>
    obtain ⟨i, rfl, S⟩ := hrel
    clear d1
    by_cases hlt : i < n1
    · have hlt' : (i : Int) < (n1 : Int) := by omega
      obtain ⟨bb, off, rfl, hc⟩ := AC1.out i hlt
      have x0 := CL.out _ _ _ _ S.out.2.1 hc
      have x1 := CL.out _ _ _ _ S.out.2.1 HD.out.2.1
      obtain ⟨P, hP⟩ : ∃ P, P = ln.getD i zB := ⟨_, rfl⟩
      rw [← hP] at x0
      have PP := Lib.hid hP
      clear hc hP
      gi_wp2_with fail
      clear x0 x1
      gi_loopw [19] (fun s19 wr => ∃ j : Nat, s19 = .int .i64 j ∧ Hid (j ≤ n2 ∧ Kq w wr ∧ W.heap.size ≤ wr.heap.size ∧ J (pre3 ln sc us i j 0) wr)) (fun s19 _ => lf n2 s19)
      case atStart => exact ⟨0, rfl, Lib.hid ⟨Nat.zero_le _, S.out.2.1, S.out.2.2.1, by rw [pre3_zero]; exact S.out.2.2.2⟩⟩
      case round =>
        obtain ⟨j, rfl, S2⟩ := hrel
        by_cases hlt2 : j < n2
        · have hlt2' : (j : Int) < (n2 : Int) := by omega
          obtain ⟨b2, o2, rfl, hc0, hc1⟩ := AC2.out j hlt2
          obtain ⟨⟨s0, s1⟩, hs⟩ : ∃ s, s = sc.getD j (0, 0) := ⟨_, rfl⟩
          rw [← hs] at hc0 hc1
          simp only at hc0 hc1
          have SS := Lib.hid hs
          have y0 := CL.out _ _ _ _ S2.out.2.1 hc0
          have y1 := CL.out _ _ _ _ S2.out.2.1 hc1
          have y2 := CL.out _ _ _ _ S2.out.2.1 HD.out.2.2
          have y3 := cellA y2 (Obj.cells #[.int .i64 s0, .int .i64 s1] 39)
          have BX : Hid (Below wr.heap.size wr (wr.alloc (Obj.cells #[.int .i64 s0, .int .i64 s1] 39)) ∧ (wr.alloc (Obj.cells #[.int .i64 s0, .int .i64 s1] 39)).heap[wr.heap.size]? = some (.cells #[.int .i64 s0, .int .i64 s1] 39 (0, 0))) := Lib.hid ⟨(Below.refl _ _).alloc (Nat.le_refl _) _, heap_alloc_new _ _⟩
          clear hc0 hc1 hs
          gi_wp2_with fail
          clear y0 y1 y2 y3
          obtain ⟨g8, hg8⟩ : ∃ g, g = wr.heap.size := ⟨_, rfl⟩
          obtain ⟨X2, hX2⟩ : ∃ X, X = wr.alloc (Obj.cells #[.int .i64 s0, .int .i64 s1] 39) := ⟨_, rfl⟩
          rw [← hX2, ← hg8] at BX
          rw [← hX2, ← hg8]
          have S3 : Hid (Kq w X2 ∧ W.heap.size ≤ X2.heap.size ∧ J (pre3 ln sc us i j 0) X2 ∧ X2.heap[g8]? = some (.cells #[.int .i64 s0, .int .i64 s1] 39 (0, 0))) := Lib.hid (by
            have bl := BX.out.1
            rw [hg8] at bl
            exact ⟨S2.out.2.1.below bl, Nat.le_trans S2.out.2.2.1 bl.size, AJ.out _ wr X2 none S2.out.2.2.2 (grown_of_below bl) (fun r e => by cases e), BX.out.2⟩)
          clear hX2 hg8 BX
          gi_loopw [25] (fun s25 wr => ∃ k : Nat, s25 = .int .i64 k ∧ Hid (k ≤ n3 ∧ Kq w wr ∧ W.heap.size ≤ wr.heap.size ∧ J (pre3 ln sc us i j k) wr ∧ wr.heap[g8]? = some (.cells #[.int .i64 s0, .int .i64 s1] 39 (0, 0)))) (fun s25 _ => lf n3 s25)
          case atStart => exact ⟨0, rfl, Lib.hid ⟨Nat.zero_le _, S3.out.1, S3.out.2.1, S3.out.2.2.1, S3.out.2.2.2⟩⟩
          case round =>
            clear S3
            obtain ⟨k, rfl, S4⟩ := hrel
            by_cases hlt3 : k < n3
            · have hlt3' : (k : Int) < (n3 : Int) := by omega
              obtain ⟨b3, o3, rfl, hc0, hc1⟩ := AC3.out k hlt3
              obtain ⟨⟨un, uv⟩, hu⟩ : ∃ u, u = us.getD k kAm.z := ⟨_, rfl⟩
              rw [← hu] at hc0 hc1
              simp only at hc0 hc1
              have UU := Lib.hid hu
              have z0 := CL.out _ _ _ _ S4.out.2.1 hc0
              have z1 := CL.out _ _ _ _ S4.out.2.1 hc1
              obtain ⟨g10, hg10⟩ : ∃ g, g = wr.heap.size := ⟨_, rfl⟩
              obtain ⟨X3, hX3⟩ : ∃ X, X = wr.alloc (Obj.cells #[.string un, .int .i64 uv] 37) := ⟨_, rfl⟩
              have BX : Hid (Below wr.heap.size wr X3 ∧ X3.heap[g10]? = some (.cells #[.string un, .int .i64 uv] 37 (0, 0))) := Lib.hid ⟨by rw [hX3]; exact (Below.refl _ _).alloc (Nat.le_refl _) _, by rw [hX3, hg10]; exact heap_alloc_new _ _⟩
              have S5 : Hid (Kq w X3 ∧ W.heap.size ≤ X3.heap.size ∧ J (pre3 ln sc us i j k) X3 ∧ X3.heap[g8]? = some (.cells #[.int .i64 s0, .int .i64 s1] 39 (0, 0))) := Lib.hid (by
                have bl := BX.out.1
                exact ⟨S4.out.2.1.below bl, Nat.le_trans S4.out.2.2.1 bl.size, AJ.out _ wr X3 none S4.out.2.2.2.1 (grown_of_below bl) (fun r e => by cases e), (bl.block _ (lt_of_some S4.out.2.2.2.2)).trans S4.out.2.2.2.2⟩)
              have f0 : X3.cell? ⟨g8, 0, none⟩ = some (.int .i64 s0) := by rw [cell_of_row _ _ _ _ _ _ S5.out.2.2.2]; rfl
              have f1 : X3.cell? ⟨g8, 1, none⟩ = some (.int .i64 s1) := by rw [cell_of_row _ _ _ _ _ _ S5.out.2.2.2]; rfl
              have f2 : X3.cell? ⟨g10, 0, none⟩ = some (.string un) := by rw [cell_of_row _ _ _ _ _ _ BX.out.2]; rfl
              have f3 : X3.cell? ⟨g10, 1, none⟩ = some (.int .i64 uv) := by rw [cell_of_row _ _ _ _ _ _ BX.out.2]; rfl
              have NXT : Hid (pre3 ln sc us i j (k + 1) = pre3 ln sc us i j k ++ [(⟨P, s0, s1, un⟩, uv)] ∧ (pre3 ln sc us i j k).length < (shL ln sc us).length ∧ pre3 ln sc us i j (k + 1) <+: shL ln sc us) := Lib.hid (by
                have q := EE.out
                have p1 := pre3_k (ln := ln) (sc := sc) (us := us) (i := i) (j := j) (k := k) (by omega)
                rw [← PP.out, ← SS.out, ← hu] at p1
                have p2 := pre3_pre (ln := ln) (sc := sc) (us := us) (i := i) (j := j) (by omega) (by omega) (k + 1)
                refine ⟨p1, ?_, p2⟩
                have := p2.length_le
                rw [p1, List.length_append] at this
                simp at this
                omega)
              obtain ⟨fn, tmps, assign, body, hy, hR⟩ := YY.out (pre3 ln sc us i j k) (⟨P, s0, s1, un⟩, uv) X3 S5.out.2.2.1 NXT.out.2.1
              rw [cl_eq (OKK.out _ (NXT.out.2.2.subset (by rw [NXT.out.1]; simp)))] at hy
              unfold Ky.val at hy
              simp only at hy
              have HR := Lib.hid hR
              have hX3' := hX3.symm
              have hg10' := hg10.symm
              clear hc0 hc1 hu hR hX3 hg10
              gi_wp2_with fail
              refine ⟨fun _ => by omega, HR.out.mono ?_⟩
              rintro e W5 (⟨rfl, hJ5, hk5⟩ | ⟨rfl, hJx5⟩)
              · have S6 : Hid (Kq w W5 ∧ W.heap.size ≤ W5.heap.size ∧ J (pre3 ln sc us i j (k + 1)) W5 ∧ W5.heap[g8]? = some (.cells #[.int .i64 s0, .int .i64 s1] 39 (0, 0))) := Lib.hid ⟨S5.out.1.round hk5, Nat.le_trans S5.out.2.1 hk5.1, by rw [NXT.out.1]; exact hJ5, hk5.2 _ _ _ _ S5.out.2.2.2⟩
                clear hJ5 hk5 HR hy z0 z1 f0 f1 f2 f3
                gi_wp2
                refine ⟨⟨k + 1, by go_num, Lib.hid ⟨by omega, S6.out.1, S6.out.2.1, S6.out.2.2.1, S6.out.2.2.2⟩⟩, ?_⟩
                rw [lf_succ, lf_int]
                omega
              · have JX := Lib.hid hJx5
                clear hJx5 HR hy z0 z1 f0 f1 f2 f3
                gi_wp2
                first | go_end0 | refine bodyPost_ret (results_none rfl _ _ _) rfl ?_
                exact ⟨⟨_, rfl⟩, .inr ⟨_, NXT.out.2.2, by rw [NXT.out.1]; exact JX.out⟩⟩
            · have hk3 : k = n3 := by have := S4.out.1; omega
              subst hk3
              have S7 : Hid (Kq w wr ∧ W.heap.size ≤ wr.heap.size ∧ J (pre3 ln sc us i (j + 1) 0) wr) := Lib.hid ⟨S4.out.2.1, S4.out.2.2.1, by
                have q := EE.out
                have h := S4.out.2.2.2.1
                rw [q.2.2, pre3_kend (by omega)] at h
                exact h⟩
              clear S4
              gi_wp2_with fail
              refine ⟨⟨j + 1, by go_num, Lib.hid ⟨by omega, S7.out.1, S7.out.2.1, S7.out.2.2⟩⟩, ?_⟩
              rw [lf_succ, lf_int]
              omega
        · have hk2 : j = n2 := by have := S2.out.1; omega
          subst hk2
          have S7 : Hid (Kq w wr ∧ W.heap.size ≤ wr.heap.size ∧ J (shL (ln.take (i + 1)) sc us) wr) := Lib.hid ⟨S2.out.2.1, S2.out.2.2.1, by
            have q := EE.out
            have h := S2.out.2.2.2
            rw [q.2.1, pre3_jend (by omega)] at h
            exact h⟩
          clear S2
          gi_wp2_with fail
          refine ⟨⟨i + 1, by go_num, Lib.hid ⟨by omega, S7.out.1, S7.out.2.1, S7.out.2.2⟩⟩, ?_⟩
          rw [lf_succ, lf_int]
          omega
    · have hk1 : i = n1 := by have := S.out.1; omega
      subst hk1
      have S7 : Hid (J (shL ln sc us) wr) := Lib.hid (by
        have h := S.out.2.2.2
        rw [EE.out.1, List.take_length] at h
        exact h)
      gi_wp2_with fail
      first | go_end0 | refine bodyPost_ret (results_none rfl _ _ _) rfl ?_
      exact ⟨⟨_, rfl⟩, .inl ⟨_, rfl, S7.out⟩⟩
end Le
end Go.Proofs.YtodfmnbfbndkhaaGreatDoor
