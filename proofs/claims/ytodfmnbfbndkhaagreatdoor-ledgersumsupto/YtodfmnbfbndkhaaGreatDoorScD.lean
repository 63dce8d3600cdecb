/-
  Objects as data, in memory.
-/
import Derived.Test.YtodfmnbfbndkhaaGreatDoorScG
namespace Go.Proofs.YtodfmnbfbndkhaaGreatDoor
open Go.RowKit
/-- An amount, a part, an object. -/
structure Am where
  n : ByteArray
  v : Int
structure Pt where
  n : ByteArray
  r : List Am
  l : List Am
structure Ob where
  p : ByteArray
  n : ByteArray
  ls : List (ByteArray × ByteArray)
  pr : Int
  dl : Int
  ps : List Pt
  ver : Int
/-- The kinds of rows. -/
def kAm : Kd Am := ⟨fun x => [.string x.n, .int .i64 x.v], 2, 37, 33, 24, ⟨⟨#[]⟩, 0⟩⟩
def kLb : Kd (ByteArray × ByteArray) := ⟨fun x => [.string x.1, .string x.2], 2, 225, 22, 32, (⟨#[]⟩, ⟨#[]⟩)⟩
/-- A slice as data; a part with its two slices. -/
structure Sl where
  a : Option Addr
  n : Nat
  c : Nat
def Sl.v (s : Sl) : Value := .slice s.a s.n s.c
structure Pr where
  n : ByteArray
  r : Sl
  l : Sl
def kPt : Kd Pr := ⟨fun x => [.string x.n, x.r.v, x.l.v], 3, 35, 23, 64, ⟨⟨#[]⟩, ⟨none, 0, 0⟩, ⟨none, 0, 0⟩⟩⟩
theorem okAm : kAm.Ok := ⟨fun _ => rfl, by decide, fun x u hu => by simp only [kAm, List.mem_cons, List.not_mem_nil, or_false] at hu; rcases hu with rfl | rfl <;> rfl, Tryz.underlying33, ⟨_, (by kernel_rfl : (Tryz.prog.info? 37).map (fun i => (i.zero, i.size, i.bytes)) = some (some (.agg #[.string ⟨#[]⟩, .int .i64 0]), 2, 24)), rfl⟩, by decide⟩
theorem okLb : kLb.Ok := ⟨fun _ => rfl, by decide, fun x u hu => by simp only [kLb, List.mem_cons, List.not_mem_nil, or_false] at hu; rcases hu with rfl | rfl <;> rfl, Tryz.underlying22, ⟨_, (by kernel_rfl : (Tryz.prog.info? 225).map (fun i => (i.zero, i.size, i.bytes)) = some (some (.agg #[.string ⟨#[]⟩, .string ⟨#[]⟩]), 2, 32)), rfl⟩, by decide⟩
theorem okPt : kPt.Ok := ⟨fun _ => rfl, by decide, fun x u hu => by simp only [kPt, List.mem_cons, List.not_mem_nil, or_false] at hu; rcases hu with rfl | rfl | rfl <;> rfl, Tryz.underlying23, ⟨_, (by kernel_rfl : (Tryz.prog.info? 35).map (fun i => (i.zero, i.size, i.bytes)) = some (some (.agg #[.string ⟨#[]⟩, .slice none 0 0, .slice none 0 0]), 3, 64)), rfl⟩, by decide⟩
/-- The slice holds the parts, their lists among them. -/
def Pts (w : World) (v : Value) (l : List Pt) : Prop := ∃ rs : List Pr, Row kPt w v rs ∧ rs.length = l.length ∧ ∀ k, k < l.length → (rs.getD k kPt.z).n = (l.getD k ⟨⟨#[]⟩, [], []⟩).n ∧ Row kAm w (rs.getD k kPt.z).r.v (l.getD k ⟨⟨#[]⟩, [], []⟩).r ∧ Row kAm w (rs.getD k kPt.z).l.v (l.getD k ⟨⟨#[]⟩, [], []⟩).l
theorem Pts.below {w w' : World} {v : Value} {l : List Pt} (H : Pts w v l) (hb : Below w.heap.size w w') : Pts w' v l := by
  obtain ⟨rs, h1, h2, h3⟩ := H
  exact ⟨rs, h1.below hb, h2, fun k hk => ⟨(h3 k hk).1, (h3 k hk).2.1.below hb, (h3 k hk).2.2.below hb⟩⟩
theorem Pts.len {w : World} {v : Value} {l : List Pt} (H : Pts w v l) : ∃ a cap, v = .slice a l.length cap ∧ l.length ≤ cap ∧ cap ≤ maxLen := by
  obtain ⟨rs, h1, h2, h3⟩ := H
  rw [← h2]; exact h1.len
theorem Pts.at {w : World} {a : Option Addr} {n cap : Nat} {l : List Pt} (H : Pts w (.slice a n cap) l) (k : Nat) (hk : k < l.length) :
    ∃ b off r s, a = some ⟨b, off, none⟩ ∧ w.cell? ⟨b, off + k * 3, none⟩ = some (.string (l.getD k ⟨⟨#[]⟩, [], []⟩).n) ∧ w.cell? ⟨b, off + k * 3 + 1, none⟩ = some (Sl.v r) ∧ w.cell? ⟨b, off + k * 3 + 2, none⟩ = some (Sl.v s) ∧
      Row kAm w r.v (l.getD k ⟨⟨#[]⟩, [], []⟩).r ∧ Row kAm w s.v (l.getD k ⟨⟨#[]⟩, [], []⟩).l := by
  obtain ⟨rs, h1, h2, h3⟩ := H
  obtain ⟨b, off, ea, h⟩ := h1.at k (by omega)
  obtain ⟨q1, q2, q3⟩ := h3 k hk
  refine ⟨b, off, _, _, ea, ?_, h 1 _ rfl, h 2 _ rfl, q2, q3⟩
  rw [← q1]; exact h 0 _ rfl
/-- An object as a value. -/
def Ob.val (o : Ob) (ls ps : Value) : Value := .agg #[.string o.p, .string o.n, ls, .int .i64 o.pr, .int .i64 o.dl, ps, .int .i64 o.ver]
/-- The value is the object. -/
structure ObV (w : World) (ls ps : Value) (o : Ob) : Prop where
  l : Row kLb w ls o.ls
  p : Pts w ps o.ps
theorem ObV.below {w w' : World} {ls ps : Value} {o : Ob} (H : ObV w ls ps o) (hb : Below w.heap.size w w') : ObV w' ls ps o := ⟨H.l.below hb, H.p.below hb⟩
/-- Sizes and numbers that Go's types bear. -/
def Am.fit (x : Am) : Prop := x.n.size ≤ 140737488355328 ∧ -9223372036854775808 ≤ x.v ∧ x.v ≤ 9223372036854775807
structure Ob.Fit (o : Ob) : Prop where
  s : o.p.size ≤ 140737488355328 ∧ o.n.size ≤ 140737488355328
  l : ∀ x ∈ o.ls, x.1.size ≤ 140737488355328 ∧ x.2.size ≤ 140737488355328
  p : ∀ x ∈ o.ps, x.n.size ≤ 140737488355328 ∧ (∀ y ∈ x.r, y.fit) ∧ (∀ y ∈ x.l, y.fit)
  n : -9223372036854775808 ≤ o.pr ∧ o.pr ≤ 9223372036854775807 ∧ -9223372036854775808 ≤ o.dl ∧ o.dl ≤ 9223372036854775807 ∧ -9223372036854775808 ≤ o.ver ∧ o.ver ≤ 9223372036854775807
theorem getD_in {α : Type} {l : List α} {k : Nat} {d : α} (h : k < l.length) : l.getD k d ∈ l := by
  rw [List.getD_eq_getElem?_getD, List.getElem?_eq_getElem h]
  exact List.getElem_mem h
theorem take_onez {α : Type} (l : List α) (k : Nat) (d : α) (h : k < l.length) : l.take (k + 1) = l.take k ++ [l.getD k d] := by
  rw [List.take_add_one, List.getD_eq_getElem?_getD, List.getElem?_eq_getElem h]; rfl
end Go.Proofs.YtodfmnbfbndkhaaGreatDoor
