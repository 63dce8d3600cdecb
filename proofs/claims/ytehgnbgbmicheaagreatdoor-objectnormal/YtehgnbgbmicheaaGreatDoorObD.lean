/-
  Objects as data: their bytes.
-/
import Derived.Test.YtehgnbgbmicheaaGreatDoorObG
namespace Go.Proofs.YtehgnbgbmicheaaGreatDoor
open Go.RowKit
/-- An amount, a part, an object. -/
structure Am where
  n : ByteArray
  v : Int
structure Pt where
  n : ByteArray
  r : List Am
  l : List Am
structure Ob where
  p : ByteArray
  n : ByteArray
  ls : List (ByteArray × ByteArray)
  pr : Int
  dl : Int
  ps : List Pt
  ver : Int
def Ob.z : Ob := ⟨⟨#[]⟩, ⟨#[]⟩, [], 0, 0, [], 0⟩
def tx (t : ByteArray) : List UInt8 := form t.size ++ t.data.toList
def amE (x : Am) : List (List UInt8) := [tx x.n, form x.v.toNat]
def amsE (l : List Am) : List (List UInt8) := form l.length :: l.flatMap amE
def lbE (x : ByteArray × ByteArray) : List (List UInt8) := [tx x.1, tx x.2]
def ptE (x : Pt) : List (List UInt8) := tx x.n :: (amsE x.r ++ amsE x.l)
def by8 (n : Int) : UInt8 := UInt8.ofNat n.toNat
def obH (o : Ob) : List (List UInt8) := [tx o.p, tx o.n, form o.ls.length]
def obI (o : Ob) : List (List UInt8) := [[by8 o.pr], form o.dl.toNat, form o.ps.length]
def obL (o : Ob) : List (List UInt8) := obH o ++ (o.ls.flatMap lbE ++ (obI o ++ (o.ps.flatMap ptE ++ [form o.ver.toNat])))
def obE (o : Ob) : List (List UInt8) := [79] :: [1] :: obL o
/-- An object's bytes. -/
def obB (o : Ob) : List UInt8 := (obE o).flatten
theorem lays_no (fs : List (List UInt8)) (s : WS) (h : s.e = 23) : (fs.foldl WS.lay s).e = 23 := by
  induction fs generalizing s with
  | nil => exact h
  | cons f r ih =>
    refine ih _ ?_
    unfold WS.lay; rw [if_neg (by omega)]; exact h
theorem lays_all (fs : List (List UInt8)) (s : WS) (he : s.e = 0) (h : s.l.length ≤ s.lim) :
    (s.l.length + fs.flatten.length ≤ s.lim → fs.foldl WS.lay s = ⟨s.l ++ fs.flatten, s.lim, 0⟩) ∧ (¬ s.l.length + fs.flatten.length ≤ s.lim → (fs.foldl WS.lay s).e = 23) := by
  induction fs generalizing s with
  | nil =>
    obtain ⟨l, lim, e⟩ := s
    simp only at he h
    subst he
    refine ⟨fun _ => by simp, fun hn => absurd h (by simpa using hn)⟩
  | cons f r ih =>
    obtain ⟨l, lim, e⟩ := s
    simp only at he h
    subst he
    rw [List.foldl_cons, List.flatten_cons, List.length_append]
    by_cases hf : l.length + f.length ≤ lim
    · have e1 : WS.lay ⟨l, lim, 0⟩ f = ⟨l ++ f, lim, 0⟩ := by unfold WS.lay; rw [if_pos rfl, if_pos hf]
      rw [e1]
      have := ih ⟨l ++ f, lim, 0⟩ rfl (by simpa using hf)
      simp only [List.length_append, Nat.add_assoc, List.append_assoc] at this ⊢
      exact this
    · have e1 : WS.lay ⟨l, lim, 0⟩ f = ⟨l, lim, 23⟩ := by unfold WS.lay; rw [if_pos rfl, if_neg hf]
      rw [e1]
      exact ⟨fun q => absurd q (by show ¬ l.length + _ ≤ lim; omega), fun _ => lays_no r _ rfl⟩
def wr0 : WS := ⟨[], 8192, 0⟩
/-- What is written of pieces: the bytes, or that they are too many. -/
def outR (fs : List (List UInt8)) : ByteArray × Nat := if fs.flatten.length ≤ 8192 then (txt fs.flatten, 0) else (⟨#[]⟩, 23)
theorem lays_out (fs : List (List UInt8)) : (txt (fs.foldl WS.lay wr0).out, (fs.foldl WS.lay wr0).e) = outR fs := by
  have h := lays_all fs wr0 rfl (by decide)
  simp only [wr0, List.length_nil, Nat.zero_add, List.nil_append] at h
  unfold outR
  by_cases q : fs.flatten.length ≤ 8192
  · rw [if_pos q, show wr0 = ⟨[], 8192, 0⟩ from rfl, h.1 q]; rfl
  · have := h.2 q
    rw [if_neg q, show wr0 = ⟨[], 8192, 0⟩ from rfl]
    unfold WS.out
    rw [this]
    rfl
/-- The kinds of rows. -/
def kAm : Kd Am := ⟨fun x => [.string x.n, .int .i64 x.v], 2, 56, 50, 24, ⟨⟨#[]⟩, 0⟩⟩
def kLb : Kd (ByteArray × ByteArray) := ⟨fun x => [.string x.1, .string x.2], 2, 44, 22, 32, (⟨#[]⟩, ⟨#[]⟩)⟩
/-- A slice as data; a part with its two slices. -/
structure Sl where
  a : Option Addr
  n : Nat
  c : Nat
def Sl.v (s : Sl) : Value := .slice s.a s.n s.c
structure Pr where
  n : ByteArray
  r : Sl
  l : Sl
def kPt : Kd Pr := ⟨fun x => [.string x.n, x.r.v, x.l.v], 3, 52, 23, 64, ⟨⟨#[]⟩, ⟨none, 0, 0⟩, ⟨none, 0, 0⟩⟩⟩
theorem okAm : kAm.Ok := ⟨fun _ => rfl, by decide, fun x u hu => by simp only [kAm, List.mem_cons, List.not_mem_nil, or_false] at hu; rcases hu with rfl | rfl <;> rfl, Tryz.underlying50, ⟨_, (by kernel_rfl : (Tryz.prog.info? 56).map (fun i => (i.zero, i.size, i.bytes)) = some (some (.agg #[.string ⟨#[]⟩, .int .i64 0]), 2, 24)), rfl⟩, by decide⟩
theorem okLb : kLb.Ok := ⟨fun _ => rfl, by decide, fun x u hu => by simp only [kLb, List.mem_cons, List.not_mem_nil, or_false] at hu; rcases hu with rfl | rfl <;> rfl, Tryz.underlying22, ⟨_, (by kernel_rfl : (Tryz.prog.info? 44).map (fun i => (i.zero, i.size, i.bytes)) = some (some (.agg #[.string ⟨#[]⟩, .string ⟨#[]⟩]), 2, 32)), rfl⟩, by decide⟩
theorem okPt : kPt.Ok := ⟨fun _ => rfl, by decide, fun x u hu => by simp only [kPt, List.mem_cons, List.not_mem_nil, or_false] at hu; rcases hu with rfl | rfl | rfl <;> rfl, Tryz.underlying23, ⟨_, (by kernel_rfl : (Tryz.prog.info? 52).map (fun i => (i.zero, i.size, i.bytes)) = some (some (.agg #[.string ⟨#[]⟩, .slice none 0 0, .slice none 0 0]), 3, 64)), rfl⟩, by decide⟩
/-- The slice holds the parts, their lists among them. -/
def Pts (w : World) (v : Value) (l : List Pt) : Prop := ∃ rs : List Pr, Row kPt w v rs ∧ rs.length = l.length ∧ ∀ k, k < l.length → (rs.getD k kPt.z).n = (l.getD k ⟨⟨#[]⟩, [], []⟩).n ∧ Row kAm w (rs.getD k kPt.z).r.v (l.getD k ⟨⟨#[]⟩, [], []⟩).r ∧ Row kAm w (rs.getD k kPt.z).l.v (l.getD k ⟨⟨#[]⟩, [], []⟩).l
theorem Pts.below {w w' : World} {v : Value} {l : List Pt} (H : Pts w v l) (hb : Below w.heap.size w w') : Pts w' v l := by
  obtain ⟨rs, h1, h2, h3⟩ := H
  exact ⟨rs, h1.below hb, h2, fun k hk => ⟨(h3 k hk).1, (h3 k hk).2.1.below hb, (h3 k hk).2.2.below hb⟩⟩
theorem Pts.len {w : World} {v : Value} {l : List Pt} (H : Pts w v l) : ∃ a cap, v = .slice a l.length cap ∧ l.length ≤ cap ∧ cap ≤ maxLen := by
  obtain ⟨rs, h1, h2, h3⟩ := H
  rw [← h2]; exact h1.len
theorem Pts.at {w : World} {a : Option Addr} {n cap : Nat} {l : List Pt} (H : Pts w (.slice a n cap) l) (k : Nat) (hk : k < l.length) :
    ∃ b off r s, a = some ⟨b, off, none⟩ ∧ w.cell? ⟨b, off + k * 3, none⟩ = some (.string (l.getD k ⟨⟨#[]⟩, [], []⟩).n) ∧ w.cell? ⟨b, off + k * 3 + 1, none⟩ = some (Sl.v r) ∧ w.cell? ⟨b, off + k * 3 + 2, none⟩ = some (Sl.v s) ∧
      Row kAm w r.v (l.getD k ⟨⟨#[]⟩, [], []⟩).r ∧ Row kAm w s.v (l.getD k ⟨⟨#[]⟩, [], []⟩).l := by
  obtain ⟨rs, h1, h2, h3⟩ := H
  obtain ⟨b, off, ea, h⟩ := h1.at k (by omega)
  obtain ⟨q1, q2, q3⟩ := h3 k hk
  refine ⟨b, off, _, _, ea, ?_, h 1 _ rfl, h 2 _ rfl, q2, q3⟩
  rw [← q1]; exact h 0 _ rfl
/-- An object as a value. -/
def Ob.val (o : Ob) (ls ps : Value) : Value := .agg #[.string o.p, .string o.n, ls, .int .i64 o.pr, .int .i64 o.dl, ps, .int .i64 o.ver]
/-- The value is the object. -/
structure ObV (w : World) (ls ps : Value) (o : Ob) : Prop where
  l : Row kLb w ls o.ls
  p : Pts w ps o.ps
theorem ObV.below {w w' : World} {ls ps : Value} {o : Ob} (H : ObV w ls ps o) (hb : Below w.heap.size w w') : ObV w' ls ps o := ⟨H.l.below hb, H.p.below hb⟩
/-- Sizes and numbers that Go's types bear. -/
def Am.fit (x : Am) : Prop := x.n.size ≤ 140737488355328 ∧ -9223372036854775808 ≤ x.v ∧ x.v ≤ 9223372036854775807
structure Ob.Fit (o : Ob) : Prop where
  s : o.p.size ≤ 140737488355328 ∧ o.n.size ≤ 140737488355328
  l : ∀ x ∈ o.ls, x.1.size ≤ 140737488355328 ∧ x.2.size ≤ 140737488355328
  p : ∀ x ∈ o.ps, x.n.size ≤ 140737488355328 ∧ (∀ y ∈ x.r, y.fit) ∧ (∀ y ∈ x.l, y.fit)
  n : -9223372036854775808 ≤ o.pr ∧ o.pr ≤ 9223372036854775807 ∧ -9223372036854775808 ≤ o.dl ∧ o.dl ≤ 9223372036854775807 ∧ -9223372036854775808 ≤ o.ver ∧ o.ver ≤ 9223372036854775807
theorem getD_in {α : Type} {l : List α} {k : Nat} {d : α} (h : k < l.length) : l.getD k d ∈ l := by
  rw [List.getD_eq_getElem?_getD, List.getElem?_eq_getElem h]
  exact List.getElem_mem h
theorem take_onez {α : Type} (l : List α) (k : Nat) (d : α) (h : k < l.length) : l.take (k + 1) = l.take k ++ [l.getD k d] := by
  rw [List.take_add_one, List.getD_eq_getElem?_getD, List.getElem?_eq_getElem h]; rfl
end Go.Proofs.YtehgnbgbmicheaaGreatDoor
