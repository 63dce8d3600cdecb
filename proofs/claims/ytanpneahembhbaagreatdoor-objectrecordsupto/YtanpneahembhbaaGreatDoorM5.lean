/-
  ObB, ObBe, ObLd, ObLe, ObC, ObCv, ObOa, ObOw, ObAg, ObHa, ObSq, ObSl, ObOl, ObSm, ObHb, joined.
-/
import Derived.Test.YtanpneahembhbaaGreatDoorObF
import Derived.Test.YtanpneahembhbaaGreatDoorM1
import Derived.Test.YtanpneahembhbaaGreatDoorM3
import Derived.Test.YtanpneahembhbaaGreatDoorObU
import Derived.Lib.QuietBelow
import Derived.BigQuiet
import Derived.RegionTactic
import Derived.Deep.RegionLaw
section S0
namespace Go.Proofs.YtanpneahembhbaaGreatDoor
open Go.RowKit
theorem num_back (n : Nat) (rest : List UInt8) (h : n < 18446744073709551616) : num (form n ++ rest) 0 = (n, (form n).length, 0) :=
  num_form n rest 0 (by decide) (by simpa using h) (fun h => by omega)
theorem uint_back (n : Nat) (rest : List UInt8) (h : n < 18446744073709551616) : RS.uint ⟨form n ++ rest, 0⟩ = (n, ⟨rest, 0⟩) := by
  unfold RS.uint
  rw [if_pos rfl]
  show ((num (form n ++ rest) 0).1, (⟨(form n ++ rest).drop (num (form n ++ rest) 0).2.1, (num (form n ++ rest) 0).2.2⟩ : RS)) = _
  rw [num_back n rest h, List.drop_left]
theorem upTo_back (n : Nat) (rest : List UInt8) (most : Int) (h : n < 18446744073709551616) (hm : (n : Int) ≤ most) : RS.upTo ⟨form n ++ rest, 0⟩ most = (n, (form n).length, 0) := by
  unfold RS.upTo
  rw [if_pos rfl]
  show (if (num (form n ++ rest) 0).2.2 = 0 then (if most < 0 ∨ most < (num (form n ++ rest) 0).1 then (0, 0, 23) else num (form n ++ rest) 0) else (0, 0, (num (form n ++ rest) 0).2.2)) = _
  rw [num_back n rest h, if_pos rfl, if_neg (by omega)]
theorem text_back (t rest : List UInt8) (most : Int) (h : t.length < 18446744073709551616) (hm : (t.length : Int) ≤ most) : RS.text ⟨form t.length ++ (t ++ rest), 0⟩ most = (t, ⟨rest, 0⟩) := by
  unfold RS.text
  rw [upTo_back t.length (t ++ rest) most h hm, if_pos rfl]
  show (if t.length ≤ (form t.length ++ (t ++ rest)).length - (form t.length).length then (((form t.length ++ (t ++ rest)).drop (form t.length).length).take t.length, (⟨(form t.length ++ (t ++ rest)).drop ((form t.length).length + t.length), 0⟩ : RS)) else ([], ⟨_, 20⟩)) = _
  rw [if_pos (by rw [List.length_append, List.length_append]; omega), List.drop_left, List.take_left, ← List.drop_drop, List.drop_left, List.drop_left]
theorem count_back (n : Nat) (rest : List UInt8) (most : Int) (h : n ≤ 4096) (hm : (n : Int) ≤ most) : RS.count ⟨form n ++ rest, 0⟩ most = (n, ⟨rest, 0⟩) := by
  unfold RS.count
  rw [upTo_back n rest (min most 4096) (by omega) (by omega)]
  show (n, (⟨(form n ++ rest).drop (form n).length, 0⟩ : RS)) = _
  rw [List.drop_left]
theorem tx_back (t : ByteArray) (rest : List UInt8) (h : t.size ≤ 8192) : RS.text ⟨tx t ++ rest, 0⟩ 8192 = (t.data.toList, ⟨rest, 0⟩) := by
  have := text_back t.data.toList rest 8192 (by rw [str_size]; omega) (by rw [str_size]; omega)
  rw [str_size] at this
  unfold tx
  rw [List.append_assoc]
  exact this
theorem wrap_nat {v : Int} (h1 : 0 ≤ v) (h2 : v ≤ 9223372036854775807) : wrap64 ((v.toNat : Nat) : Int) = v := by
  unfold wrap64; omega
theorem tkA_back (x : Am) (rest : List UInt8) (h : x.n.size ≤ 8192) (h1 : 0 ≤ x.v) (h2 : x.v ≤ 9223372036854775807) : tkA ⟨(amE x).flatten ++ rest, 0⟩ = (x, ⟨rest, 0⟩) := by
  have e : (amE x).flatten ++ rest = tx x.n ++ (form x.v.toNat ++ rest) := by unfold amE; simp
  have u := uint_back x.v.toNat rest (by omega)
  unfold tkA
  rw [e, tx_back x.n _ h]
  show ((⟨txt x.n.data.toList, wrap64 (((RS.uint ⟨form x.v.toNat ++ rest, 0⟩).1 : Nat) : Int)⟩ : Am), (RS.uint ⟨form x.v.toNat ++ rest, 0⟩).2) = _
  rw [u]
  show ((⟨txt x.n.data.toList, wrap64 ((x.v.toNat : Nat) : Int)⟩ : Am), (⟨rest, 0⟩ : RS)) = _
  rw [wrap_nat h1 h2, list_txt]
theorem tkN_back {α : Type} {f : RS → α × RS} {E : α → List (List UInt8)} (l : List α) (rest : List UInt8) (h : ∀ x ∈ l, ∀ r, f ⟨(E x).flatten ++ r, 0⟩ = (x, ⟨r, 0⟩)) : tkN f l.length ⟨(l.flatMap E).flatten ++ rest, 0⟩ = (l, ⟨rest, 0⟩) := by
  induction l with
  | nil => rfl
  | cons x r ih =>
    rw [List.flatMap_cons, List.flatten_append, List.append_assoc, List.length_cons, tkN, h x (by simp), ih (fun y hy => h y (by simp [hy]))]
/-- Amounts that may be read back. -/
def amsOk (l : List Am) : Prop := l.length ≤ 16 ∧ ∀ x ∈ l, x.n.size ≤ 8192 ∧ 0 ≤ x.v ∧ x.v ≤ 9223372036854775807
theorem tkAms_back (l : List Am) (rest : List UInt8) (h : amsOk l) : tkAms ⟨(amsE l).flatten ++ rest, 0⟩ = (l, ⟨rest, 0⟩) := by
  have e : (amsE l).flatten ++ rest = form l.length ++ ((l.flatMap amE).flatten ++ rest) := by unfold amsE; simp
  have := h.1
  unfold tkAms
  rw [e, count_back l.length _ 16 (by omega) (by omega)]
  exact tkN_back l rest (fun x hx r => tkA_back x r (h.2 x hx).1 (h.2 x hx).2.1 (h.2 x hx).2.2)
theorem tkL_back (x : ByteArray × ByteArray) (rest : List UInt8) (h1 : x.1.size ≤ 8192) (h2 : x.2.size ≤ 8192) : tkL ⟨(lbE x).flatten ++ rest, 0⟩ = (x, ⟨rest, 0⟩) := by
  have e : (lbE x).flatten ++ rest = tx x.1 ++ (tx x.2 ++ rest) := by unfold lbE; simp
  unfold tkL
  rw [e, tx_back x.1 _ h1]
  show ((txt x.1.data.toList, txt (RS.text ⟨tx x.2 ++ rest, 0⟩ 8192).1), (RS.text ⟨tx x.2 ++ rest, 0⟩ 8192).2) = _
  rw [tx_back x.2 _ h2, list_txt]
  show ((x.1, txt x.2.data.toList), _) = _
  rw [list_txt]
theorem tkP_back (x : Pt) (rest : List UInt8) (h : x.n.size ≤ 8192) (hr : amsOk x.r) (hl : amsOk x.l) : tkP ⟨(ptE x).flatten ++ rest, 0⟩ = (x, ⟨rest, 0⟩) := by
  have e : (ptE x).flatten ++ rest = tx x.n ++ ((amsE x.r).flatten ++ ((amsE x.l).flatten ++ rest)) := by unfold ptE; simp
  unfold tkP
  rw [e, tx_back x.n _ h]
  show ((⟨txt x.n.data.toList, (tkAms ⟨(amsE x.r).flatten ++ ((amsE x.l).flatten ++ rest), 0⟩).1, (tkAms (tkAms ⟨(amsE x.r).flatten ++ ((amsE x.l).flatten ++ rest), 0⟩).2).1⟩ : Pt), (tkAms (tkAms ⟨(amsE x.r).flatten ++ ((amsE x.l).flatten ++ rest), 0⟩).2).2) = _
  rw [tkAms_back x.r _ hr]
  show ((⟨txt x.n.data.toList, x.r, (tkAms ⟨(amsE x.l).flatten ++ rest, 0⟩).1⟩ : Pt), (tkAms ⟨(amsE x.l).flatten ++ rest, 0⟩).2) = _
  rw [tkAms_back x.l _ hl, list_txt]
/-- An object that may be read back. -/
structure Ob.Back (o : Ob) : Prop where
  s : o.p.size ≤ 8192 ∧ o.n.size ≤ 8192
  l : o.ls.length ≤ 16 ∧ ∀ x ∈ o.ls, x.1.size ≤ 8192 ∧ x.2.size ≤ 8192
  p : o.ps.length ≤ 8 ∧ ∀ x ∈ o.ps, x.n.size ≤ 8192 ∧ amsOk x.r ∧ amsOk x.l
  n : (0 ≤ o.pr ∧ o.pr ≤ 9) ∧ (0 ≤ o.dl ∧ o.dl ≤ 9223372036854775807) ∧ (0 ≤ o.ver ∧ o.ver ≤ 9223372036854775807)
theorem tkO_back (o : Ob) (h : o.Back) : tkO ⟨(obL o).flatten, 0⟩ = o := by
  have n := h.n
  have hl := h.l.1
  have hp := h.p.1
  obtain ⟨r5, e5⟩ : ∃ r5 : List UInt8, r5 = form o.ver.toNat ++ [] := ⟨_, rfl⟩
  obtain ⟨r4, e4⟩ : ∃ r4, r4 = form o.ps.length ++ ((o.ps.flatMap ptE).flatten ++ r5) := ⟨_, rfl⟩
  obtain ⟨r3, e3⟩ : ∃ r3, r3 = by8 o.pr :: (form o.dl.toNat ++ r4) := ⟨_, rfl⟩
  have e0 : (obL o).flatten = tx o.p ++ (tx o.n ++ (form o.ls.length ++ ((o.ls.flatMap lbE).flatten ++ r3))) := by
    rw [e3, e4, e5]; unfold obL obH obI; simp
  have k1 : tk1 ⟨(obL o).flatten, 0⟩ = ⟨tx o.n ++ (form o.ls.length ++ ((o.ls.flatMap lbE).flatten ++ r3)), 0⟩ := by
    unfold tk1; rw [e0, tx_back o.p _ h.s.1]
  have k2 : tk2 ⟨(obL o).flatten, 0⟩ = ⟨form o.ls.length ++ ((o.ls.flatMap lbE).flatten ++ r3), 0⟩ := by
    unfold tk2; rw [k1, tx_back o.n _ h.s.2]
  have k3 : tk3 ⟨(obL o).flatten, 0⟩ = (o.ls, ⟨r3, 0⟩) := by
    unfold tk3
    rw [k2, count_back o.ls.length _ 16 (by omega) (by omega)]
    exact tkN_back o.ls r3 (fun x hx r => tkL_back x r (h.l.2 x hx).1 (h.l.2 x hx).2)
  have k3b : (tk3 ⟨(obL o).flatten, 0⟩).2.byte = (by8 o.pr, ⟨form o.dl.toNat ++ r4, 0⟩) := by rw [k3, e3]; rfl
  have k4 : tk4 ⟨(obL o).flatten, 0⟩ = ⟨form o.dl.toNat ++ r4, 0⟩ := by unfold tk4; rw [k3b]
  have k4u : (tk4 ⟨(obL o).flatten, 0⟩).uint = (o.dl.toNat, ⟨r4, 0⟩) := by rw [k4, uint_back _ _ (by omega)]
  have k5 : tk5 ⟨(obL o).flatten, 0⟩ = ⟨r4, 0⟩ := by unfold tk5; rw [k4u]
  have k6 : tk6 ⟨(obL o).flatten, 0⟩ = (o.ps, ⟨r5, 0⟩) := by
    unfold tk6
    rw [k5, e4, count_back o.ps.length _ 8 (by omega) (by omega)]
    exact tkN_back o.ps r5 (fun x hx r => tkP_back x r (h.p.2 x hx).1 (h.p.2 x hx).2.1 (h.p.2 x hx).2.2)
  have k7 : (tk6 ⟨(obL o).flatten, 0⟩).2.uint = (o.ver.toNat, ⟨[], 0⟩) := by rw [k6, e5, uint_back _ _ (by omega)]
  unfold tkO
  rw [k1, k3b, k4u, k7, k3, k6, e0, tx_back o.p _ h.s.1, tx_back o.n _ h.s.2]
  show (⟨txt o.p.data.toList, txt o.n.data.toList, o.ls, c8 (by8 o.pr), wrap64 ((o.dl.toNat : Nat) : Int), o.ps, wrap64 ((o.ver.toNat : Nat) : Int)⟩ : Ob) = o
  rw [list_txt, list_txt, wrap_nat n.2.1.1 n.2.1.2, wrap_nat n.2.2.1 n.2.2.2, ← by8_c8 o.pr n.1.1 n.1.2]
theorem path_size {p : ByteArray} (h : L.splitE p = 0) : p.size ≤ 64 := by
  unfold L.splitE at h
  split at h
  · rename_i q
    obtain ⟨ts, hts⟩ := Option.isSome_iff_exists.1 q
    obtain ⟨rfl, g⟩ := L.splitO_some hts
    rw [L.pth_size]; exact g.2.2
  · simp at h
theorem ams_back {l : List Am} (h : amsB l = true) (hf : ∀ y ∈ l, y.fit) : amsOk l := by
  have hg := ams_good h
  refine ⟨hg.1, fun x hx => ⟨?_, hg.2 x hx, (hf x hx).2.2⟩⟩
  unfold amsB at h
  rw [Bool.and_eq_true, Bool.and_eq_true, List.all_eq_true] at h
  have := h.2.1 x hx
  unfold amB resB at this
  simp only [Bool.and_eq_true, decide_eq_true_iff] at this
  omega
theorem label_sizes {l : List (ByteArray × ByteArray)} (h : L.validE l = 0) : ∀ x ∈ l, x.1.size ≤ 32 ∧ x.2.size ≤ 32 := by
  unfold L.validE at h
  split at h
  · rename_i q
    unfold L.lblsB at q
    rw [Bool.and_eq_true, Bool.and_eq_true, List.all_eq_true] at q
    intro x hx
    have := q.2.1 x hx
    unfold L.lblB L.valueB at this
    simp only [Bool.and_eq_true, Bool.or_eq_true, decide_eq_true_iff] at this
    refine ⟨L.name_size this.1, ?_⟩
    rcases this.2 with q2 | q2
    · omega
    · exact L.name_size q2
  · simp at h
theorem back_of {o : Ob} (h : obS o = true) (hf : o.Fit) : o.Back := by
  obtain ⟨h1, h2, h3, h4, h5, h6, h7, h8⟩ := obS_parts h
  unfold namedB at h1
  rw [Bool.and_eq_true, decide_eq_true_iff] at h1
  have hp := path_size h1.1
  have hn := L.name_size h1.2
  have hg := pts_good h8
  refine ⟨⟨by omega, by omega⟩, ⟨labels_good h2, fun x hx => by have := label_sizes h2 x hx; omega⟩, ⟨h7, fun x hx => ?_⟩, ⟨h3, ⟨h4.1, by omega⟩, ⟨h5.1, by omega⟩⟩⟩
  have q := hg x hx
  have := L.name_size q.1
  exact ⟨by omega, ams_back q.2.1 (hf.p x hx).2.1, ams_back q.2.2 (hf.p x hx).2.2⟩
/-- An object's text is read back. -/
theorem dec_enc {o : Ob} {t : ByteArray} (h : obR o = (t, 0)) (hf : o.Fit) : decR t = (o, 0) := by
  have hs : obS o = true := by
    cases q : obS o with
    | true => rfl
    | false => unfold obR at h; rw [q] at h; simp at h
  have ho : outR (obE o) = (t, 0) := by unfold obR at h; rw [hs, if_pos rfl] at h; exact h
  have ht : t = txt (obE o).flatten := by
    unfold outR at ho
    split at ho
    · exact (congrArg Prod.fst ho).symm
    · simp at ho
  have hd : t.data.toList = 79 :: 1 :: (obL o).flatten := by
    rw [ht, txt_list]; unfold obE; simp
  have hr : rs2 t = ⟨(obL o).flatten, 0⟩ := by unfold rs2; rw [hd]; rfl
  have hdc : dcO t = o := by unfold dcO; rw [hr]; exact tkO_back o (back_of hs hf)
  unfold decR
  rw [hdc, h, if_pos rfl]
end Go.Proofs.YtanpneahembhbaaGreatDoor
end S0

section S1
namespace Go.Proofs.YtanpneahembhbaaGreatDoor
open Go.RowKit
def tkB (s : RS) : Bd := ⟨txt (s.text 8192).1, txt ((tk1 s).text 8192).1, txt ((tk2 s).text 8192).1, c8 ((tk2 s).text 8192).2.byte.1⟩
def tkBE (s : RS) : RS := ((tk2 s).text 8192).2.byte.2
def dcB (t : ByteArray) : Bd := tkB (rs2 t)
def decB (t : ByteArray) : Bd × Nat := if bdR (dcB t) = (t, 0) then (dcB t, 0) else (Bd.z, 2)
theorem tkB_fit (s : RS) : (tkB s).Fit := by
  have t1 := text_sz s
  have t2 := text_sz (tk1 s)
  have t3 := text_sz (tk2 s)
  have hb : 0 ≤ c8 ((tk2 s).text 8192).2.byte.1 ∧ c8 ((tk2 s).text 8192).2.byte.1 ≤ 255 := by unfold c8; have := ((tk2 s).text 8192).2.byte.1.toNat_lt; omega
  unfold tkB
  generalize txt (s.text 8192).1 = A at t1 ⊢
  generalize txt ((tk1 s).text 8192).1 = B at t2 ⊢
  generalize c8 ((tk2 s).text 8192).2.byte.1 = D at hb ⊢
  generalize txt ((tk2 s).text 8192).1 = C at t3 ⊢
  exact ⟨⟨by show A.size ≤ _; omega, by show B.size ≤ _; omega, by show C.size ≤ _; omega⟩, by show _ ≤ D; omega, by show D ≤ _; omega⟩
theorem load_bd {w : World} {g : Nat} {a : Array Value} (h : w.heap[g]? = some (.cells a 31 (0, 0))) (hs : a.size = 4) : (loadVar 31 ⟨g, 0, none⟩).run Tryz.prog w = .ok (.agg a) w :=
  run_loadVar_row w g _ _ _ _ _ h Tryz.underlying31 rfl (by rw [hs]; exact size_bd)
end Go.Proofs.YtanpneahembhbaaGreatDoor
end S1

section S2
namespace Go.Proofs.YtanpneahembhbaaGreatDoor
open Go.RowKit
def rs1 (s : RS) : RS := (s.text 8192).2
def tkR (s : RS) : Rl × RS := (⟨txt (s.text 8192).1, (rs1 s).int.1, (rs1 s).int.2.int.1, (rs1 s).int.2.int.2.int.1, (rs1 s).int.2.int.2.int.2.int.1, (rs1 s).int.2.int.2.int.2.int.2.int.1⟩, (rs1 s).int.2.int.2.int.2.int.2.int.2)
def tkRs (s : RS) : List Rl × RS := tkN tkR ((tk2 s).count 16).1 ((tk2 s).count 16).2
def tkLr (s : RS) : Lr := ⟨txt (s.text 8192).1, txt ((tk1 s).text 8192).1, (tkRs s).1⟩
/-- A limit range that is being read. -/
structure LK (w : World) (g bz bo : Nat) (s : RS) (x : Lr) (vl : Value) (W : World) : Prop where
  r : RAt W g s
  z : W.heap[bz]? = some (.cells #[.string ⟨#[]⟩, .string ⟨#[]⟩, .slice none 0 0] 29 (0, 0))
  o : W.heap[bo]? = some (.cells #[.string x.p, .string x.n, vl] 29 (0, 0))
  l : OwnR kRl w.heap.size W vl x.rs
  ke : Kept (fun k => k = g) w W
  lt : g < w.heap.size
  bs : w.heap.size ≤ bz ∧ w.heap.size ≤ bo ∧ bz ≠ bo
variable {w W W' : World} {g bz bo : Nat} {s s' : RS} {x : Lr} {vl : Value}
theorem LK.read (h : LK w g bz bo s x vl W) (hr : Read g s' W W') : LK w g bz bo s' x vl W' := by
  have hlt := h.lt
  have hb := h.bs
  exact ⟨hr.1, by rw [hr.2.block bz (lt_of_some h.z) (by omega)]; exact h.z, by rw [hr.2.block bo (lt_of_some h.o) (by omega)]; exact h.o, h.l.kept hr.2 (fun k hk e => by have := (h.l.lt k hk).1; omega), kept_trans1 h.ke hr.2, h.lt, h.bs⟩
theorem LK.below (h : LK w g bz bo s x vl W) (hb : Below W.heap.size W W') : LK w g bz bo s x vl W' :=
  ⟨h.r.below hb, by rw [hb.block bz (lt_of_some h.z)]; exact h.z, by rw [hb.block bo (lt_of_some h.o)]; exact h.o, h.l.below hb, h.ke.trans (Below.kept hb (fun _ => False)) (fun _ _ q => q.elim), h.lt, h.bs⟩
theorem LK.drew (h : LK w g bz bo s x vl W) : LK w g bz bo s x vl W.drew := h.below ⟨rfl, rfl, rfl, Nat.le_refl _, fun _ _ => rfl⟩
theorem LK.cells (h : LK w g bz bo s x vl W) : ∀ i y, (#[.string x.p, .string x.n, vl] : Array Value)[i]? = some y → W.cell? ⟨bo, i, none⟩ = some y := fun i y hy => by
  rw [cell_of_row W bo i _ _ _ h.o]; exact hy
theorem LK.boxL (h : LK w g bz bo s x vl W) (hg : W.grownBy W' vl.ownBlock) : W'.heap[bo]? = some (.cells #[.string x.p, .string x.n, vl] 29 (0, 0)) := by
  rw [(grown_kept hg).block bo (lt_of_some h.o) (fun e => by
    obtain ⟨cs', m', h'⟩ := h.l.ty bo e.symm
    rw [h.o] at h'; simp only [Option.some.injEq, Obj.cells.injEq] at h'; exact absurd h'.2.1 (by decide))]; exact h.o
theorem LK.rule (h : LK w g bz bo s x vl W) {v' : Value} {y : Rl} (ho : OwnR kRl w.heap.size W' v' (x.rs ++ [y])) (hg : W.grownBy W' vl.ownBlock) : LK w g bz bo s { x with rs := x.rs ++ [y] } v' (W'.setCell ⟨bo, 2, none⟩ v') := by
  have hk := grown_kept hg
  have hlt := h.lt
  have hb := h.bs
  have tb : ∀ (t : TypeId), t ≠ kRl.t → ∀ k cs m, some k = vl.ownBlock → W.heap[k]? ≠ some (.cells cs t m) := fun t ht k cs m e q => by
    obtain ⟨cs', m', h'⟩ := h.l.ty k e.symm
    rw [h'] at q; simp only [Option.some.injEq, Obj.cells.injEq] at q; exact ht q.2.1.symm
  have oo := h.boxL hg
  have k2 : Kept (fun k => k = bo) W' (W'.setCell ⟨bo, 2, none⟩ v') := kept_set _ _ _ rfl
  have t2 : ∀ (t : TypeId), t ≠ 29 → ∀ k cs m, k = bo → W'.heap[k]? ≠ some (.cells cs t m) := fun t ht k cs m e q => by
    rw [e, oo] at q; simp only [Option.some.injEq, Obj.cells.injEq] at q; exact ht q.2.1.symm
  have r1 : RAt W' g s := h.r.appended h.l hg h.lt (by decide)
  refine ⟨r1.kept k2 (by omega) (fun b cs m hc e => t2 _ (by decide) b cs m e hc), ?_, ?_, ho.kept_ty k2 (t2 _ (by decide)), (grown_g h.l hg h.ke).trans k2 (fun y hy e => by omega), h.lt, h.bs⟩
  · rw [k2.block bz (Nat.lt_of_lt_of_le (lt_of_some h.z) hk.size) (by omega), hk.block bz (lt_of_some h.z) (fun e => tb _ (by decide) bz _ _ e h.z)]; exact h.z
  · rw [Go.heap_setCell_same W' bo 2 _ _ _ oo]; rfl
theorem LK.done (h : LK w g bz bo s x vl W) (cs : Array Value) : OwnR kRl w.heap.size (W.setRow bz cs) vl x.rs ∧ RAt (W.setRow bz cs) g s ∧ Kept (fun k => k = g) w (W.setRow bz cs) := by
  have hk := kept_setRow W bz cs
  have hlt := h.lt
  have hb := h.bs
  have tb : ∀ (t : TypeId), t ≠ 29 → ∀ k cs m, k = bz → W.heap[k]? ≠ some (.cells cs t m) := fun t ht k cs m e q => by
    rw [e, h.z] at q; simp only [Option.some.injEq, Obj.cells.injEq] at q; exact ht q.2.1.symm
  exact ⟨h.l.kept_ty hk (tb _ (by decide)), h.r.kept hk (by omega) (fun b cs m hc e => tb _ (by decide) b cs m e hc), h.ke.trans hk (fun y hy e => by omega)⟩
end Go.Proofs.YtanpneahembhbaaGreatDoor
end S2

section S3
namespace Go.Proofs.YtanpneahembhbaaGreatDoor
open Go.RowKit
def Lr.z : Lr := ⟨⟨#[]⟩, ⟨#[]⟩, []⟩
def dcL (t : ByteArray) : Lr := tkLr (rs2 t)
def decL (t : ByteArray) : Lr × Nat := if lrR (dcL t) = (t, 0) then (dcL t, 0) else (Lr.z, 2)
theorem int_fits (s : RS) : fits s.int.1 := by
  have := uint_lt s
  unfold RS.int fits zag
  generalize s.uint.1 = u at this ⊢
  show _ ≤ (if u % 2 = 0 then _ else _) ∧ (if u % 2 = 0 then _ else _) < _
  split <;> omega
theorem tkR_fit (s : RS) : (tkR s).1.Fit := ⟨Nat.le_trans (text_sz s) (by decide), int_fits _, int_fits _, int_fits _, int_fits _, int_fits _⟩
theorem tkLr_fit (s : RS) : (tkLr s).Fit := by
  have t1 := text_sz s
  have t2 := text_sz (tk1 s)
  exact ⟨⟨Nat.le_trans t1 (by decide), Nat.le_trans t2 (by decide)⟩, tkN_all (f := tkR) (P := Rl.Fit) tkR_fit _ _⟩
theorem load_lr {w : World} {g : Nat} {a : Array Value} (h : w.heap[g]? = some (.cells a 29 (0, 0))) (hs : a.size = 3) : (loadVar 29 ⟨g, 0, none⟩).run Tryz.prog w = .ok (.agg a) w :=
  run_loadVar_row w g _ _ _ _ _ h Tryz.underlying29 rfl (by rw [hs]; exact size_lr)
end Go.Proofs.YtanpneahembhbaaGreatDoor
end S3

section S4
namespace Go.Proofs.YtanpneahembhbaaGreatDoor
open Go.RowKit
theorem mem_flat {α : Type} {L : List (List α)} {a : List α} (h : a ∈ L) : a.length ≤ L.flatten.length := by
  induction L with
  | nil => cases h
  | cons x r ih =>
    rw [List.flatten_cons, List.length_append]
    rcases List.mem_cons.1 h with rfl | h
    · omega
    · have := ih h; omega
theorem tx_len (t : ByteArray) : t.size ≤ (tx t).length := by
  unfold tx; rw [List.length_append, str_size]; omega
theorem out_yes {fs : List (List UInt8)} {t : ByteArray} (h : outR fs = (t, 0)) : fs.flatten.length ≤ 8192 ∧ t = txt fs.flatten := by
  unfold outR at h
  split at h
  · rename_i q; exact ⟨q, (congrArg Prod.fst h).symm⟩
  · simp at h
theorem rs2_of {c : UInt8} {fs : List (List UInt8)} {t : ByteArray} (h : t = txt ([c] :: [1] :: fs).flatten) : rs2 t = ⟨fs.flatten, 0⟩ := by
  have hd : t.data.toList = c :: 1 :: fs.flatten := by rw [h, txt_list]; simp
  unfold rs2; rw [hd]; rfl
theorem tkB_back (b : Bd) (h : b.p.size ≤ 8192 ∧ b.n.size ≤ 8192 ∧ b.s.size ≤ 8192) (hv : 0 ≤ b.v ∧ b.v ≤ 9) : tkB ⟨(bdL b).flatten, 0⟩ = b := by
  have e0 : (bdL b).flatten = tx b.p ++ (tx b.n ++ (tx b.s ++ [by8 b.v])) := by unfold bdL; simp
  have k1 : tk1 ⟨(bdL b).flatten, 0⟩ = ⟨tx b.n ++ (tx b.s ++ [by8 b.v]), 0⟩ := by unfold tk1; rw [e0, tx_back b.p _ h.1]
  have k2 : tk2 ⟨(bdL b).flatten, 0⟩ = ⟨tx b.s ++ [by8 b.v], 0⟩ := by unfold tk2; rw [k1, tx_back b.n _ h.2.1]
  have k3 : ((tk2 ⟨(bdL b).flatten, 0⟩).text 8192) = (b.s.data.toList, ⟨[by8 b.v], 0⟩) := by rw [k2, tx_back b.s _ h.2.2]
  unfold tkB
  rw [k1, k3, e0, tx_back b.p _ h.1, tx_back b.n _ h.2.1]
  show (⟨txt b.p.data.toList, txt b.n.data.toList, txt b.s.data.toList, c8 (by8 b.v)⟩ : Bd) = b
  rw [list_txt, list_txt, list_txt, ← by8_c8 b.v hv.1 hv.2]
theorem dec_encB {b : Bd} {t : ByteArray} (h : bdR b = (t, 0)) : decB t = (b, 0) := by
  have hs : bdS b = true := by
    cases q : bdS b with
    | true => rfl
    | false => unfold bdR at h; rw [q] at h; simp at h
  have ho : outR (bdE b) = (t, 0) := by unfold bdR at h; rw [hs, if_pos rfl] at h; exact h
  obtain ⟨hl, ht⟩ := out_yes ho
  have hv : 0 ≤ b.v ∧ b.v ≤ 9 := by
    unfold bdS inB at hs
    simp only [Bool.and_eq_true, decide_eq_true_iff] at hs
    exact ⟨hs.2.2.1, by omega⟩
  have sz : ∀ u : ByteArray, tx u ∈ bdE b → u.size ≤ 8192 := fun u hu => by have := mem_flat hu; have := tx_len u; omega
  have hdc : dcB t = b := by
    unfold dcB; rw [rs2_of ht]
    exact tkB_back b ⟨sz _ (by simp [bdE, bdL]), sz _ (by simp [bdE, bdL]), sz _ (by simp [bdE, bdL])⟩ hv
  unfold decB
  rw [hdc, h, if_pos rfl]
theorem tkQ_back (q : Qt) (h : q.p.size ≤ 8192 ∧ q.n.size ≤ 8192) (hk : 0 ≤ q.k ∧ q.k ≤ 9 ∧ 0 ≤ q.a ∧ q.a ≤ 9) (ha : amsOk q.h) : tkQ ⟨(qtL q).flatten, 0⟩ = q := by
  have e0 : (qtL q).flatten = tx q.p ++ (tx q.n ++ (by8 q.k :: by8 q.a :: ((amsE q.h).flatten ++ []))) := by unfold qtL; simp
  have k1 : tk1 ⟨(qtL q).flatten, 0⟩ = ⟨tx q.n ++ (by8 q.k :: by8 q.a :: ((amsE q.h).flatten ++ [])), 0⟩ := by unfold tk1; rw [e0, tx_back q.p _ h.1]
  have k2 : tk2 ⟨(qtL q).flatten, 0⟩ = ⟨by8 q.k :: by8 q.a :: ((amsE q.h).flatten ++ []), 0⟩ := by unfold tk2; rw [k1, tx_back q.n _ h.2]
  have k3 : (tk2 ⟨(qtL q).flatten, 0⟩).byte = (by8 q.k, ⟨by8 q.a :: ((amsE q.h).flatten ++ []), 0⟩) := by rw [k2]; rfl
  have k4 : (tk2 ⟨(qtL q).flatten, 0⟩).byte.2.byte = (by8 q.a, ⟨(amsE q.h).flatten ++ [], 0⟩) := by rw [k3]; rfl
  have k5 : tkAms (tk2 ⟨(qtL q).flatten, 0⟩).byte.2.byte.2 = (q.h, ⟨[], 0⟩) := by rw [k4]; exact tkAms_back q.h [] ha
  unfold tkQ
  rw [k5, k4, k3, k1, e0, tx_back q.p _ h.1, tx_back q.n _ h.2]
  show (⟨txt q.p.data.toList, txt q.n.data.toList, c8 (by8 q.k), c8 (by8 q.a), q.h⟩ : Qt) = q
  rw [list_txt, list_txt, ← by8_c8 q.k hk.1 hk.2.1, ← by8_c8 q.a hk.2.2.1 hk.2.2.2]
theorem dec_encQ {q : Qt} {t : ByteArray} (h : qtR q = (t, 0)) (hf : q.Fit) : decQ t = (q, 0) := by
  have hs : qtS q = true := by
    cases z : qtS q with
    | true => rfl
    | false => unfold qtR at h; rw [z] at h; simp at h
  have ho : outR (qtE q) = (t, 0) := by unfold qtR at h; rw [hs, if_pos rfl] at h; exact h
  obtain ⟨hl, ht⟩ := out_yes ho
  have hn := qtS_nice q hs
  have h16 : q.h.length ≤ 16 := by
    unfold qtS hdsB at hs
    simp only [Bool.and_eq_true, decide_eq_true_iff] at hs
    exact hs.2.2.2.1
  have sz : ∀ u : ByteArray, tx u ∈ qtE q → u.size ≤ 8192 := fun u hu => by have := mem_flat hu; have := tx_len u; omega
  have hdc : dcQ t = q := by
    unfold dcQ; rw [rs2_of ht]
    refine tkQ_back q ⟨sz _ (by simp [qtE, qtL]), sz _ (by simp [qtE, qtL])⟩ hn.1 ⟨h16, fun x hx => ⟨sz _ ?_, hn.2.2 x hx, (hf.h x hx).2.2⟩⟩
    have : tx x.n ∈ q.h.flatMap amE := List.mem_flatMap.2 ⟨x, hx, by simp [amE]⟩
    unfold qtE qtL amsE
    simp only [List.mem_cons, List.mem_append]
    exact .inr (.inr (.inr (.inr this)))
  unfold decQ
  rw [hdc, h, if_pos rfl]
theorem int_back (n : Int) (rest : List UInt8) (h : fits n) : RS.int ⟨form (zig n) ++ rest, 0⟩ = (n, ⟨rest, 0⟩) := by
  unfold RS.int
  rw [uint_back (zig n) rest (zig_lt n h.1 h.2)]
  show (zag (zig n), _) = _
  rw [zag_zig]
theorem tkR_back (x : Rl) (rest : List UInt8) (h : x.r.size ≤ 8192) (hf : x.Fit) : tkR ⟨(rlE x).flatten ++ rest, 0⟩ = (x, ⟨rest, 0⟩) := by
  have n := hf.n
  have e : (rlE x).flatten ++ rest = tx x.r ++ (form (zig x.a) ++ (form (zig x.b) ++ (form (zig x.c) ++ (form (zig x.d) ++ (form (zig x.e) ++ rest))))) := by unfold rlE; simp
  have k0 : rs1 ⟨(rlE x).flatten ++ rest, 0⟩ = ⟨form (zig x.a) ++ (form (zig x.b) ++ (form (zig x.c) ++ (form (zig x.d) ++ (form (zig x.e) ++ rest)))), 0⟩ := by unfold rs1; rw [e, tx_back x.r _ h]
  obtain ⟨s, hs⟩ : ∃ s, s = rs1 ⟨(rlE x).flatten ++ rest, 0⟩ := ⟨_, rfl⟩
  have k1 : s.int = (x.a, ⟨form (zig x.b) ++ (form (zig x.c) ++ (form (zig x.d) ++ (form (zig x.e) ++ rest))), 0⟩) := by rw [hs, k0, int_back _ _ n.1]
  have k2 : s.int.2.int = (x.b, ⟨form (zig x.c) ++ (form (zig x.d) ++ (form (zig x.e) ++ rest)), 0⟩) := by rw [k1]; exact int_back _ _ n.2.1
  have k3 : s.int.2.int.2.int = (x.c, ⟨form (zig x.d) ++ (form (zig x.e) ++ rest), 0⟩) := by rw [k2]; exact int_back _ _ n.2.2.1
  have k4 : s.int.2.int.2.int.2.int = (x.d, ⟨form (zig x.e) ++ rest, 0⟩) := by rw [k3]; exact int_back _ _ n.2.2.2.1
  have k5 : s.int.2.int.2.int.2.int.2.int = (x.e, ⟨rest, 0⟩) := by rw [k4]; exact int_back _ _ n.2.2.2.2
  unfold tkR
  rw [← hs, k5, k4, k3, k2, k1, e, tx_back x.r _ h]
  show ((⟨txt x.r.data.toList, x.a, x.b, x.c, x.d, x.e⟩ : Rl), (⟨rest, 0⟩ : RS)) = _
  rw [list_txt]
theorem tkLr_back (l : Lr) (h : l.p.size ≤ 8192 ∧ l.n.size ≤ 8192) (h16 : l.rs.length ≤ 16) (hr : ∀ x ∈ l.rs, x.r.size ≤ 8192 ∧ x.Fit) : tkLr ⟨(lrL l).flatten, 0⟩ = l := by
  have e0 : (lrL l).flatten = tx l.p ++ (tx l.n ++ (form l.rs.length ++ ((l.rs.flatMap rlE).flatten ++ []))) := by unfold lrL; simp
  have k1 : tk1 ⟨(lrL l).flatten, 0⟩ = ⟨tx l.n ++ (form l.rs.length ++ ((l.rs.flatMap rlE).flatten ++ [])), 0⟩ := by unfold tk1; rw [e0, tx_back l.p _ h.1]
  have k2 : tk2 ⟨(lrL l).flatten, 0⟩ = ⟨form l.rs.length ++ ((l.rs.flatMap rlE).flatten ++ []), 0⟩ := by unfold tk2; rw [k1, tx_back l.n _ h.2]
  have k3 : tkRs ⟨(lrL l).flatten, 0⟩ = (l.rs, ⟨[], 0⟩) := by
    unfold tkRs
    rw [k2, count_back l.rs.length _ 16 (by omega) (by omega)]
    exact tkN_back l.rs [] (fun x hx r => tkR_back x r (hr x hx).1 (hr x hx).2)
  unfold tkLr
  rw [k3, k1, e0, tx_back l.p _ h.1, tx_back l.n _ h.2]
  show (⟨txt l.p.data.toList, txt l.n.data.toList, l.rs⟩ : Lr) = l
  rw [list_txt, list_txt]
theorem dec_encL {l : Lr} {t : ByteArray} (h : lrR l = (t, 0)) (hf : l.Fit) : decL t = (l, 0) := by
  have hs : lrS l = true := by
    cases z : lrS l with
    | true => rfl
    | false => unfold lrR at h; rw [z] at h; simp at h
  have ho : outR (lrE l) = (t, 0) := by unfold lrR at h; rw [hs, if_pos rfl] at h; exact h
  obtain ⟨hl, ht⟩ := out_yes ho
  have h16 : l.rs.length ≤ 16 := by
    unfold lrS at hs
    simp only [Bool.and_eq_true, decide_eq_true_iff] at hs
    exact hs.2.2.1
  have sz : ∀ u : ByteArray, tx u ∈ lrE l → u.size ≤ 8192 := fun u hu => by have := mem_flat hu; have := tx_len u; omega
  have hdc : dcL t = l := by
    unfold dcL; rw [rs2_of ht]
    refine tkLr_back l ⟨sz _ (by simp [lrE, lrL]), sz _ (by simp [lrE, lrL])⟩ h16 (fun x hx => ⟨sz _ ?_, hf.r x hx⟩)
    have : tx x.r ∈ l.rs.flatMap rlE := List.mem_flatMap.2 ⟨x, hx, by simp [rlE]⟩
    unfold lrE lrL
    simp only [List.mem_cons, List.mem_append]
    exact .inr (.inr (.inr this))
  unfold decL
  rw [hdc, h, if_pos rfl]
end Go.Proofs.YtanpneahembhbaaGreatDoor
end S4

section S5
namespace Go.Proofs.YtanpneahembhbaaGreatDoor
open Go.RowKit
set_option maxHeartbeats 1000000 in
theorem validQ_any (o : Qt) (u : Value) (w : World) (hm : L.HasM w) (hv : Row kAm w u o.h) (hf : o.Fit) :
    Calls Tryz.prog 14 #[o.val u] w fun e w' => e = .returned (.int .i64 (qtR o).2) ∧ Below w.heap.size w w' := by
  obtain ⟨la, lc, rfl, _, _⟩ := hv.len
  have A0 := Lib.hid ((Below.refl _ w).alloc (Nat.le_refl _) (.cells #[.string o.p, .string o.n, .int .i64 o.k, .int .i64 o.a, .slice la o.h.length lc] 26))
  have EN := Lib.hid (encodeQ_any o _ _ (hm.below A0.out) (hv.below A0.out) hf)
  unfold Qt.val at EN ⊢
  clear hv hf hm
  go_enter Tryz.func14, Tryz.ntmps14
  go_wp2_with fail
  refine EN.out.mono ?_
  rintro e w1 ⟨rfl, hb⟩
  have B1 := Lib.hid hb
  clear hb EN
  go_wp2_with fail
  go_ret
  exact ⟨rfl, A0.out.trans (B1.out.mono A0.out.size)⟩
set_option maxHeartbeats 1000000 in
theorem validL_any (o : Lr) (u : Value) (w : World) (hm : L.HasM w) (hv : Row kRl w u o.rs) (hf : o.Fit) :
    Calls Tryz.prog 15 #[o.val u] w fun e w' => e = .returned (.int .i64 (lrR o).2) ∧ Below w.heap.size w w' := by
  obtain ⟨la, lc, rfl, _, _⟩ := hv.len
  have A0 := Lib.hid ((Below.refl _ w).alloc (Nat.le_refl _) (.cells #[.string o.p, .string o.n, .slice la o.rs.length lc] 29))
  have EN := Lib.hid (encodeL_any o _ _ (hm.below A0.out) (hv.below A0.out) hf)
  unfold Lr.val at EN ⊢
  clear hv hf hm
  go_enter Tryz.func15, Tryz.ntmps15
  go_wp2_with fail
  refine EN.out.mono ?_
  rintro e w1 ⟨rfl, hb⟩
  have B1 := Lib.hid hb
  clear hb EN
  go_wp2_with fail
  go_ret
  exact ⟨rfl, A0.out.trans (B1.out.mono A0.out.size)⟩
set_option maxHeartbeats 1000000 in
theorem validB_any (o : Bd) (w : World) (hm : L.HasM w) (hf : o.Fit) :
    Calls Tryz.prog 16 #[o.val] w fun e w' => e = .returned (.int .i64 (bdR o).2) ∧ Below w.heap.size w w' := by
  have A0 := Lib.hid ((Below.refl _ w).alloc (Nat.le_refl _) (.cells #[.string o.p, .string o.n, .string o.s, .int .i64 o.v] 31))
  have EN := Lib.hid (encodeB_any o _ (hm.below A0.out) hf)
  unfold Bd.val at EN ⊢
  clear hf hm
  go_enter Tryz.func16, Tryz.ntmps16
  go_wp2_with fail
  refine EN.out.mono ?_
  rintro e w1 ⟨rfl, hb⟩
  have B1 := Lib.hid hb
  clear hb EN
  go_wp2_with fail
  go_ret
  exact ⟨rfl, A0.out.trans (B1.out.mono A0.out.size)⟩
/-- The letter of a text that is a record's. -/
theorem out_letter {c : UInt8} {fs : List (List UInt8)} {t : ByteArray} (h : outR ([c] :: fs) = (t, 0)) : t.data.toList.head? = some c := by
  rw [(out_yes h).2, txt_list]; simp
theorem obR_letter {o : Ob} {t : ByteArray} (h : obR o = (t, 0)) : t.data.toList.head? = some 79 := by
  unfold obR at h
  split at h
  · exact out_letter h
  · simp at h
theorem qtR_letter {o : Qt} {t : ByteArray} (h : qtR o = (t, 0)) : t.data.toList.head? = some 81 := by
  unfold qtR at h
  split at h
  · exact out_letter h
  · simp at h
theorem lrR_letter {o : Lr} {t : ByteArray} (h : lrR o = (t, 0)) : t.data.toList.head? = some 76 := by
  unfold lrR at h
  split at h
  · exact out_letter h
  · simp at h
theorem bdR_letter {o : Bd} {t : ByteArray} (h : bdR o = (t, 0)) : t.data.toList.head? = some 66 := by
  unfold bdR at h
  split at h
  · exact out_letter h
  · simp at h
theorem decQ_not {t : ByteArray} (h : ¬ t.data.toList.head? = some 81) : decQ t = (Qt.z, 2) := by
  unfold decQ; rw [if_neg (fun q => h (qtR_letter q))]
theorem decL_not {t : ByteArray} (h : ¬ t.data.toList.head? = some 76) : decL t = (Lr.z, 2) := by
  unfold decL; rw [if_neg (fun q => h (lrR_letter q))]
theorem decB_not {t : ByteArray} (h : ¬ t.data.toList.head? = some 66) : decB t = (Bd.z, 2) := by
  unfold decB; rw [if_neg (fun q => h (bdR_letter q))]
theorem decR_not {t : ByteArray} (h : ¬ t.data.toList.head? = some 79) : decR t = (Ob.z, 2) := by
  unfold decR; rw [if_neg (fun q => h (obR_letter q))]
end Go.Proofs.YtanpneahembhbaaGreatDoor
end S5

section S6
namespace Go.Proofs.YtanpneahembhbaaGreatDoor
open Go.RowKit
set_option maxHeartbeats 4000000 in
set_option maxRecDepth 100000 in
theorem ownAmounts_any (v : Value) (l : List Am) (w : World) (hv : Row kAm w v l) (hl : l.length * 24 ≤ 140737488355328) :
    Calls Tryz.prog 7 #[v] w fun e w' => ∃ a n c, e = .returned (.slice a n c) ∧ OwnR kAm w.heap.size w' (.slice a n c) l ∧ Below w.heap.size w w' := by
  have V := Lib.hid hv
  obtain ⟨a, cap, rfl, hlc, hcm⟩ := hv.len
  unfold maxLen at hcm
  obtain ⟨n, hn⟩ : ∃ n, n = l.length := ⟨_, rfl⟩
  rw [← hn] at hlc hl V ⊢
  have HN := Lib.hid hn
  clear hv hn
  go_enter Tryz.func7, Tryz.ntmps7
  go_wp2_with fail
  go_loopg [3, 4] n (fun gg so si wr => ∃ (k : Nat) (a' : Option Addr) (m c : Nat), k ≤ n ∧ gg = n - k ∧ si = .int .i64 k ∧ so = .slice a' m c ∧ OwnR kAm w.heap.size wr (.slice a' m c) (l.take k) ∧ Below w.heap.size w wr)
  case atStart => exact ⟨0, none, 0, 0, Nat.zero_le _, rfl, rfl, rfl, OwnR.nil _ _ _, Below.refl _ _⟩
  case round =>
    obtain ⟨k, a', m, c, hk, hg, rfl, rfl, ho, hb⟩ := hrel
    have R : Aside (gk = n - k ∧ OwnR kAm w.heap.size wr (.slice a' m c) (l.take k) ∧ Below w.heap.size w wr) := ⟨hg, ho, hb⟩
    clear hg ho hb
    by_cases hlt : k < n
    · have hlt' : (k : Int) < (n : Int) := by omega
      obtain ⟨b, off, rfl, pc⟩ := (V.out.below R.out.2.2).at k (by rw [← HN.out]; exact hlt)
      have ST := Lib.hid (take_onez l k kAm.z (by rw [← HN.out]; exact hlt))
      obtain ⟨x, hx⟩ : ∃ x, x = l.getD k kAm.z := ⟨_, rfl⟩
      rw [← hx] at pc ST
      obtain ⟨xn, xv⟩ := x
      have c0 : wr.cell? ⟨b, off + k * 2, none⟩ = some (.string xn) := pc 0 _ rfl
      have c1 : wr.cell? ⟨b, off + k * 2 + 1, none⟩ = some (.int .i64 xv) := pc 1 _ rfl
      have LN : Hid (((l.take k).length + 1) * kAm.b ≤ 140737488355328) := Lib.hid (by rw [List.length_take]; show (min k l.length + 1) * 24 ≤ 140737488355328; omega)
      clear pc hx
      obtain ⟨acc, hacc⟩ : ∃ acc, acc = l.take k := ⟨_, rfl⟩
      rw [← hacc] at ST LN R
      clear hacc
      go_wp2_with (at_builtin; refine app_rowB okAm (gg := wr.heap.size) rfl _ _ rfl rfl R.out.2.1 R.out.2.2.size ⟨xn, xv⟩ ?hgg rfl rfl LN.out ?_)
      case hgg => simp
      intro v' w' h1 h2
      obtain ⟨a2, c2, rfl⟩ := h1.slice
      have A : Aside (OwnR kAm w.heap.size w' (.slice a2 (acc ++ [(⟨xn, xv⟩ : Am)]).length c2) (l.take (k + 1)) ∧ Below w.heap.size w w') := by
        refine ⟨?_, R.out.2.2.trans (grown_belowR h2 R.out.2.1 R.out.2.2.size)⟩
        rw [ST.out]; exact h1
      clear h1 h2
      go_wp2_with fail
      go_roundg (n - (k + 1))
      case measure => have := R.out.1; omega
      case rel => exact ⟨k + 1, a2, _, c2, by omega, rfl, by go_num, rfl, A.out.1, A.out.2⟩
    · have E : Aside (l.take k = l) := List.take_of_length_le (by rw [← HN.out]; omega)
      go_wp2_with fail
      go_ret
      exact ⟨a', m, c, rfl, by have := R.out.2.1; rw [E.out] at this; exact this, R.out.2.2⟩
end Go.Proofs.YtanpneahembhbaaGreatDoor
end S6

section S7
namespace Go.Proofs.YtanpneahembhbaaGreatDoor
open Go.RowKit
set_option maxHeartbeats 4000000 in
set_option maxRecDepth 100000 in
theorem ownQuota_any (q : Qt) (u : Value) (w : World) (hv : Row kAm w u q.h) (hl : q.h.length * 24 ≤ 140737488355328) :
    Calls Tryz.prog 5 #[q.val u] w fun e w' => ∃ vh, e = .returned (q.val vh) ∧ OwnR kAm w.heap.size w' vh q.h ∧ Below w.heap.size w w' := by
  obtain ⟨p, n, k, a, h⟩ := q
  simp only at hv hl
  obtain ⟨u1, u3, rfl, hlc, hcm⟩ := hv.len
  have V := Lib.hid hv
  clear hlc hcm hv
  unfold Qt.val
  simp only
  obtain ⟨b0, hb0⟩ : ∃ b0, b0 = w.heap.size := ⟨_, rfl⟩
  obtain ⟨X1, hX1⟩ : ∃ X1, X1 = w.alloc (.cells #[.string p, .string n, .int .i64 k, .int .i64 a, .slice u1 h.length u3] 26) := ⟨_, rfl⟩
  obtain ⟨X2, hX2⟩ : ∃ X2, X2 = X1.alloc (.cells #[.string ⟨#[]⟩, .string ⟨#[]⟩, .int .i64 0, .int .i64 0, .slice none 0 0] 26) := ⟨_, rfl⟩
  obtain ⟨X3, hX3⟩ : ∃ X3, X3 = X2.alloc (.cells #[.string p, .string n, .int .i64 k, .int .i64 a, .slice u1 h.length u3] 26) := ⟨_, rfl⟩
  have s1 : X1.heap.size = w.heap.size + 1 := by rw [hX1]; simp
  have s2 : X2.heap.size = w.heap.size + 2 := by rw [hX2]; simp [s1]
  have B1 : Below w.heap.size w X1 := by rw [hX1]; exact (Below.refl _ w).alloc (Nat.le_refl _) _
  have B2 : Below X1.heap.size X1 X2 := by rw [hX2]; exact (Below.refl _ X1).alloc (Nat.le_refl _) _
  have B3 : Below X2.heap.size X2 X3 := by rw [hX3]; exact (Below.refl _ X2).alloc (Nat.le_refl _) _
  have r1 : X1.heap[w.heap.size]? = some (.cells #[.string p, .string n, .int .i64 k, .int .i64 a, .slice u1 h.length u3] 26 (0, 0)) := by rw [hX1, heap_alloc_new]
  have r2 : X2.heap[w.heap.size + 1]? = some (.cells #[.string ⟨#[]⟩, .string ⟨#[]⟩, .int .i64 0, .int .i64 0, .slice none 0 0] 26 (0, 0)) := by rw [hX2, ← s1, heap_alloc_new]
  have r3 : X3.heap[w.heap.size + 2]? = some (.cells #[.string p, .string n, .int .i64 k, .int .i64 a, .slice u1 h.length u3] 26 (0, 0)) := by rw [hX3, ← s2, heap_alloc_new]
  have BB : Hid (Below w.heap.size w X3) := Lib.hid ((B1.trans (B2.mono B1.size)).trans (B3.mono (by omega)))
  have Q : Hid (X3.heap[w.heap.size]? = some (.cells #[.string p, .string n, .int .i64 k, .int .i64 a, .slice u1 h.length u3] 26 (0, 0)) ∧ X3.heap[w.heap.size + 1]? = some (.cells #[.string ⟨#[]⟩, .string ⟨#[]⟩, .int .i64 0, .int .i64 0, .slice none 0 0] 26 (0, 0)) ∧ X3.heap[w.heap.size + 2]? = some (.cells #[.string p, .string n, .int .i64 k, .int .i64 a, .slice u1 h.length u3] 26 (0, 0))) := Lib.hid
    ⟨by rw [B3.block _ (by omega), B2.block _ (by omega)]; exact r1, by rw [B3.block _ (by omega)]; exact r2, r3⟩
  have OA := Lib.hid (ownAmounts_any (.slice u1 h.length u3) h X3 (V.out.below BB.out) hl)
  have EX : Hid (X3 = ((w.alloc (.cells #[.string p, .string n, .int .i64 k, .int .i64 a, .slice u1 h.length u3] 26)).alloc (.cells #[.string ⟨#[]⟩, .string ⟨#[]⟩, .int .i64 0, .int .i64 0, .slice none 0 0] 26)).alloc (.cells #[.string p, .string n, .int .i64 k, .int .i64 a, .slice u1 h.length u3] 26)) := Lib.hid (by rw [hX3, hX2, hX1])
  clear hX1 hX2 hX3 s1 s2 B1 B2 B3 r1 r2 r3 hl hb0 b0
  go_enter Tryz.func5, Tryz.ntmps5
  go_wp2_with fail
  rw [← EX.out]
  refine OA.out.mono ?_
  rintro e w4 ⟨r1, r2, r3, rfl, ho, hb⟩
  have lt2 := lt_of_some Q.out.2.2
  have lt1 := lt_of_some Q.out.2.1
  have z4 : w4.heap[w.heap.size + 1]? = some (.cells #[.string ⟨#[]⟩, .string ⟨#[]⟩, .int .i64 0, .int .i64 0, .slice none 0 0] 26 (0, 0)) := by rw [hb.block _ lt1]; exact Q.out.2.1
  have o4 : w4.heap[w.heap.size + 2]? = some (.cells #[.string p, .string n, .int .i64 k, .int .i64 a, .slice u1 h.length u3] 26 (0, 0)) := by rw [hb.block _ lt2]; exact Q.out.2.2
  have BW : Below w.heap.size w w4 := BB.out.trans (hb.mono BB.out.size)
  obtain ⟨W5, hW5⟩ : ∃ W5, w4.setCell ⟨w.heap.size + 2, 4, none⟩ (.slice r1 r2 r3) = W5 := ⟨_, rfl⟩
  have k5 : Kept (fun x => x = w.heap.size + 2) w4 W5 := by rw [← hW5]; exact kept_set _ _ _ rfl
  have o5 : W5.heap[w.heap.size + 2]? = some (.cells #[.string p, .string n, .int .i64 k, .int .i64 a, .slice r1 r2 r3] 26 (0, 0)) := by rw [← hW5, Go.heap_setCell_same w4 _ 4 _ _ _ o4]; rfl
  have z5 : W5.heap[w.heap.size + 1]? = some (.cells #[.string ⟨#[]⟩, .string ⟨#[]⟩, .int .i64 0, .int .i64 0, .slice none 0 0] 26 (0, 0)) := by rw [k5.block _ (lt_of_some z4) (by omega)]; exact z4
  have O5 : OwnR kAm X3.heap.size W5 (.slice r1 r2 r3) h := ho.kept k5 (fun x e q => by have := (ho.lt x e).1; omega)
  have k6 := kept_setRow W5 (w.heap.size + 1) #[.string p, .string n, .int .i64 k, .int .i64 a, .slice r1 r2 r3]
  have O6 : OwnR kAm w.heap.size (W5.setRow (w.heap.size + 1) #[.string p, .string n, .int .i64 k, .int .i64 a, .slice r1 r2 r3]) (.slice r1 r2 r3) h := (O5.kept k6 (fun x e q => by have := (O5.lt x e).1; omega)).mono BB.out.size
  have B6 : Below w.heap.size w (W5.setRow (w.heap.size + 1) #[.string p, .string n, .int .i64 k, .int .i64 a, .slice r1 r2 r3]) := (BW.trans (k5.below BW.size (fun x hx => by omega))).trans (k6.below (Nat.le_trans BW.size k5.size) (fun x hx => by omega))
  have DN := Lib.hid (And.intro O6 B6)
  have ZH := Lib.hid z5
  have d4 : w4.cell? ⟨w.heap.size + 2, 4, none⟩ = some (.slice u1 h.length u3) := by rw [cell_of_row w4 _ 4 _ _ _ o4]; rfl
  have f4 : w4.frozen? ⟨w.heap.size + 2, 4, none⟩ = false := frozen_of_row _ _ _ _ _ o4
  have e0 : W5.cell? ⟨w.heap.size + 2, 0, none⟩ = some (.string p) := by rw [cell_of_row W5 _ 0 _ _ _ o5]; rfl
  have e1 : W5.cell? ⟨w.heap.size + 2, 1, none⟩ = some (.string n) := by rw [cell_of_row W5 _ 1 _ _ _ o5]; rfl
  have e2 : W5.cell? ⟨w.heap.size + 2, 2, none⟩ = some (.int .i64 k) := by rw [cell_of_row W5 _ 2 _ _ _ o5]; rfl
  have e3 : W5.cell? ⟨w.heap.size + 2, 3, none⟩ = some (.int .i64 a) := by rw [cell_of_row W5 _ 3 _ _ _ o5]; rfl
  have e4 : W5.cell? ⟨w.heap.size + 2, 4, none⟩ = some (.slice r1 r2 r3) := by rw [cell_of_row W5 _ 4 _ _ _ o5]; rfl
  have ON : Hid ((#[.string p, .string n, .int .i64 k, .int .i64 a, .slice r1 r2 r3] : Array Value).all (·.oneCell') = true) := Lib.hid (by simp [Value.oneCell'])
  clear ho hb z4 o4 z5 o5 k5 k6 O5 O6 B6 BW lt1 lt2
  go_wp2_with (refine wpList_store_row rfl 26 (.tmp 2) (.tmp 9) rfl (w.heap.size + 1) #[.string p, .string n, .int .i64 k, .int .i64 a, .slice r1 r2 r3] rfl rfl 26 #[.string ⟨#[]⟩, .string ⟨#[]⟩, .int .i64 0, .int .i64 0, .slice none 0 0] ZH.out size_qt rfl ON.out ?_)
  refine bodyPost_ret (results_cell_row rfl _ _ (w.heap.size + 1) 26 #[.string p, .string n, .int .i64 k, .int .i64 a, .slice r1 r2 r3] (0, 0) _ rfl (setRow_heap _ _ _ _ _ _ ZH.out) Tryz.underlying26 rfl size_qt) rfl ?_
  exact ⟨.slice r1 r2 r3, rfl, DN.out.1, DN.out.2⟩
end Go.Proofs.YtanpneahembhbaaGreatDoor
end S7

section S8
namespace Go.Proofs.YtanpneahembhbaaGreatDoor
open Go.RowKit
end Go.Proofs.YtanpneahembhbaaGreatDoor
end S8

section S9
namespace Go.Proofs.YtanpneahembhbaaGreatDoor
open Go.RowKit
open Go.Sort (grow)
theorem reg {w : World} {a : Addr} {v : Value} (h : w.cell? a = some v) : ∀ (dq : Nat) (os : Array Obj), (grow (redrawn w dq) os).cell? a = some v := fun dq os => cell_regrown h dq os
set_option maxHeartbeats 4000000 in
set_option maxRecDepth 100000 in
theorem sameAmounts_yes (u u' : Value) (l : List Am) (w : World) (hu : Row kAm w u l) (hu' : Row kAm w u' l) :
    Calls Tryz.prog 40 #[u, u'] w fun e w' => e = .returned (.bool true) ∧ Below w.heap.size w w' := by
  have U := Lib.hid hu
  have U' := Lib.hid hu'
  obtain ⟨a, cap, rfl, hlc, hcm⟩ := hu.len
  obtain ⟨a', cap', rfl, hlc', hcm'⟩ := hu'.len
  unfold maxLen at hcm hcm'
  obtain ⟨n, hn⟩ : ∃ n, n = l.length := ⟨_, rfl⟩
  rw [← hn] at hlc hlc' U U' ⊢
  have HN := Lib.hid hn
  clear hu hu' hn
  go_enter Tryz.func40, Tryz.ntmps40
  go_wp2_with fail
  go_loopg [5] n (fun g si wr => ∃ (k : Nat), k ≤ n ∧ g = n - k ∧ si = .int .i64 k ∧ Below w.heap.size w wr)
  case atStart => exact ⟨0, Nat.zero_le _, rfl, rfl, Below.refl _ _⟩
  case round =>
    obtain ⟨k, hk, hg, rfl, hb⟩ := hrel
    have R : Aside (gk = n - k ∧ Below w.heap.size w wr) := ⟨hg, hb⟩
    clear hg hb
    by_cases hlt : k < n
    · have hlt' : (k : Int) < (n : Int) := by omega
      obtain ⟨b, off, rfl, pc⟩ := (U.out.below R.out.2).at k (by rw [← HN.out]; exact hlt)
      obtain ⟨b', off', rfl, pc'⟩ := (U'.out.below R.out.2).at k (by rw [← HN.out]; exact hlt)
      obtain ⟨⟨xn, xv⟩, hx⟩ : ∃ x, x = l.getD k kAm.z := ⟨_, rfl⟩
      rw [← hx] at pc pc'
      have p0 : wr.cell? ⟨b, off + k * 2, none⟩ = some (.string xn) := pc 0 _ rfl
      have p1 : wr.cell? ⟨b, off + k * 2 + 1, none⟩ = some (.int .i64 xv) := pc 1 _ rfl
      have q0 : wr.cell? ⟨b', off' + k * 2, none⟩ = some (.string xn) := pc' 0 _ rfl
      have q1 : wr.cell? ⟨b', off' + k * 2 + 1, none⟩ = some (.int .i64 xv) := pc' 1 _ rfl
      have r0 := reg p0
      have r1 := reg p1
      have s0 := reg q0
      have s1 := reg q1
      have g0 : (xn.toList == xn.toList) = true := by simp
      have xB : Hid (∀ (dq : Nat) (os : Array Obj), Below wr.heap.size wr (grow (redrawn wr dq) os)) := Lib.hid fun dq os => below_regrown wr dq os
      clear hx pc pc' p0 p1 q0 q1
      go_wp2_with fail
      refine wp_region_quiet_below (by kernel_rfl) (by kernel_rfl) ?_
      repeat (go_big_quiet_step (fail))
      refine wpQuiet_nil ?_
      intro _ hw'
      obtain ⟨⟨dq, osq⟩, hw''⟩ := hw'
      subst hw''
      have xx := Lib.hid (R.out.2.trans ((xB.out dq osq).mono R.out.2.size))
      clear r0 r1 s0 s1 xB
      obtain ⟨W, hW⟩ : ∃ W, W = grow (redrawn wr dq) osq := ⟨_, rfl⟩
      rw [← hW] at xx ⊢
      clear hW
      go_wp2_with fail
      go_roundg (n - (k + 1))
      case measure => have := R.out.1; omega
      case rel => exact ⟨k + 1, by omega, rfl, by go_num, xx.out⟩
    · go_wp2_with fail
      go_ret
      exact ⟨rfl, R.out.2⟩
end Go.Proofs.YtanpneahembhbaaGreatDoor
end S9

section S10
namespace Go.Proofs.YtanpneahembhbaaGreatDoor
open Go.RowKit
open Go.Sort (grow)
set_option maxHeartbeats 4000000 in
set_option maxRecDepth 100000 in
theorem sameQuota_yes (q : Qt) (u v : Value) (w : World) (hu : Row kAm w u q.h) (hv : Row kAm w v q.h) :
    Calls Tryz.prog 17 #[q.val u, q.val v] w fun e w' => e = .returned (.bool true) ∧ Below w.heap.size w w' := by
  obtain ⟨p, n, k, a, h⟩ := q
  simp only at hu hv
  obtain ⟨u1, u3, rfl, _, _⟩ := hu.len
  obtain ⟨v1, v3, rfl, _, _⟩ := hv.len
  unfold Qt.val
  simp only
  obtain ⟨X, hX⟩ : ∃ X, X = w.alloc (.cells #[.string p, .string n, .int .i64 k, .int .i64 a, .slice u1 h.length u3] 26) := ⟨_, rfl⟩
  obtain ⟨Y, hY⟩ : ∃ Y, Y = X.alloc (.cells #[.string p, .string n, .int .i64 k, .int .i64 a, .slice v1 h.length v3] 26) := ⟨_, rfl⟩
  obtain ⟨bx, hbx⟩ : ∃ bx, bx = w.heap.size := ⟨_, rfl⟩
  obtain ⟨b9, hb9⟩ : ∃ b9, b9 = X.heap.size := ⟨_, rfl⟩
  have BX : Below w.heap.size w X := by rw [hX]; exact (Below.refl _ w).alloc (Nat.le_refl _) _
  have BY : Below X.heap.size X Y := by rw [hY]; exact (Below.refl _ X).alloc (Nat.le_refl _) _
  have BB : Hid (Below w.heap.size w Y) := Lib.hid (BX.trans (BY.mono BX.size))
  have rx : X.heap[bx]? = some (.cells #[.string p, .string n, .int .i64 k, .int .i64 a, .slice u1 h.length u3] 26 (0, 0)) := by rw [hX, hbx, heap_alloc_new]
  have ry : Y.heap[b9]? = some (.cells #[.string p, .string n, .int .i64 k, .int .i64 a, .slice v1 h.length v3] 26 (0, 0)) := by rw [hY, hb9, heap_alloc_new]
  have rx2 : Y.heap[bx]? = some (.cells #[.string p, .string n, .int .i64 k, .int .i64 a, .slice u1 h.length u3] 26 (0, 0)) := by rw [BY.block _ (lt_of_some rx)]; exact rx
  have ca : ∀ j y, (#[.string p, .string n, .int .i64 k, .int .i64 a, .slice u1 h.length u3] : Array Value)[j]? = some y → Y.cell? ⟨bx, j, none⟩ = some y := fun j y hy => by rw [cell_of_row Y bx j _ _ _ rx2]; exact hy
  have cb : ∀ j y, (#[.string p, .string n, .int .i64 k, .int .i64 a, .slice v1 h.length v3] : Array Value)[j]? = some y → Y.cell? ⟨b9, j, none⟩ = some y := fun j y hy => by rw [cell_of_row Y b9 j _ _ _ ry]; exact hy
  have a0 := ca 0 _ rfl
  have a1 := ca 1 _ rfl
  have a2 := ca 2 _ rfl
  have a3 := ca 3 _ rfl
  have a4 := ca 4 _ rfl
  have b0 := cb 0 _ rfl
  have b1 := cb 1 _ rfl
  have b2 := cb 2 _ rfl
  have b3 := cb 3 _ rfl
  have b4 := cb 4 _ rfl
  have g0 : (p.toList == p.toList) = true := by simp
  have g1 : (n.toList == n.toList) = true := by simp
  have SA := Lib.hid (sameAmounts_yes _ _ h Y (hu.below BB.out) (hv.below BB.out))
  have hX' := hX.symm
  have hY' := hY.symm
  have hbx' := hbx.symm
  have hb9' := hb9.symm
  clear hX hY hbx hb9 BX BY rx ry rx2 ca cb hu hv
  go_enter Tryz.func17, Tryz.ntmps17
  go_wp2_with fail
  refine SA.out.mono ?_
  rintro e w1 ⟨rfl, hb⟩
  have B1 := Lib.hid (BB.out.trans (hb.mono BB.out.size))
  clear hb SA a0 a1 a2 a3 a4 b0 b1 b2 b3 b4 hX' hY' hb9'
  go_wp2_with fail
  go_ret
  rw [← hbx'] at *
  exact ⟨rfl, B1.out⟩
end Go.Proofs.YtanpneahembhbaaGreatDoor
end S10

section S11
namespace Go.Proofs.YtanpneahembhbaaGreatDoor
open Go.RowKit
open Go.Sort (grow)
set_option maxHeartbeats 8000000 in
set_option maxRecDepth 100000 in
theorem sameLimit_yes (q : Lr) (u v : Value) (w : World) (hu : Row kRl w u q.rs) (hv : Row kRl w v q.rs) :
    Calls Tryz.prog 18 #[q.val u, q.val v] w fun e w' => e = .returned (.bool true) ∧ Below w.heap.size w w' := by
  obtain ⟨p, m, rs⟩ := q
  simp only at hu hv
  have U := Lib.hid hu
  have V := Lib.hid hv
  obtain ⟨u1, u3, rfl, hlc, hcm⟩ := hu.len
  obtain ⟨v1, v3, rfl, hlc', hcm'⟩ := hv.len
  unfold maxLen at hcm hcm'
  unfold Lr.val
  simp only
  obtain ⟨n, hn⟩ : ∃ n, n = rs.length := ⟨_, rfl⟩
  rw [← hn] at hlc hlc' U V ⊢
  have HN := Lib.hid hn
  clear hu hv hn
  obtain ⟨X, hX⟩ : ∃ X, X = w.alloc (.cells #[.string p, .string m, .slice u1 n u3] 29) := ⟨_, rfl⟩
  obtain ⟨Y, hY⟩ : ∃ Y, Y = X.alloc (.cells #[.string p, .string m, .slice v1 n v3] 29) := ⟨_, rfl⟩
  obtain ⟨bx, hbx⟩ : ∃ bx, bx = w.heap.size := ⟨_, rfl⟩
  obtain ⟨b9, hb9⟩ : ∃ b9, b9 = X.heap.size := ⟨_, rfl⟩
  have BX : Below w.heap.size w X := by rw [hX]; exact (Below.refl _ w).alloc (Nat.le_refl _) _
  have BY : Below X.heap.size X Y := by rw [hY]; exact (Below.refl _ X).alloc (Nat.le_refl _) _
  have BB : Hid (Below w.heap.size w Y) := Lib.hid (BX.trans (BY.mono BX.size))
  have rx : X.heap[bx]? = some (.cells #[.string p, .string m, .slice u1 n u3] 29 (0, 0)) := by rw [hX, hbx, heap_alloc_new]
  have ry : Y.heap[b9]? = some (.cells #[.string p, .string m, .slice v1 n v3] 29 (0, 0)) := by rw [hY, hb9, heap_alloc_new]
  have rx2 : Y.heap[bx]? = some (.cells #[.string p, .string m, .slice u1 n u3] 29 (0, 0)) := by rw [BY.block _ (lt_of_some rx)]; exact rx
  have ca : ∀ j y, (#[.string p, .string m, .slice u1 n u3] : Array Value)[j]? = some y → Y.cell? ⟨bx, j, none⟩ = some y := fun j y hy => by rw [cell_of_row Y bx j _ _ _ rx2]; exact hy
  have cb : ∀ j y, (#[.string p, .string m, .slice v1 n v3] : Array Value)[j]? = some y → Y.cell? ⟨b9, j, none⟩ = some y := fun j y hy => by rw [cell_of_row Y b9 j _ _ _ ry]; exact hy
  have CA := Lib.hid ca
  have CB := Lib.hid cb
  have a0 := ca 0 _ rfl
  have a1 := ca 1 _ rfl
  have a2 := ca 2 _ rfl
  have b0 := cb 0 _ rfl
  have b1 := cb 1 _ rfl
  have b2 := cb 2 _ rfl
  have g0 : (p.toList == p.toList) = true := by simp
  have g1 : (m.toList == m.toList) = true := by simp
  have hX' := hX.symm
  have hY' := hY.symm
  have hbx' := hbx.symm
  have HBX := Lib.hid hbx
  have hb9' := hb9.symm
  clear hX hY hbx hb9 BX BY rx ry rx2 ca cb
  go_enter Tryz.func18, Tryz.ntmps18
  go_wp2_with fail
  clear a0 a1 a2 b0 b1 b2 g0 g1 hX' hY' hbx' hb9'
  go_loopg [5] n (fun g si wr => ∃ (k : Nat), k ≤ n ∧ g = n - k ∧ si = .int .i64 k ∧ Below Y.heap.size Y wr)
  case atStart => exact ⟨0, Nat.zero_le _, rfl, rfl, Below.refl _ _⟩
  case round =>
    obtain ⟨k, hk, hg, rfl, hb⟩ := hrel
    have R : Aside (gk = n - k ∧ Below Y.heap.size Y wr) := ⟨hg, hb⟩
    have RW := Lib.hid (BB.out.trans (hb.mono BB.out.size))
    have a2 := (hb.cell (block_lt_of_cell (CA.out 2 _ rfl))).trans (CA.out 2 _ rfl)
    have b2 := (hb.cell (block_lt_of_cell (CB.out 2 _ rfl))).trans (CB.out 2 _ rfl)
    clear hg hb
    by_cases hlt : k < n
    · have hlt' : (k : Int) < (n : Int) := by omega
      obtain ⟨b, off, rfl, pc⟩ := (U.out.below RW.out).at k (by rw [← HN.out]; exact hlt)
      obtain ⟨b', off', rfl, pc'⟩ := (V.out.below RW.out).at k (by rw [← HN.out]; exact hlt)
      obtain ⟨⟨xr, x1, x2, x3, x4, x5⟩, hx⟩ : ∃ x, x = rs.getD k kRl.z := ⟨_, rfl⟩
      rw [← hx] at pc pc'
      have r0 := reg (show wr.cell? ⟨b, off + k * 6, none⟩ = some (.string xr) from pc 0 _ rfl)
      have r1 := reg (show wr.cell? ⟨b, off + k * 6 + 1, none⟩ = some (.int .i64 x1) from pc 1 _ rfl)
      have r2 := reg (show wr.cell? ⟨b, off + k * 6 + 2, none⟩ = some (.int .i64 x2) from pc 2 _ rfl)
      have r3 := reg (show wr.cell? ⟨b, off + k * 6 + 3, none⟩ = some (.int .i64 x3) from pc 3 _ rfl)
      have r4 := reg (show wr.cell? ⟨b, off + k * 6 + 4, none⟩ = some (.int .i64 x4) from pc 4 _ rfl)
      have r5 := reg (show wr.cell? ⟨b, off + k * 6 + 5, none⟩ = some (.int .i64 x5) from pc 5 _ rfl)
      have s0 := reg (show wr.cell? ⟨b', off' + k * 6, none⟩ = some (.string xr) from pc' 0 _ rfl)
      have s1 := reg (show wr.cell? ⟨b', off' + k * 6 + 1, none⟩ = some (.int .i64 x1) from pc' 1 _ rfl)
      have s2 := reg (show wr.cell? ⟨b', off' + k * 6 + 2, none⟩ = some (.int .i64 x2) from pc' 2 _ rfl)
      have s3 := reg (show wr.cell? ⟨b', off' + k * 6 + 3, none⟩ = some (.int .i64 x3) from pc' 3 _ rfl)
      have s4 := reg (show wr.cell? ⟨b', off' + k * 6 + 4, none⟩ = some (.int .i64 x4) from pc' 4 _ rfl)
      have s5 := reg (show wr.cell? ⟨b', off' + k * 6 + 5, none⟩ = some (.int .i64 x5) from pc' 5 _ rfl)
      have ra := reg a2
      have rb := reg b2
      have g0 : (xr.toList == xr.toList) = true := by simp
      have xB : Hid (∀ (dq : Nat) (os : Array Obj), Below wr.heap.size wr (grow (redrawn wr dq) os)) := Lib.hid fun dq os => below_regrown wr dq os
      clear hx pc pc'
      go_wp2_with fail
      refine wp_region_quiet_below (by kernel_rfl) (by kernel_rfl) ?_
      repeat (go_big_quiet_step (fail))
      refine wpQuiet_nil ?_
      intro _ hw'
      obtain ⟨⟨dq, osq⟩, hw''⟩ := hw'
      subst hw''
      have xx := Lib.hid (R.out.2.trans ((xB.out dq osq).mono R.out.2.size))
      clear r0 r1 r2 r3 r4 r5 s0 s1 s2 s3 s4 s5 ra rb xB a2 b2
      obtain ⟨W, hW⟩ : ∃ W, W = grow (redrawn wr dq) osq := ⟨_, rfl⟩
      rw [← hW] at xx ⊢
      clear hW
      go_wp2_with fail
      go_roundg (n - (k + 1))
      case measure => have := R.out.1; omega
      case rel => exact ⟨k + 1, by omega, rfl, by go_num, xx.out⟩
    · go_wp2_with fail
      go_ret
      exact ⟨rfl, RW.out⟩
end Go.Proofs.YtanpneahembhbaaGreatDoor
end S11

section S12
namespace Go.Proofs.YtanpneahembhbaaGreatDoor
open Go.RowKit
structure LO (w : World) (bp bz bo : Nat) (p m : ByteArray) (u vl : Value) (acc : List Rl) (W : World) : Prop where
  a : W.heap[bp]? = some (.cells #[.string p, .string m, u] 29 (0, 0))
  z : W.heap[bz]? = some (.cells #[.string ⟨#[]⟩, .string ⟨#[]⟩, .slice none 0 0] 29 (0, 0))
  o : W.heap[bo]? = some (.cells #[.string p, .string m, vl] 29 (0, 0))
  l : OwnR kRl w.heap.size W vl acc
  be : Below w.heap.size w W
  bs : w.heap.size ≤ bp ∧ w.heap.size ≤ bz ∧ w.heap.size ≤ bo ∧ bp ≠ bo ∧ bz ≠ bo
variable {w W W' : World} {bp bz bo : Nat} {p m : ByteArray} {u vl : Value} {acc : List Rl}
theorem LO.below (h : LO w bp bz bo p m u vl acc W) (hb : Below W.heap.size W W') : LO w bp bz bo p m u vl acc W' :=
  ⟨by rw [hb.block _ (lt_of_some h.a)]; exact h.a, by rw [hb.block _ (lt_of_some h.z)]; exact h.z, by rw [hb.block _ (lt_of_some h.o)]; exact h.o, h.l.below hb, h.be.trans (hb.mono h.be.size), h.bs⟩
theorem LO.drew (h : LO w bp bz bo p m u vl acc W) : LO w bp bz bo p m u vl acc W.drew := h.below ⟨rfl, rfl, rfl, Nat.le_refl _, fun _ _ => rfl⟩
theorem LO.grown (h : LO w bp bz bo p m u vl acc W) (hg : W.grownBy W' vl.ownBlock) : W'.heap[bp]? = some (.cells #[.string p, .string m, u] 29 (0, 0)) ∧ W'.heap[bz]? = some (.cells #[.string ⟨#[]⟩, .string ⟨#[]⟩, .slice none 0 0] 29 (0, 0)) ∧ W'.heap[bo]? = some (.cells #[.string p, .string m, vl] 29 (0, 0)) := by
  have tb : ∀ (k : Nat) (cs : Array Value), W.heap[k]? = some (.cells cs 29 (0, 0)) → W'.heap[k]? = some (.cells cs 29 (0, 0)) := fun k cs q => by
    rw [(grown_kept hg).block k (lt_of_some q) (fun e => by
      obtain ⟨cs', m', h'⟩ := h.l.ty k e.symm
      rw [q] at h'; simp only [Option.some.injEq, Obj.cells.injEq] at h'; exact absurd h'.2.1 (by decide))]; exact q
  exact ⟨tb _ _ h.a, tb _ _ h.z, tb _ _ h.o⟩
theorem LO.rule (h : LO w bp bz bo p m u vl acc W) {v' : Value} {y : Rl} (ho : OwnR kRl w.heap.size W' v' (acc ++ [y])) (hg : W.grownBy W' vl.ownBlock) : LO w bp bz bo p m u v' (acc ++ [y]) (W'.setCell ⟨bo, 2, none⟩ v') := by
  obtain ⟨ga, gz, go⟩ := h.grown hg
  have k2 : Kept (fun k => k = bo) W' (W'.setCell ⟨bo, 2, none⟩ v') := kept_set _ _ _ rfl
  have hb := h.bs
  have bW : Below w.heap.size w W' := h.be.trans (grown_belowR hg h.l h.be.size)
  refine ⟨by rw [k2.block bp (lt_of_some ga) (by omega)]; exact ga, by rw [k2.block bz (lt_of_some gz) (by omega)]; exact gz, by rw [Go.heap_setCell_same W' bo 2 _ _ _ go]; rfl, ho.kept_ty k2 (fun k cs q e hq => ?_), bW.trans (k2.below bW.size (fun x hx => by omega)), h.bs⟩
  rw [e, go] at hq
  simp only [Option.some.injEq, Obj.cells.injEq] at hq
  exact absurd hq.2.1 (by decide)
set_option maxHeartbeats 8000000 in
set_option maxRecDepth 100000 in
theorem ownLimit_any (q : Lr) (u : Value) (w : World) (hu : Row kRl w u q.rs) (hl : q.rs.length * 56 ≤ 140737488355328) :
    Calls Tryz.prog 6 #[q.val u] w fun e w' => ∃ vl, e = .returned (q.val vl) ∧ OwnR kRl w.heap.size w' vl q.rs ∧ Below w.heap.size w w' := by
  obtain ⟨p, m, rs⟩ := q
  simp only at hu hl
  have U := Lib.hid hu
  obtain ⟨u1, u3, rfl, hlc, hcm⟩ := hu.len
  unfold maxLen at hcm
  unfold Lr.val
  simp only
  obtain ⟨n, hn⟩ : ∃ n, n = rs.length := ⟨_, rfl⟩
  rw [← hn] at hlc hl U ⊢
  have HN := Lib.hid hn
  clear hu hn
  obtain ⟨X1, hX1⟩ : ∃ X1, X1 = w.alloc (.cells #[.string p, .string m, .slice u1 n u3] 29) := ⟨_, rfl⟩
  obtain ⟨X2, hX2⟩ : ∃ X2, X2 = X1.alloc (.cells #[.string ⟨#[]⟩, .string ⟨#[]⟩, .slice none 0 0] 29) := ⟨_, rfl⟩
  obtain ⟨X3, hX3⟩ : ∃ X3, X3 = X2.alloc (.cells #[.string p, .string m, .slice none 0 0] 29) := ⟨_, rfl⟩
  have s1 : X1.heap.size = w.heap.size + 1 := by rw [hX1]; simp
  have s2 : X2.heap.size = w.heap.size + 2 := by rw [hX2]; simp [s1]
  have B1 : Below w.heap.size w X1 := by rw [hX1]; exact (Below.refl _ w).alloc (Nat.le_refl _) _
  have B2 : Below X1.heap.size X1 X2 := by rw [hX2]; exact (Below.refl _ X1).alloc (Nat.le_refl _) _
  have B3 : Below X2.heap.size X2 X3 := by rw [hX3]; exact (Below.refl _ X2).alloc (Nat.le_refl _) _
  have r1 : X1.heap[w.heap.size]? = some (.cells #[.string p, .string m, .slice u1 n u3] 29 (0, 0)) := by rw [hX1, heap_alloc_new]
  have r2 : X2.heap[w.heap.size + 1]? = some (.cells #[.string ⟨#[]⟩, .string ⟨#[]⟩, .slice none 0 0] 29 (0, 0)) := by rw [hX2, ← s1, heap_alloc_new]
  have r3 : X3.heap[w.heap.size + 2]? = some (.cells #[.string p, .string m, .slice none 0 0] 29 (0, 0)) := by rw [hX3, ← s2, heap_alloc_new]
  have BB : Below w.heap.size w X3 := (B1.trans (B2.mono B1.size)).trans (B3.mono (by omega))
  have T0 : Aside (LO w w.heap.size (w.heap.size + 1) (w.heap.size + 2) p m (.slice u1 n u3) (.slice none 0 0) [] X3) := by
    refine ⟨?_, ?_, r3, OwnR.nil _ _ _, BB, by omega⟩
    · rw [B3.block _ (by omega), B2.block _ (by omega)]; exact r1
    · rw [B3.block _ (by omega)]; exact r2
  have EX : Hid (X3 = ((w.alloc (.cells #[.string p, .string m, .slice u1 n u3] 29)).alloc (.cells #[.string ⟨#[]⟩, .string ⟨#[]⟩, .slice none 0 0] 29)).alloc (.cells #[.string p, .string m, .slice none 0 0] 29)) := Lib.hid (by rw [hX3, hX2, hX1])
  clear hX1 hX2 hX3 s1 s2 B1 B2 B3 r1 r2 r3 BB
  go_enter Tryz.func6, Tryz.ntmps6
  go_wp2_with fail
  rw [← EX.out]
  clear EX
  obtain ⟨bo, hbo⟩ : ∃ bo, bo = w.heap.size + 1 + 1 := ⟨_, rfl⟩
  rw [show w.heap.size + 2 = bo from hbo.symm] at T0
  rw [← hbo]
  clear hbo
  go_loopg [4] n (fun gg si wr => ∃ (k : Nat) (a : Option Addr) (c d : Nat), k ≤ n ∧ gg = n - k ∧ si = .int .i64 k ∧ LO w w.heap.size (w.heap.size + 1) bo p m (.slice u1 n u3) (.slice a c d) (rs.take k) wr)
  case atStart => exact ⟨0, none, 0, 0, Nat.zero_le _, rfl, rfl, T0.out⟩
  case round =>
    clear T0
    obtain ⟨k, a, c, d, hk, hg, rfl, hlo⟩ := hrel
    have R : Aside (gk = n - k ∧ LO w w.heap.size (w.heap.size + 1) bo p m (.slice u1 n u3) (.slice a c d) (rs.take k) wr) := ⟨hg, hlo⟩
    have k2 : wr.cell? ⟨w.heap.size, 2, none⟩ = some (.slice u1 n u3) := by rw [cell_of_row wr _ 2 _ _ _ hlo.a]; rfl
    clear hg hlo
    by_cases hlt : k < n
    · have hlt' : (k : Int) < (n : Int) := by omega
      have hlt2 : k < rs.length := by rw [← HN.out]; exact hlt
      obtain ⟨b, off, rfl, pc⟩ := (U.out.below R.out.2.be).at k hlt2
      have ST := Lib.hid (take_onez rs k kRl.z hlt2)
      have LN : Hid (((rs.take k).length + 1) * kRl.b ≤ 140737488355328) := Lib.hid (by rw [List.length_take]; show (min k rs.length + 1) * 56 ≤ 140737488355328; omega)
      obtain ⟨x, hx⟩ : ∃ x, x = rs.getD k kRl.z := ⟨_, rfl⟩
      rw [← hx] at pc ST
      clear hx hlt2
      obtain ⟨acc, hacc⟩ : ∃ acc, acc = rs.take k := ⟨_, rfl⟩
      rw [← hacc] at ST LN R
      clear hacc
      obtain ⟨xr, x1, x2, x3, x4, x5⟩ := x
      have TD := Lib.hid R.out.2.drew
      have dc : ∀ ad v, wr.cell? ad = some v → wr.drew.cell? ad = some v := fun ad v q => q
      have p0 := dc _ _ (show wr.cell? ⟨b, off + k * 6, none⟩ = some (.string xr) from pc 0 _ rfl)
      have p1 := dc _ _ (show wr.cell? ⟨b, off + k * 6 + 1, none⟩ = some (.int .i64 x1) from pc 1 _ rfl)
      have p2 := dc _ _ (show wr.cell? ⟨b, off + k * 6 + 2, none⟩ = some (.int .i64 x2) from pc 2 _ rfl)
      have p3 := dc _ _ (show wr.cell? ⟨b, off + k * 6 + 3, none⟩ = some (.int .i64 x3) from pc 3 _ rfl)
      have p4 := dc _ _ (show wr.cell? ⟨b, off + k * 6 + 4, none⟩ = some (.int .i64 x4) from pc 4 _ rfl)
      have p5 := dc _ _ (show wr.cell? ⟨b, off + k * 6 + 5, none⟩ = some (.int .i64 x5) from pc 5 _ rfl)
      have e2 : wr.drew.cell? ⟨bo, 2, none⟩ = some (.slice a c d) := by rw [cell_of_row wr.drew _ 2 _ _ _ TD.out.o]; rfl
      have a2 := dc _ _ k2
      have LB : Hid (w.heap.size ≤ wr.drew.heap.size) := Lib.hid TD.out.be.size
      have mA : ∀ ob, (wr.drew.alloc ob).cell? ⟨bo, 2, none⟩ = some (.slice a c d) := fun ob => by rw [((Below.refl wr.drew.heap.size wr.drew).alloc (Nat.le_refl _) ob).cell (block_lt_of_cell e2)]; exact e2
      have mB : ∀ ob, (wr.alloc ob).cell? ⟨bo, 2, none⟩ = some (.slice a c d) := fun ob => mA ob
      have e3 : wr.cell? ⟨bo, 2, none⟩ = some (.slice a c d) := e2
      clear pc dc
      go_wp2_with fail
      go_region_law (first | (refine step_rowB okRl rfl (.tmp 15) (.tmp 21) rfl (B := w.heap.size) (w0 := wr.drew) (v := .slice a c d) (es := acc) rfl TD.out.l LB.out ⟨xr, x1, x2, x3, x4, x5⟩ rfl rfl LN.out ?_; intro a3 n3 c3 w7 H7; have GN := Lib.hid (TD.out.grown H7.out.2.1).2.2; have y2 : w7.frozen? ⟨bo, 2, none⟩ = false := frozen_of_row _ _ _ _ _ GN.out; have z2 : w7.cell? ⟨bo, 2, none⟩ = some (.slice a c d) := by rw [cell_of_row w7 _ 2 _ _ _ GN.out]; rfl))
      all_goals
        have S8 := Lib.hid (TD.out.rule H7.out.1 H7.out.2.1)
        rw [← ST.out] at S8
        clear y2 z2 mA mB e3 e2 a2 k2 p0 p1 p2 p3 p4 p5
        obtain ⟨W4, hW4⟩ : ∃ W4, w7.setCell ⟨bo, 2, none⟩ (.slice a3 n3 c3) = W4 := ⟨_, rfl⟩
        rw [hW4] at S8
        rw [hW4]
        clear hW4
        go_wp2_with fail
        go_roundg (n - (k + 1))
        case measure => have := R.out.1; omega
        case rel => exact ⟨k + 1, a3, n3, c3, by omega, rfl, by go_num, S8.out⟩
    · have T6 : Hid (LO w w.heap.size (w.heap.size + 1) bo p m (.slice u1 n u3) (.slice a c d) rs wr) := Lib.hid (by
        have := R.out.2; rw [List.take_of_length_le (by rw [← HN.out]; omega)] at this; exact this)
      have e0 : wr.cell? ⟨bo, 0, none⟩ = some (.string p) := by rw [cell_of_row wr _ 0 _ _ _ T6.out.o]; rfl
      have e1 : wr.cell? ⟨bo, 1, none⟩ = some (.string m) := by rw [cell_of_row wr _ 1 _ _ _ T6.out.o]; rfl
      have e2 : wr.cell? ⟨bo, 2, none⟩ = some (.slice a c d) := by rw [cell_of_row wr _ 2 _ _ _ T6.out.o]; rfl
      have ON : Hid ((#[.string p, .string m, .slice a c d] : Array Value).all (·.oneCell') = true) := Lib.hid (by simp [Value.oneCell'])
      go_wp2_with (refine wpList_store_row rfl 29 (.tmp 2) (.tmp 24) rfl (w.heap.size + 1) #[.string p, .string m, .slice a c d] rfl rfl 29 #[.string ⟨#[]⟩, .string ⟨#[]⟩, .slice none 0 0] T6.out.z size_lr rfl ON.out ?_)
      have k6 := kept_setRow wr (w.heap.size + 1) #[.string p, .string m, .slice a c d]
      refine bodyPost_ret (results_cell_row rfl _ _ (w.heap.size + 1) 29 #[.string p, .string m, .slice a c d] (0, 0) _ rfl (setRow_heap _ _ _ _ _ _ T6.out.z) Tryz.underlying29 rfl size_lr) rfl ?_
      refine ⟨.slice a c d, rfl, T6.out.l.kept_ty k6 (fun x cs q e hq => ?_), T6.out.be.trans (k6.below T6.out.be.size (fun x hx => by omega))⟩
      rw [e, T6.out.z] at hq
      simp only [Option.some.injEq, Obj.cells.injEq] at hq
      exact absurd hq.2.1 (by decide)
end Go.Proofs.YtanpneahembhbaaGreatDoor
end S12

section S13
namespace Go.Proofs.YtanpneahembhbaaGreatDoor
open Go.RowKit
def smO : Ob := ⟨⟨#[47, 97]⟩, ⟨#[120]⟩, [], 3, 0, [⟨⟨#[109, 97, 105, 110]⟩, [⟨⟨#[99, 112, 117]⟩, 500⟩], []⟩], 7⟩
def smT : ByteArray := ⟨#[79, 1, 2, 47, 97, 1, 120, 0, 3, 0, 1, 4, 109, 97, 105, 110, 1, 3, 99, 112, 117, 244, 3, 0, 7]⟩
theorem sm_stands : obS smO = true := by decide +kernel
theorem sm_bytes : outR (obE smO) = (smT, 0) := by decide +kernel
theorem sm_enc : obR smO = (smT, 0) := by unfold obR; rw [sm_stands, if_pos rfl, sm_bytes]
theorem sm_read : dcO smT = smO := by kernel_rfl
theorem sm_dec : decR smT = (smO, 0) := by unfold decR; rw [sm_read, sm_enc, if_pos rfl]
theorem sm_key : keyR 3 ⟨#[47, 97]⟩ ⟨#[120]⟩ = (⟨#[111, 0, 1, 47, 97, 0, 1, 120, 0, 1]⟩, 0) := by decide +kernel
theorem smO_fit : smO.Fit := by
  refine ⟨⟨by decide, by decide⟩, fun x hx => by simp [smO] at hx, fun x hx => ?_, by decide⟩
  simp only [smO, List.mem_cons, List.not_mem_nil, or_false] at hx
  subst hx
  refine ⟨by decide, fun y hy => ?_, fun y hy => by simp at hy⟩
  simp only [List.mem_cons, List.not_mem_nil, or_false] at hy
  subst hy
  exact ⟨by decide, by decide, by decide⟩
set_option maxHeartbeats 4000000 in
set_option maxRecDepth 100000 in
theorem small_any (w : World) : Calls Tryz.prog 20 #[] w fun e w' => ∃ vl vp, e = .returned (smO.val vl vp) ∧ ObO w.heap.size w' vl vp smO ∧ Below w.heap.size w w' := by
  obtain ⟨X0, hX0⟩ : ∃ X0, X0 = w.alloc (.cells #[.string ⟨#[]⟩, .string ⟨#[]⟩, .slice none 0 0, .int .i64 0, .int .i64 0, .slice none 0 0, .int .i64 0] 53) := ⟨_, rfl⟩
  obtain ⟨b1, hb1⟩ : ∃ b1, b1 = X0.heap.size := ⟨_, rfl⟩
  obtain ⟨X1, hX1⟩ : ∃ X1, X1 = X0.alloc (.cells #[.string ⟨#[99, 112, 117]⟩, .int .i64 500] 37) := ⟨_, rfl⟩
  obtain ⟨b2, hb2⟩ : ∃ b2, b2 = X1.heap.size := ⟨_, rfl⟩
  obtain ⟨X2, hX2⟩ : ∃ X2, X2 = X1.alloc (.cells #[.string ⟨#[109, 97, 105, 110]⟩, .slice (some ⟨b1, 0, none⟩) 1 1, .slice none 0 0] 77) := ⟨_, rfl⟩
  have s0 : X0.heap.size = w.heap.size + 1 := by rw [hX0]; simp
  have s1 : X1.heap.size = w.heap.size + 2 := by rw [hX1]; simp [s0]
  have A0 : Below w.heap.size w X0 := by rw [hX0]; exact (Below.refl _ w).alloc (Nat.le_refl _) _
  have A1 : Below X0.heap.size X0 X1 := by rw [hX1]; exact (Below.refl _ _).alloc (Nat.le_refl _) _
  have A2 : Below X1.heap.size X1 X2 := by rw [hX2]; exact (Below.refl _ _).alloc (Nat.le_refl _) _
  have OA : OwnR kAm X0.heap.size X1 (.slice (some ⟨b1, 0, none⟩) 1 1) [⟨⟨#[99, 112, 117]⟩, 500⟩] := by
    rw [hX1, hb1]; exact row_built X0 [⟨⟨#[99, 112, 117]⟩, 500⟩] okAm rfl rfl (by decide)
  have OP : OwnR kPt X1.heap.size X2 (.slice (some ⟨b2, 0, none⟩) 1 1) [⟨⟨#[109, 97, 105, 110]⟩, ⟨some ⟨b1, 0, none⟩, 1, 1⟩, ⟨none, 0, 0⟩⟩] := by
    rw [hX2, hb2]; exact row_built X1 [⟨⟨#[109, 97, 105, 110]⟩, ⟨some ⟨b1, 0, none⟩, 1, 1⟩, ⟨none, 0, 0⟩⟩] okPt rfl rfl (by show 1 ≤ maxLen; decide)
  have O : Hid (ObO (w.heap.size + 1) X2 (.slice none 0 0) (.slice (some ⟨b2, 0, none⟩) 1 1) smO) := Lib.hid ⟨_, OwnR.nil _ _ _, OP.mono (by omega), rfl, fun k hk => by
    obtain rfl : k = 0 := by simp [smO] at hk; exact hk
    exact ⟨rfl, (OA.below A2).mono (by omega), OwnR.nil _ _ _⟩⟩
  have Z : Hid (X2.heap[w.heap.size]? = some (.cells #[.string ⟨#[]⟩, .string ⟨#[]⟩, .slice none 0 0, .int .i64 0, .int .i64 0, .slice none 0 0, .int .i64 0] 53 (0, 0))) := Lib.hid (by
    rw [A2.block _ (by omega), A1.block _ (by omega), hX0, heap_alloc_new])
  have BW : Hid (Below w.heap.size w X2) := Lib.hid ((A0.trans (A1.mono A0.size)).trans (A2.mono (A0.trans (A1.mono A0.size)).size))
  have ON : Hid ((#[.string ⟨#[47, 97]⟩, .string ⟨#[120]⟩, .slice none 0 0, .int .i64 3, .int .i64 0, .slice (some ⟨b2, 0, none⟩) 1 1, .int .i64 7] : Array Value).all (·.oneCell') = true) := Lib.hid (by simp [Value.oneCell'])
  have h0 := hX0.symm
  have h1 := hX1.symm
  have h2 := hX2.symm
  have h3 := hb1.symm
  have h4 := hb2.symm
  clear hX0 hX1 hX2 hb1 hb2 s0 s1 A0 A1 A2 OA OP
  go_enter Tryz.func20, Tryz.ntmps20
  go_wp2_with (refine wpList_store_row rfl 53 (.tmp 0) (.tmp 5) rfl w.heap.size #[.string ⟨#[47, 97]⟩, .string ⟨#[120]⟩, .slice none 0 0, .int .i64 3, .int .i64 0, .slice (some ⟨b2, 0, none⟩) 1 1, .int .i64 7] rfl rfl 53 #[.string ⟨#[]⟩, .string ⟨#[]⟩, .slice none 0 0, .int .i64 0, .int .i64 0, .slice none 0 0, .int .i64 0] Z.out size_obj rfl ON.out ?_)
  have hk := kept_setRow X2 w.heap.size #[.string ⟨#[47, 97]⟩, .string ⟨#[120]⟩, .slice none 0 0, .int .i64 3, .int .i64 0, .slice (some ⟨b2, 0, none⟩) 1 1, .int .i64 7]
  refine bodyPost_ret (results_cell_row rfl _ _ w.heap.size 53 #[.string ⟨#[47, 97]⟩, .string ⟨#[120]⟩, .slice none 0 0, .int .i64 3, .int .i64 0, .slice (some ⟨b2, 0, none⟩) 1 1, .int .i64 7] (0, 0) _ rfl (setRow_heap _ _ _ _ _ _ Z.out) Tryz.underlying53 rfl size_obj) rfl ?_
  exact ⟨_, _, rfl, (O.out.kept hk (fun k e => by omega)).mono (Nat.le_succ _), BW.out.trans (hk.below BW.out.size (fun x hx => by omega))⟩
end Go.Proofs.YtanpneahembhbaaGreatDoor
end S13

section S14
namespace Go.Proofs.YtanpneahembhbaaGreatDoor
open Go.RowKit
open Go.Sort (grow)
set_option maxHeartbeats 8000000 in
set_option maxRecDepth 100000 in
theorem sameObject_yes (o : Ob) (vl vp vl' vp' : Value) (w : World) (ho : ObV w vl vp o) (ho' : ObV w vl' vp' o) :
    Calls Tryz.prog 23 #[o.val vl vp, o.val vl' vp'] w fun e w' => e = .returned (.bool true) ∧ Below w.heap.size w w' := by
  have U := Lib.hid ho
  have U' := Lib.hid ho'
  obtain ⟨la, lc, rfl, hlc, hlm⟩ := ho.l.len
  obtain ⟨pa, pc, rfl, hpc, hpm⟩ := ho.p.len
  obtain ⟨la', lc', rfl, hlc', hlm'⟩ := ho'.l.len
  obtain ⟨pa', pc', rfl, hpc', hpm'⟩ := ho'.p.len
  unfold maxLen at hlm hpm hlm' hpm'
  obtain ⟨op, on, ols, opr, odl, ops, ov⟩ := o
  simp only at hlc hpc hlc' hpc' U U'
  obtain ⟨ln, hln⟩ : ∃ ln, ln = ols.length := ⟨_, rfl⟩
  obtain ⟨pn, hpn⟩ : ∃ pn, pn = ops.length := ⟨_, rfl⟩
  unfold Ob.val
  simp only
  rw [← hln] at hlc hlc' U U' ⊢
  rw [← hpn] at hpc hpc' U U' ⊢
  have HN := Lib.hid (And.intro hln hpn)
  clear ho ho' hln hpn
  obtain ⟨X1, hX1⟩ : ∃ X1, X1 = w.alloc (.cells #[.string op, .string on, .slice la ln lc, .int .i64 opr, .int .i64 odl, .slice pa pn pc, .int .i64 ov] 53) := ⟨_, rfl⟩
  obtain ⟨bB, hbB⟩ : ∃ bB, bB = X1.heap.size := ⟨_, rfl⟩
  obtain ⟨X2, hX2⟩ : ∃ X2, X2 = X1.alloc (.cells #[.string op, .string on, .slice la' ln lc', .int .i64 opr, .int .i64 odl, .slice pa' pn pc', .int .i64 ov] 53) := ⟨_, rfl⟩
  have A1 : Below w.heap.size w X1 := by rw [hX1]; exact (Below.refl _ w).alloc (Nat.le_refl _) _
  have A2 : Below X1.heap.size X1 X2 := by rw [hX2]; exact (Below.refl _ _).alloc (Nat.le_refl _) _
  have AX := Lib.hid (A1.trans (A2.mono A1.size))
  have CA : Hid (∀ i y, #[Value.string op, .string on, .slice la ln lc, .int .i64 opr, .int .i64 odl, .slice pa pn pc, .int .i64 ov][i]? = some y → X2.cell? ⟨w.heap.size, i, none⟩ = some y) := Lib.hid fun i y h => by
    have q : X1.cell? ⟨w.heap.size, i, none⟩ = some y := by rw [hX1, World.cell?_alloc_new]; exact h
    exact (A2.cell (block_lt_of_cell q)).trans q
  have CB : Hid (∀ i y, #[Value.string op, .string on, .slice la' ln lc', .int .i64 opr, .int .i64 odl, .slice pa' pn pc', .int .i64 ov][i]? = some y → X2.cell? ⟨bB, i, none⟩ = some y) := Lib.hid fun i y h => by
    rw [hX2, hbB, World.cell?_alloc_new]; exact h
  have hX1' := hX1.symm
  have hX2' := hX2.symm
  have hbB' := hbB.symm
  clear hX1 hX2 A1 A2 hbB
  have k0 := CA.out 0 _ rfl
  have k1 := CA.out 1 _ rfl
  have k2 := CA.out 2 _ rfl
  have k3 := CA.out 3 _ rfl
  have k4 := CA.out 4 _ rfl
  have k5 := CA.out 5 _ rfl
  have k6 := CA.out 6 _ rfl
  have m0 := CB.out 0 _ rfl
  have m1 := CB.out 1 _ rfl
  have m2 := CB.out 2 _ rfl
  have m3 := CB.out 3 _ rfl
  have m4 := CB.out 4 _ rfl
  have m5 := CB.out 5 _ rfl
  have m6 := CB.out 6 _ rfl
  have g0 : (op.toList == op.toList) = true := by simp
  have g1 : (on.toList == on.toList) = true := by simp
  go_enter Tryz.func23, Tryz.ntmps23
  go_wp2_with fail
  clear k0 k1 k2 k3 k4 k5 k6 m0 m1 m2 m3 m4 m5 m6 hX1' hX2' hbB' g0 g1
  go_loopg [5] ln (fun g si wr => ∃ (k : Nat), k ≤ ln ∧ g = ln - k ∧ si = .int .i64 k ∧ Below X2.heap.size X2 wr)
  case atStart => exact ⟨0, Nat.zero_le _, rfl, rfl, Below.refl _ _⟩
  case round =>
    obtain ⟨k, hk, hg, rfl, hb⟩ := hrel
    have R : Aside (gk = ln - k ∧ Below X2.heap.size X2 wr) := ⟨hg, hb⟩
    have k2 := (hb.cell (block_lt_of_cell (CA.out 2 _ rfl))).trans (CA.out 2 _ rfl)
    have m2 := (hb.cell (block_lt_of_cell (CB.out 2 _ rfl))).trans (CB.out 2 _ rfl)
    have FW : Hid (Below w.heap.size w wr) := Lib.hid (AX.out.trans (hb.mono AX.out.size))
    clear hg hb
    by_cases hlt : k < ln
    · have hlt' : (k : Int) < (ln : Int) := by omega
      obtain ⟨b, off, rfl, pc0⟩ := (U.out.l.below FW.out).at k (by rw [← HN.out.1]; exact hlt)
      obtain ⟨b', off', rfl, pc1⟩ := (U'.out.l.below FW.out).at k (by rw [← HN.out.1]; exact hlt)
      simp only at pc0 pc1
      obtain ⟨⟨xk, xv⟩, hx⟩ : ∃ x, x = ols.getD k kLb.z := ⟨_, rfl⟩
      rw [← hx] at pc0 pc1
      have p0 : wr.cell? ⟨b, off + k * 2, none⟩ = some (.string xk) := pc0 0 _ rfl
      have p1 : wr.cell? ⟨b, off + k * 2 + 1, none⟩ = some (.string xv) := pc0 1 _ rfl
      have q0 : wr.cell? ⟨b', off' + k * 2, none⟩ = some (.string xk) := pc1 0 _ rfl
      have q1 : wr.cell? ⟨b', off' + k * 2 + 1, none⟩ = some (.string xv) := pc1 1 _ rfl
      have r0 := reg p0
      have r1 := reg p1
      have s0 := reg q0
      have s1 := reg q1
      have t0 := reg k2
      have t1 := reg m2
      have g0 : (xk.toList == xk.toList) = true := by simp
      have g1 : (xv.toList == xv.toList) = true := by simp
      have xB : Hid (∀ (dq : Nat) (os : Array Obj), Below wr.heap.size wr (grow (redrawn wr dq) os)) := Lib.hid fun dq os => below_regrown wr dq os
      clear hx pc0 pc1 p0 p1 q0 q1
      go_wp2_with fail
      refine wp_region_quiet_below (by kernel_rfl) (by kernel_rfl) ?_
      repeat (go_big_quiet_step (fail))
      refine wpQuiet_nil ?_
      intro _ hw'
      obtain ⟨⟨dq, osq⟩, hw''⟩ := hw'
      subst hw''
      have xx := Lib.hid (R.out.2.trans ((xB.out dq osq).mono R.out.2.size))
      clear r0 r1 s0 s1 t0 t1 xB k2 m2
      obtain ⟨W, hW⟩ : ∃ W, W = grow (redrawn wr dq) osq := ⟨_, rfl⟩
      rw [← hW] at xx ⊢
      clear hW
      go_wp2_with fail
      go_roundg (ln - (k + 1))
      case measure => have := R.out.1; omega
      case rel => exact ⟨k + 1, by omega, rfl, by go_num, xx.out⟩
    · have R1 : Aside (Below X2.heap.size X2 wr) := R.out.2
      go_wp2_with fail
      clear k2 m2 FW R
      go_loopg [6] pn (fun g si wr => ∃ (k : Nat), k ≤ pn ∧ g = pn - k ∧ si = .int .i64 k ∧ Below X2.heap.size X2 wr)
      case atStart => exact ⟨0, Nat.zero_le _, rfl, rfl, R1.out⟩
      case round =>
        clear R1
        obtain ⟨k, hk, hg, rfl, hb⟩ := hrel
        have R : Aside (gk = pn - k ∧ Below X2.heap.size X2 wr) := ⟨hg, hb⟩
        have k5 := (hb.cell (block_lt_of_cell (CA.out 5 _ rfl))).trans (CA.out 5 _ rfl)
        have m5 := (hb.cell (block_lt_of_cell (CB.out 5 _ rfl))).trans (CB.out 5 _ rfl)
        have FW : Hid (Below w.heap.size w wr) := Lib.hid (AX.out.trans (hb.mono AX.out.size))
        clear hg hb
        by_cases hlt : k < pn
        · have hlt' : (k : Int) < (pn : Int) := by omega
          obtain ⟨b, off, ra, rb, rfl, p0, p1, p2, ha, hb1⟩ := (U.out.p.below FW.out).at k (by rw [← HN.out.2]; exact hlt)
          obtain ⟨b', off', ra', rb', rfl, q0, q1, q2, ha', hb1'⟩ := (U'.out.p.below FW.out).at k (by rw [← HN.out.2]; exact hlt)
          simp only at p0 p1 p2 ha hb1 q0 q1 q2 ha' hb1'
          obtain ⟨⟨xn, xr, xl⟩, hx⟩ : ∃ x, x = ops.getD k ⟨⟨#[]⟩, [], []⟩ := ⟨_, rfl⟩
          rw [← hx] at p0 q0 ha hb1 ha' hb1'
          obtain ⟨ra1, ra2, ra3⟩ := ra
          obtain ⟨rb1, rb2, rb3⟩ := rb
          obtain ⟨sa1, sa2, sa3⟩ := ra'
          obtain ⟨sb1, sb2, sb3⟩ := rb'
          unfold Sl.v at p1 p2 q1 q2 ha hb1 ha' hb1'
          simp only at p0 p1 p2 q0 q1 q2 ha hb1 ha' hb1'
          have r0 := reg p0
          have r1 := reg p1
          have r2 := reg p2
          have s0 := reg q0
          have s1 := reg q1
          have s2 := reg q2
          have t0 := reg k5
          have t1 := reg m5
          have g0 : (xn.toList == xn.toList) = true := by simp
          have xB : Hid (∀ (dq : Nat) (os : Array Obj), Below wr.heap.size wr (grow (redrawn wr dq) os)) := Lib.hid fun dq os => below_regrown wr dq os
          have xQ : Hid (∀ u u' d os, (u = .slice ra1 ra2 ra3 ∧ u' = .slice sa1 sa2 sa3) ∨ (u = .slice rb1 rb2 rb3 ∧ u' = .slice sb1 sb2 sb3) → Calls Tryz.prog 40 #[u, u'] (grow (redrawn wr d) os) fun e w'' => e = .returned (.bool true) ∧ ∃ p : Regrown, w'' = grow (redrawn wr p.d) p.os) := Lib.hid fun u u' d os h => by
            rcases h with ⟨rfl, rfl⟩ | ⟨rfl, rfl⟩
            · exact Calls.regrown_of (sameAmounts_yes _ _ xr _ (ha.below (xB.out d os)) (ha'.below (xB.out d os)))
            · exact Calls.regrown_of (sameAmounts_yes _ _ xl _ (hb1.below (xB.out d os)) (hb1'.below (xB.out d os)))
          clear hx p0 p1 p2 q0 q1 q2 ha hb1 ha' hb1'
          go_wp2_with fail
          refine wp_region_quiet_below (by kernel_rfl) (by kernel_rfl) ?_
          repeat (go_big_quiet_step (refine xQ.out _ _ _ _ (by first | exact Or.inl ⟨rfl, rfl⟩ | exact Or.inr ⟨rfl, rfl⟩)))
          refine wpQuiet_nil ?_
          intro _ hw'
          obtain ⟨⟨dq, osq⟩, hw''⟩ := hw'
          subst hw''
          have xx := Lib.hid (R.out.2.trans ((xB.out dq osq).mono R.out.2.size))
          clear r0 r1 r2 s0 s1 s2 t0 t1 xB xQ k5 m5
          obtain ⟨W, hW⟩ : ∃ W, W = grow (redrawn wr dq) osq := ⟨_, rfl⟩
          rw [← hW] at xx ⊢
          clear hW
          go_wp2_with fail
          go_roundg (pn - (k + 1))
          case measure => have := R.out.1; omega
          case rel => exact ⟨k + 1, by omega, rfl, by go_num, xx.out⟩
        · go_wp2_with fail
          go_ret
          exact ⟨rfl, FW.out⟩
end Go.Proofs.YtanpneahembhbaaGreatDoor
end S14
