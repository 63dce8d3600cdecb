/-
  read, readList: of every text below 2^32 bytes.
-/
import Derived.Test.YtjlpcklcnabldaaDoorLSelT
import Derived.Test.YtjlpcklcnabldaaDoorLReadK
namespace Go.Proofs.YtjlpcklcnabldaaDoor.L
open Go.RowKit
/-- What readList and read answer. -/
def ReadR (B : Nat) (w' : World) (r : Option T3) (e : Ending) : Prop :=
  match r with
  | none => e = .returned (.tuple #[.agg #[.string ⟨#[]⟩, .int .i64 0, .slice none 0 0], .bool false])
  | some x => ∃ y : Trm, e = .returned (.tuple #[.agg y.cells.toArray, .bool true]) ∧ t3 y = x ∧ OwnS B w' y.vals y.ts ∧ ∀ t ∈ y.ts, t.size ≤ maxLen
theorem spl9_len (c : UInt8) (s : ByteArray) : (Lib.splitB ⟨#[c]⟩ 0 (min 9 (s.size + 1) - 1) s).map (·.data.toList) = spl9 c s.data.toList := by
  rw [Lib.splitB_data]
  unfold spl9
  have : s.data.toList.length = s.size := by simp
  rw [this]
theorem mem_jn (c : UInt8) (xs : List (List UInt8)) (x : List UInt8) (h : x ∈ xs) : x.length ≤ (jn c xs).length := by
  induction xs with
  | nil => simp at h
  | cons y r ih =>
    cases r with
    | nil =>
      simp only [List.mem_singleton] at h
      subst h
      exact Nat.le_refl _
    | cons z r =>
      rw [jn, List.length_append, List.length_cons]
      rw [List.mem_cons] at h
      rcases h with rfl | h
      · omega
      · have := ih h
        omega
/-- Pieces as SplitN lays them. -/
def spls (c : UInt8) (s : ByteArray) : List ByteArray := Lib.splitB ⟨#[c]⟩ 0 (min 9 (s.size + 1) - 1) s
theorem spls_data (c : UInt8) (s : ByteArray) : (spls c s).map (·.data.toList) = spl9 c s.data.toList := spl9_len c s
theorem spls_small (c : UInt8) (s : ByteArray) : ∀ t ∈ spls c s, t.size ≤ s.size := by
  intro t ht
  have h := mem_jn c (spl9 c s.data.toList) t.data.toList (by rw [← spls_data]; exact List.mem_map_of_mem ht)
  rw [jn_spl9] at h
  simpa using h
theorem spls_le (c : UInt8) (s : ByteArray) : (spls c s).length ≤ min 9 (s.size + 1) := by
  have := Lib.splitB_length_le ⟨#[c]⟩ 0 (min 9 (s.size + 1) - 1) s
  unfold spls
  omega
theorem spls_ne (c : UInt8) (s : ByteArray) : spls c s ≠ [] := by
  intro h
  have := spls_data c s
  rw [h] at this
  exact spl_ne c _ _ this.symm
theorem splitN_any (c : UInt8) (s : ByteArray) (w : World) (hm : HasM w) (hs : s.size < 4294967281) :
    Calls Tryd.prog 20 #[.string s, .string ⟨#[c]⟩, .int .i64 9] w fun e w' => ∃ cap, e = .returned (.slice (some ⟨w.heap.size, 0, none⟩) (spls c s).length cap) ∧ (spls c s).length ≤ cap ∧ cap ≤ 9 ∧ OwnS w.heap.size w' (.slice (some ⟨w.heap.size, 0, none⟩) (spls c s).length cap) (spls c s) ∧ Below w.heap.size w w' := by
  obtain ⟨m, hm⟩ := hm
  refine (Tryd.strings_SplitN s ⟨#[c]⟩ 9 m w hs hm (by show 1 ≤ 1; exact Nat.le_refl _) (by decide) (by decide)).mono ?_
  rintro e w' ⟨rfl, rfl⟩
  have hl := spls_le c s
  refine ⟨min 9 (s.size + 1), rfl, hl, by omega, ?_, (Below.refl _ w).alloc (Nat.le_refl _) _⟩
  refine ⟨by simp [cellsS], .inr ⟨w.heap.size, min 9 (s.size + 1), Lib.cellsOf (spls c s) (min 9 (s.size + 1)), rfl, Nat.le_refl _, Array.getElem?_push_size, hl, by unfold maxLen; omega, by rw [Lib.cellsOf_size hl, Nat.mul_one], ?_⟩⟩
  unfold Lib.cellsOf cellsS
  rw [Nat.mul_one]
  simp
theorem OwnS.mono {B B' : Nat} {w : World} {v : Value} {ts : List ByteArray} (h : OwnS B w v ts) (hb : B' ≤ B) : OwnS B' w v ts := by
  obtain ⟨h1, h | ⟨g, cap, cur, hv, hB, hr⟩⟩ := h
  · exact ⟨h1, .inl h⟩
  · exact ⟨h1, .inr ⟨g, cap, cur, hv, Nat.le_trans hb hB, hr⟩⟩
theorem OwnS.set_other {B : Nat} {w : World} {v : Value} {ts : List ByteArray} (h : OwnS B w v ts) {p : Addr} (hp : p.block < B) (u : Value) : OwnS B (w.setCell p u) v ts := by
  obtain ⟨h1, h | ⟨g, cap, cur, hv, hB, hg, hr⟩⟩ := h
  · exact ⟨h1, .inl h⟩
  · refine ⟨h1, .inr ⟨g, cap, cur, hv, hB, ?_, hr⟩⟩
    have : p.block ≠ g := by omega
    simp [World.setCell, Array.getElem?_modify, this, hg]
theorem OwnS.shape {B : Nat} {w : World} {v : Value} {ts : List ByteArray} (h : OwnS B w v ts) : ∃ a cap, v = .slice a ts.length cap ∧ ts.length ≤ cap ∧ cap ≤ maxLen := h.strs.len
set_option maxHeartbeats 4000000 in
theorem readList_any (key list : ByteArray) (how : Int) (w : World) (hm : HasM w) (hs : list.size < 4294967281) :
    Calls Tryd.prog 31 #[.string key, .int .i64 how, .string list] w fun e w' => ReadR w.heap.size w' (rl3 key.data.toList how list.data.toList) e ∧ Below w.heap.size w w' := by
  have H := Lib.hid hm
  clear hm
  obtain ⟨ins, hi⟩ : ∃ s : ByteArray, s = bys (Lib.trimSuffix list.data.toList [41]) := ⟨_, rfl⟩
  have id : ins.data.toList = Lib.trimSuffix list.data.toList [41] := by rw [hi, data_bys]
  have isz : ins.size < 4294967281 := by
    have h1 : ins.data.toList.length ≤ list.data.toList.length := by
      rw [id]
      unfold Lib.trimSuffix
      split
      · rw [List.length_take]; omega
      · exact Nat.le_refl _
    have h2 : ins.data.toList.length = ins.size := by simp
    have h3 : list.data.toList.length = list.size := by simp
    omega
  have CS : Hid (∀ W, Calls Tryd.prog 43 #[.string list, .string ⟨#[41]⟩] W fun e w' => e = .returned (.tuple #[.string ins, .bool (Lib.hasSuffix list.data.toList [41])]) ∧ w' = W) := Lib.hid fun W => by
    rw [hi]
    exact Tryd.strings_CutSuffix list ⟨#[41]⟩ W (by omega)
  have SN : Hid (∀ W, HasM W → Calls Tryd.prog 20 #[.string ins, .string ⟨#[32]⟩, .int .i64 9] W fun e w' => ∃ cap, e = .returned (.slice (some ⟨W.heap.size, 0, none⟩) (spls 32 ins).length cap) ∧ (spls 32 ins).length ≤ cap ∧ cap ≤ 9 ∧ OwnS W.heap.size w' (.slice (some ⟨W.heap.size, 0, none⟩) (spls 32 ins).length cap) (spls 32 ins) ∧ Below W.heap.size W w') := Lib.hid fun W h => splitN_any 32 ins W h isz
  have SD : Hid ((spls 32 ins).map (·.data.toList) = spl9 32 (Lib.trimSuffix list.data.toList [41]) ∧ ∀ t ∈ spls 32 ins, t.size ≤ maxLen) := Lib.hid ⟨by rw [spls_data, id], fun t ht => by
    have := spls_small 32 ins t ht
    unfold maxLen; omega⟩
  obtain ⟨ts, hts⟩ : ∃ ts, ts = spls 32 ins := ⟨_, rfl⟩
  rw [← hts] at SN SD
  have LN : Hid ((spl9 32 (Lib.trimSuffix list.data.toList [41])).length = ts.length) := Lib.hid (by rw [← SD.out.1, List.length_map])
  clear hts hi id isz hs
  go_enter Tryd.func31, Tryd.ntmps31
  go_wp2_with fail
  refine (CS.out _).mono ?_
  rintro e w1 ⟨rfl, rfl⟩
  have A1 := Lib.hid ((Below.refl _ w).alloc (Nat.le_refl _) (.cells #[.string ⟨#[]⟩, .int .i64 0, .slice none 0 0] 36))
  have HM := Lib.hid (H.out.below A1.out)
  go_wp2_with fail
  refine (SN.out _ HM.out).mono ?_
  rintro e w2 ⟨cap, rfl, hl, hc, own, hb⟩
  have O2 := Lib.hid own
  have B2 := Lib.hid (A1.out.trans (hb.mono A1.out.size))
  have k0 : w2.cell? ⟨w.heap.size, 0, none⟩ = some (.string ⟨#[]⟩) := (hb.cell (p := ⟨w.heap.size, 0, none⟩) (by simp)).trans (by go_simp)
  have k1 : w2.cell? ⟨w.heap.size, 1, none⟩ = some (.int .i64 0) := (hb.cell (p := ⟨w.heap.size, 1, none⟩) (by simp)).trans (by go_simp)
  have k2 : w2.cell? ⟨w.heap.size, 2, none⟩ = some (.slice none 0 0) := (hb.cell (p := ⟨w.heap.size, 2, none⟩) (by simp)).trans (by go_simp)
  have f0 : w2.frozen? ⟨w.heap.size, 0, none⟩ = false := (hb.frozen (p := ⟨w.heap.size, 0, none⟩) (by simp)).trans (by go_simp)
  have f1 : w2.frozen? ⟨w.heap.size, 1, none⟩ = false := (hb.frozen (p := ⟨w.heap.size, 1, none⟩) (by simp)).trans (by go_simp)
  have f2 : w2.frozen? ⟨w.heap.size, 2, none⟩ = false := (hb.frozen (p := ⟨w.heap.size, 2, none⟩) (by simp)).trans (by go_simp)
  rw [World.size_alloc] at O2 ⊢
  clear hb own A1 HM CS SN
  have lt9 : ts.length ≤ 9 := by omega
  have X0 := Lib.hid (And.intro k0 (And.intro k1 (And.intro k2 (And.intro f0 (And.intro f1 f2)))))
  cases hsf : Lib.hasSuffix list.data.toList [41] with
  | false =>
    have hr : Hid (rl3 key.data.toList how list.data.toList = none) := Lib.hid (by unfold rl3; rw [if_neg (by rw [hsf]; simp)])
    go_wp2_with fail
    refine bodyPost_ret (v := .tuple #[.agg #[.string ⟨#[]⟩, .int .i64 0, .slice none 0 0], .bool false]) ?_ rfl ?_
    · rw [results_cell_tmp rfl]
      go_simp
    · rw [hr.out]
      exact ⟨rfl, ((B2.out.setCell (p := ⟨w.heap.size, 0, none⟩) (Nat.le_refl _) _).setCell (p := ⟨w.heap.size, 1, none⟩) (Nat.le_refl _) _).setCell (p := ⟨w.heap.size, 2, none⟩) (Nat.le_refl _) _⟩
  | true =>
    by_cases h2 : 2 ≤ ts.length
    · have g2 : decide ((ts.length : Int) < 2) = false := decide_eq_false (by omega)
      have hr : Hid (rl3 key.data.toList how list.data.toList = some ⟨key.data.toList, how, spl9 32 (Lib.trimSuffix list.data.toList [41])⟩) := Lib.hid (by unfold rl3; rw [if_pos ⟨hsf, by rw [LN.out]; exact h2⟩])
      go_wp2_with fail
      refine bodyPost_ret (v := .tuple #[.agg #[.string key, .int .i64 how, .slice (some ⟨w.heap.size + 1, 0, none⟩) ts.length cap], .bool true]) ?_ rfl ?_
      · rw [results_cell_tmp rfl]
        go_simp
      · rw [hr.out]
        refine ⟨⟨⟨key, how, .slice (some ⟨w.heap.size + 1, 0, none⟩) ts.length cap, ts⟩, rfl, ?_, ?_, SD.out.2⟩, ?_⟩
        · unfold t3
          simp only [SD.out.1]
        · exact (((O2.out.set_other (p := ⟨w.heap.size, 0, none⟩) (Nat.lt_succ_self _) _).set_other (p := ⟨w.heap.size, 1, none⟩) (Nat.lt_succ_self _) _).set_other (p := ⟨w.heap.size, 2, none⟩) (Nat.lt_succ_self _) _).mono (Nat.le_succ _)
        · exact ((B2.out.setCell (p := ⟨w.heap.size, 0, none⟩) (Nat.le_refl _) _).setCell (p := ⟨w.heap.size, 1, none⟩) (Nat.le_refl _) _).setCell (p := ⟨w.heap.size, 2, none⟩) (Nat.le_refl _) _
    · have g2 : decide ((ts.length : Int) < 2) = true := decide_eq_true (by omega)
      have hr : Hid (rl3 key.data.toList how list.data.toList = none) := Lib.hid (by unfold rl3; rw [if_neg (by rw [LN.out]; omega)])
      go_wp2_with fail
      refine bodyPost_ret (v := .tuple #[.agg #[.string ⟨#[]⟩, .int .i64 0, .slice none 0 0], .bool false]) ?_ rfl ?_
      · rw [results_cell_tmp rfl]
        go_simp
      · rw [hr.out]
        exact ⟨rfl, ((B2.out.setCell (p := ⟨w.heap.size, 0, none⟩) (Nat.le_refl _) _).setCell (p := ⟨w.heap.size, 1, none⟩) (Nat.le_refl _) _).setCell (p := ⟨w.heap.size, 2, none⟩) (Nat.le_refl _) _⟩
theorem cut_le (s p : List UInt8) : (Lib.cut s p).1.length ≤ s.length ∧ (Lib.cut s p).2.1.length ≤ s.length := by
  unfold Lib.cut
  split
  · simp only [List.length_take, List.length_drop]
    omega
  · simp
theorem cut_any (s p : ByteArray) (w : World) (hm : HasM w) (hs : s.size < 4294967281) :
    Calls Tryd.prog 30 #[.string s, .string p] w fun e w' => e = .returned (.tuple #[.string (bys (Lib.cut s.data.toList p.data.toList).1), .string (bys (Lib.cut s.data.toList p.data.toList).2.1), .bool (Lib.cut s.data.toList p.data.toList).2.2]) ∧ Below w.heap.size w w' := by
  obtain ⟨m, hm⟩ := hm
  refine (Tryd.strings_Cut s p m w hs hm).mono ?_
  rintro e w' ⟨rfl, n, rfl⟩
  exact ⟨rfl, below_drawn w n⟩
/-- Three cells that hold no term yet. -/
def Zero3 (w : World) (b : Nat) : Prop := (w.cell? ⟨b, 0, none⟩ = some (.string ⟨#[]⟩) ∧ w.cell? ⟨b, 1, none⟩ = some (.int .i64 0) ∧ w.cell? ⟨b, 2, none⟩ = some (.slice none 0 0)) ∧ (w.frozen? ⟨b, 0, none⟩ = false ∧ w.frozen? ⟨b, 1, none⟩ = false ∧ w.frozen? ⟨b, 2, none⟩ = false)
theorem Zero3.below {w w' : World} {b : Nat} (h : Zero3 w b) (hb : Below w.heap.size w w') : Zero3 w' b := by
  have l := block_lt_of_cell h.1.1
  exact ⟨⟨(hb.cell (p := ⟨b, 0, none⟩) l).trans h.1.1, (hb.cell (p := ⟨b, 1, none⟩) l).trans h.1.2.1, (hb.cell (p := ⟨b, 2, none⟩) l).trans h.1.2.2⟩, (hb.frozen (p := ⟨b, 0, none⟩) l).trans h.2.1, (hb.frozen (p := ⟨b, 1, none⟩) l).trans h.2.2.1, (hb.frozen (p := ⟨b, 2, none⟩) l).trans h.2.2.2⟩
theorem zero3_new (w : World) : Zero3 (w.alloc (.cells #[.string ⟨#[]⟩, .int .i64 0, .slice none 0 0] 36)) w.heap.size := by
  refine ⟨⟨?_, ?_, ?_⟩, ?_, ?_, ?_⟩ <;> go_simp
theorem below_three {B : Nat} {a w : World} (h : Below B a w) {b : Nat} (hb : B ≤ b) (x y z : Value) : Below B a (((w.setCell ⟨b, 0, none⟩ x).setCell ⟨b, 1, none⟩ y).setCell ⟨b, 2, none⟩ z) :=
  ((h.setCell (p := ⟨b, 0, none⟩) hb _).setCell (p := ⟨b, 1, none⟩) hb _).setCell (p := ⟨b, 2, none⟩) hb _
theorem own_three {B : Nat} {w : World} {v : Value} {ts : List ByteArray} (h : OwnS B w v ts) {b : Nat} (hb : b < B) (x y z : Value) : OwnS B (((w.setCell ⟨b, 0, none⟩ x).setCell ⟨b, 1, none⟩ y).setCell ⟨b, 2, none⟩ z) v ts :=
  ((h.set_other (p := ⟨b, 0, none⟩) hb _).set_other (p := ⟨b, 1, none⟩) hb _).set_other (p := ⟨b, 2, none⟩) hb _
set_option maxHeartbeats 8000000 in
set_option maxRecDepth 100000 in
theorem read_any (s : ByteArray) (w : World) (hm : HasM w) (hs : s.size < 4294967281) :
    Calls Tryd.prog 21 #[.string s] w fun e w' => ReadR w.heap.size w' (rd3 s.data.toList) e ∧ Below w.heap.size w w' := by
  have H := Lib.hid hm
  have CP : Hid (∀ W, Calls Tryd.prog 16 #[.string s, .string ⟨#[33]⟩] W fun e w' => e = .returned (.tuple #[.string (bys (Lib.trimPrefix s.data.toList [33])), .bool (Lib.hasPrefix s.data.toList [33])]) ∧ w' = W) := Lib.hid fun W => Tryd.strings_CutPrefix s ⟨#[33]⟩ W
  have CU : Hid (∀ (p : ByteArray) W, HasM W → Calls Tryd.prog 30 #[.string s, .string p] W fun e w' => e = .returned (.tuple #[.string (bys (Lib.cut s.data.toList p.data.toList).1), .string (bys (Lib.cut s.data.toList p.data.toList).2.1), .bool (Lib.cut s.data.toList p.data.toList).2.2]) ∧ Below W.heap.size W w') := Lib.hid fun p W h => cut_any s p W h hs
  have RL : Hid (∀ (p : List UInt8) (how : Int) W, HasM W → Calls Tryd.prog 31 #[.string (bys (Lib.cut s.data.toList p).1), .int .i64 how, .string (bys (Lib.cut s.data.toList p).2.1)] W fun e w' => ReadR W.heap.size w' (rl3 (Lib.cut s.data.toList p).1 how (Lib.cut s.data.toList p).2.1) e ∧ Below W.heap.size W w') := Lib.hid fun p how W h => by
    have hl := (cut_le s.data.toList p).2
    have hz : s.data.toList.length = s.size := by simp
    have := readList_any (bys (Lib.cut s.data.toList p).1) (bys (Lib.cut s.data.toList p).2.1) how W h (by rw [bys_size]; omega)
    rw [data_bys, data_bys] at this
    exact this
  obtain ⟨c1, e1⟩ : ∃ c, c = Lib.cut s.data.toList WI := ⟨_, rfl⟩
  obtain ⟨c2, e2⟩ : ∃ c, c = Lib.cut s.data.toList WO := ⟨_, rfl⟩
  obtain ⟨c3, e3⟩ : ∃ c, c = Lib.cut s.data.toList [33, 61] := ⟨_, rfl⟩
  obtain ⟨c4, e4⟩ : ∃ c, c = Lib.cut s.data.toList [61] := ⟨_, rfl⟩
  have D1 := Lib.hid (CU.out ⟨#[32, 105, 110, 32, 40]⟩)
  have D2 := Lib.hid (CU.out ⟨#[32, 110, 111, 116, 105, 110, 32, 40]⟩)
  have D3 := Lib.hid (CU.out ⟨#[33, 61]⟩)
  have D4 := Lib.hid (CU.out ⟨#[61]⟩)
  have L1 := Lib.hid (RL.out WI 0)
  have L2 := Lib.hid (RL.out WO 1)
  have RD : Hid (rd3 s.data.toList = if Lib.hasPrefix s.data.toList [33] = true then some ⟨Lib.trimPrefix s.data.toList [33], 3, []⟩ else if c1.2.2 = true then rl3 c1.1 0 c1.2.1 else if c2.2.2 = true then rl3 c2.1 1 c2.2.1 else if c3.2.2 = true then some ⟨c3.1, 1, [c3.2.1]⟩ else if c4.2.2 = true then some ⟨c4.1, 0, [c4.2.1]⟩ else some ⟨s.data.toList, 2, []⟩) := Lib.hid (by unfold rd3; rw [← e1, ← e2, ← e3, ← e4])
  have SZ : Hid (c3.2.1.length ≤ s.size ∧ c4.2.1.length ≤ s.size) := Lib.hid (by
    have h3 := (cut_le s.data.toList [33, 61]).2
    have h4 := (cut_le s.data.toList [61]).2
    have hz : s.data.toList.length = s.size := by simp
    rw [e3, e4]
    omega)
  rw [show (⟨#[32, 105, 110, 32, 40]⟩ : ByteArray).data.toList = WI from rfl, ← e1] at D1
  rw [show (⟨#[32, 110, 111, 116, 105, 110, 32, 40]⟩ : ByteArray).data.toList = WO from rfl, ← e2] at D2
  rw [show (⟨#[33, 61]⟩ : ByteArray).data.toList = [33, 61] from rfl, ← e3] at D3
  rw [show (⟨#[61]⟩ : ByteArray).data.toList = [61] from rfl, ← e4] at D4
  rw [← e1] at L1
  rw [← e2] at L2
  obtain ⟨a1, b1, t1⟩ := c1
  obtain ⟨a2, b2, t2⟩ := c2
  obtain ⟨a3, b3, t3'⟩ := c3
  obtain ⟨a4, b4, t4⟩ := c4
  simp only at D1 D2 D3 D4 L1 L2 RD SZ
  have S63 := Lib.hid hs
  clear e1 e2 e3 e4 CU RL hs hm
  have A1 := Lib.hid ((Below.refl _ w).alloc (Nat.le_refl _) (.cells #[.string ⟨#[]⟩, .int .i64 0, .slice none 0 0] 36))
  have Z1 := Lib.hid (zero3_new w)
  go_enter Tryd.func21, Tryd.ntmps21
  go_wp2_with fail
  refine (CP.out _).mono ?_
  rintro e w1 ⟨rfl, rfl⟩
  cases hp : Lib.hasPrefix s.data.toList [33] with
  | true =>
    rw [hp, if_pos rfl] at RD
    obtain ⟨u, hu⟩ : ∃ u, u = Lib.trimPrefix s.data.toList [33] := ⟨_, rfl⟩
    rw [← hu] at RD ⊢
    clear hu D1 D2 D3 D4 L1 L2 CP
    go_wp2_with fail
    refine bodyPost_ret (v := .tuple #[.agg #[.string (bys u), .int .i64 3, .slice none 0 0], .bool true]) ?_ rfl ?_
    · rw [results_cell_tmp rfl]
      go_simp
    · rw [RD.out]
      exact ⟨⟨⟨bys u, 3, .slice none 0 0, []⟩, rfl, by unfold t3; simp [data_bys], World.ownsRow_nil _ _ _ _, by simp⟩, (Below.refl _ w).alloc (Nat.le_refl _) _⟩
  | false =>
    rw [hp, if_neg (by simp)] at RD
    obtain ⟨W1, hW1⟩ : ∃ W, W = w.alloc (.cells #[.string ⟨#[]⟩, .int .i64 0, .slice none 0 0] 36) := ⟨_, rfl⟩
    rw [← hW1] at A1 Z1 ⊢
    have bW : Hid (w.heap.size < W1.heap.size) := Lib.hid (by rw [hW1]; simp)
    clear hW1 CP
    go_wp2_with fail
    refine (D1.out W1 (H.out.below A1.out)).mono ?_
    rintro e w2 ⟨rfl, hb⟩
    have A2 := Lib.hid (A1.out.trans (hb.mono A1.out.size))
    have Z2 := Lib.hid (Z1.out.below hb)
    have w2s := Lib.hid hb.size
    clear hb A1 Z1 D1
    cases t1 with
    | true =>
      rw [if_pos rfl] at RD
      have LL := Lib.hid (L1.out w2 (H.out.below A2.out))
      have bw := Lib.hid (Nat.lt_of_lt_of_le bW.out w2s.out)
      clear L1 L2 D2 D3 D4
      go_wp2_with fail
      refine LL.out.mono ?_
      rintro e w3 ⟨hr, hb⟩
      have AA := Lib.hid (A2.out.trans (hb.mono A2.out.size))
      obtain ⟨⟨k0, k1, k2⟩, f0, f1, f2⟩ := Z2.out.below hb
      clear hb LL
      cases hx : rl3 a1 0 b1 with
      | none =>
        rw [hx] at hr RD
        have he : e = _ := hr
        subst he
        clear hx
        go_wp2_with fail
        refine bodyPost_ret (v := .tuple #[.agg #[.string ⟨#[]⟩, .int .i64 0, .slice none 0 0], .bool false]) ?_ rfl ?_
        · rw [results_cell_tmp rfl]
          go_simp
        · rw [RD.out]
          exact ⟨rfl, below_three AA.out (Nat.le_refl _) _ _ _⟩
      | some x =>
        rw [hx] at hr RD
        obtain ⟨y, rfl, hy, own, hsz⟩ := hr
        obtain ⟨key, how, vals, ts⟩ := y
        obtain ⟨av, cv, ev, _, _⟩ := own.shape
        simp only at ev
        subst ev
        have O := Lib.hid own
        have Y := Lib.hid (And.intro hy hsz)
        unfold Trm.cells
        obtain ⟨m, hm⟩ : ∃ m, m = ts.length := ⟨_, rfl⟩
        rw [← hm] at O Y ⊢
        clear hx own hy hsz hm
        go_wp2_with fail
        refine bodyPost_ret (v := .tuple #[.agg #[.string key, .int .i64 how, .slice av m cv], .bool true]) ?_ rfl ?_
        · rw [results_cell_tmp rfl]
          go_simp
        · rw [RD.out]
          exact ⟨⟨⟨key, how, .slice av m cv, ts⟩, rfl, Y.out.1, (own_three O.out bw.out _ _ _).mono (Nat.le_of_lt bw.out), Y.out.2⟩, below_three AA.out (Nat.le_refl _) _ _ _⟩
    | false =>
      rw [if_neg (by simp)] at RD
      go_wp2_with fail
      refine (D2.out w2 (H.out.below A2.out)).mono ?_
      rintro e w3 ⟨rfl, hb⟩
      have A3 := Lib.hid (A2.out.trans (hb.mono A2.out.size))
      have Z3 := Lib.hid (Z2.out.below hb)
      have w3s := Lib.hid (Nat.le_trans w2s.out hb.size)
      clear hb A2 Z2 D2
      cases t2 with
      | true =>
        rw [if_pos rfl] at RD
        have LL := Lib.hid (L2.out w3 (H.out.below A3.out))
        have bw := Lib.hid (Nat.lt_of_lt_of_le bW.out w3s.out)
        clear L1 L2 D3 D4
        go_wp2_with fail
        refine LL.out.mono ?_
        rintro e w4 ⟨hr, hb⟩
        have AA := Lib.hid (A3.out.trans (hb.mono A3.out.size))
        obtain ⟨⟨k0, k1, k2⟩, f0, f1, f2⟩ := Z3.out.below hb
        clear hb LL
        cases hx : rl3 a2 1 b2 with
        | none =>
          rw [hx] at hr RD
          have he : e = _ := hr
          subst he
          clear hx
          go_wp2_with fail
          refine bodyPost_ret (v := .tuple #[.agg #[.string ⟨#[]⟩, .int .i64 0, .slice none 0 0], .bool false]) ?_ rfl ?_
          · rw [results_cell_tmp rfl]
            go_simp
          · rw [RD.out]
            exact ⟨rfl, below_three AA.out (Nat.le_refl _) _ _ _⟩
        | some x =>
          rw [hx] at hr RD
          obtain ⟨y, rfl, hy, own, hsz⟩ := hr
          obtain ⟨key, how, vals, ts⟩ := y
          obtain ⟨av, cv, ev, _, _⟩ := own.shape
          simp only at ev
          subst ev
          have O := Lib.hid own
          have Y := Lib.hid (And.intro hy hsz)
          unfold Trm.cells
          obtain ⟨m, hm⟩ : ∃ m, m = ts.length := ⟨_, rfl⟩
          rw [← hm] at O Y ⊢
          clear hx own hy hsz hm
          go_wp2_with fail
          refine bodyPost_ret (v := .tuple #[.agg #[.string key, .int .i64 how, .slice av m cv], .bool true]) ?_ rfl ?_
          · rw [results_cell_tmp rfl]
            go_simp
          · rw [RD.out]
            exact ⟨⟨⟨key, how, .slice av m cv, ts⟩, rfl, Y.out.1, (own_three O.out bw.out _ _ _).mono (Nat.le_of_lt bw.out), Y.out.2⟩, below_three AA.out (Nat.le_refl _) _ _ _⟩
      | false =>
        rw [if_neg (by simp)] at RD
        go_wp2_with fail
        refine (D3.out w3 (H.out.below A3.out)).mono ?_
        rintro e w4 ⟨rfl, hb⟩
        have A4 := Lib.hid (A3.out.trans (hb.mono A3.out.size))
        have Z4 := Lib.hid (Z3.out.below hb)
        have w4s := Lib.hid (Nat.le_trans w3s.out hb.size)
        clear hb A3 Z3 D3
        cases t3' with
        | true =>
          rw [if_pos rfl] at RD
          obtain ⟨X, hX⟩ : ∃ X, X = w4.alloc (.cells #[.string (bys b3)] 9) := ⟨_, rfl⟩
          have bx := Lib.hid (Nat.lt_of_lt_of_le bW.out w4s.out)
          have AX : Hid (Below w4.heap.size w4 X) := Lib.hid (by rw [hX]; exact (Below.refl _ w4).alloc (Nat.le_refl _) _)
          have OX : Hid (OwnS w4.heap.size X (.slice (some ⟨w4.heap.size, 0, none⟩) 1 1) [bys b3]) := Lib.hid (by
            rw [hX]
            exact ⟨rfl, .inr ⟨w4.heap.size, 1, #[.string (bys b3)], rfl, Nat.le_refl _, Array.getElem?_push_size, Nat.le_refl _, by decide, rfl, rfl⟩⟩)
          have AA := Lib.hid (A4.out.trans (AX.out.mono A4.out.size))
          obtain ⟨⟨k0, k1, k2⟩, f0, f1, f2⟩ := Z4.out.below AX.out
          have hX' := hX.symm
          clear hX L1 L2 D4
          go_wp2_with fail
          refine bodyPost_ret (v := .tuple #[.agg #[.string (bys a3), .int .i64 1, .slice (some ⟨w4.heap.size, 0, none⟩) 1 1], .bool true]) ?_ rfl ?_
          · rw [results_cell_tmp rfl]
            go_simp
          · rw [RD.out]
            exact ⟨⟨⟨bys a3, 1, .slice (some ⟨w4.heap.size, 0, none⟩) 1 1, [bys b3]⟩, rfl, by unfold t3; simp [data_bys], (own_three OX.out bx.out _ _ _).mono (Nat.le_of_lt bx.out), by
              intro t ht
              simp only [List.mem_singleton] at ht
              subst ht
              rw [bys_size]
              have h1 := SZ.out
              have h2 := S63.out
              unfold maxLen
              omega⟩, below_three AA.out (Nat.le_refl _) _ _ _⟩
        | false =>
          rw [if_neg (by simp)] at RD
          go_wp2_with fail
          refine (D4.out w4 (H.out.below A4.out)).mono ?_
          rintro e w5 ⟨rfl, hb⟩
          have A5 := Lib.hid (A4.out.trans (hb.mono A4.out.size))
          have Z5 := Lib.hid (Z4.out.below hb)
          have w5s := Lib.hid (Nat.le_trans w4s.out hb.size)
          clear hb A4 Z4 D4
          cases t4 with
          | true =>
            rw [if_pos rfl] at RD
            obtain ⟨X, hX⟩ : ∃ X, X = w5.alloc (.cells #[.string (bys b4)] 9) := ⟨_, rfl⟩
            have bx := Lib.hid (Nat.lt_of_lt_of_le bW.out w5s.out)
            have AX : Hid (Below w5.heap.size w5 X) := Lib.hid (by rw [hX]; exact (Below.refl _ w5).alloc (Nat.le_refl _) _)
            have OX : Hid (OwnS w5.heap.size X (.slice (some ⟨w5.heap.size, 0, none⟩) 1 1) [bys b4]) := Lib.hid (by
              rw [hX]
              exact ⟨rfl, .inr ⟨w5.heap.size, 1, #[.string (bys b4)], rfl, Nat.le_refl _, Array.getElem?_push_size, Nat.le_refl _, by decide, rfl, rfl⟩⟩)
            have AA := Lib.hid (A5.out.trans (AX.out.mono A5.out.size))
            obtain ⟨⟨k0, k1, k2⟩, f0, f1, f2⟩ := Z5.out.below AX.out
            have hX' := hX.symm
            clear hX L1 L2
            go_wp2_with fail
            refine bodyPost_ret (v := .tuple #[.agg #[.string (bys a4), .int .i64 0, .slice (some ⟨w5.heap.size, 0, none⟩) 1 1], .bool true]) ?_ rfl ?_
            · rw [results_cell_tmp rfl]
              go_simp
            · rw [RD.out]
              exact ⟨⟨⟨bys a4, 0, .slice (some ⟨w5.heap.size, 0, none⟩) 1 1, [bys b4]⟩, rfl, by unfold t3; simp [data_bys], (own_three OX.out bx.out _ _ _).mono (Nat.le_of_lt bx.out), by
                intro t ht
                simp only [List.mem_singleton] at ht
                subst ht
                rw [bys_size]
                have h1 := SZ.out
                have h2 := S63.out
                unfold maxLen
                omega⟩, below_three AA.out (Nat.le_refl _) _ _ _⟩
          | false =>
            rw [if_neg (by simp)] at RD
            obtain ⟨⟨k0, k1, k2⟩, f0, f1, f2⟩ := Z5.out
            clear L1 L2
            go_wp2_with fail
            refine bodyPost_ret (v := .tuple #[.agg #[.string s, .int .i64 2, .slice none 0 0], .bool true]) ?_ rfl ?_
            · rw [results_cell_tmp rfl]
              go_simp
            · rw [RD.out]
              exact ⟨⟨⟨s, 2, .slice none 0 0, []⟩, rfl, rfl, World.ownsRow_nil _ _ _ _, by simp⟩, below_three A5.out (Nat.le_refl _) _ _ _⟩
end Go.Proofs.YtjlpcklcnabldaaDoor.L
