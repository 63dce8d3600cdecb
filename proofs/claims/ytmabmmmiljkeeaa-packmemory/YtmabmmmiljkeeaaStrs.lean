/-
  TEXTS: slices that hold them; ownTexts, sameTexts, Texts, Untexts.
-/
import Derived.Test.YtmabmmmiljkeeaaHand
namespace Go.Proofs.Ytmabmmmiljkeeaa
open Go.RowKit

/-- The slice v holds the texts ts. -/
def Strs (w : World) (v : Value) (ts : List ByteArray) : Prop :=
  ∃ a cap, v = .slice a ts.length cap ∧ ts.length ≤ cap ∧ cap ≤ maxLen ∧ (∀ k, k < ts.length → ∃ b off, a = some ⟨b, off, none⟩ ∧ w.cell? ⟨b, off + k, none⟩ = some (.string (ts.getD k ⟨#[]⟩)))
theorem Strs.below {w w' : World} {v : Value} {ts : List ByteArray} (H : Strs w v ts) (hb : Below w.heap.size w w') : Strs w' v ts := by
  obtain ⟨a, cap, e, h1, h2, h3⟩ := H
  refine ⟨a, cap, e, h1, h2, fun k hk => ?_⟩
  obtain ⟨b, off, ea, hc⟩ := h3 k hk
  exact ⟨b, off, ea, by rw [hb.cell (p := ⟨b, off + k, none⟩) (block_lt_of_cell hc)]; exact hc⟩
theorem Strs.len {w : World} {v : Value} {ts : List ByteArray} (H : Strs w v ts) : ∃ a cap, v = .slice a ts.length cap ∧ ts.length ≤ cap ∧ cap ≤ maxLen := by
  obtain ⟨a, cap, h, h1, h2, _⟩ := H; exact ⟨a, cap, h, h1, h2⟩
theorem Strs.at {w : World} {a : Option Addr} {n cap : Nat} {ts : List ByteArray} (H : Strs w (.slice a n cap) ts) (k : Nat) (hk : k < ts.length) : ∃ b off, a = some ⟨b, off, none⟩ ∧ w.cell? ⟨b, off + k, none⟩ = some (.string (ts.getD k ⟨#[]⟩)) := by
  obtain ⟨a', cap', e', _, _, hc⟩ := H
  simp only [Value.slice.injEq] at e'
  obtain ⟨rfl, rfl, rfl⟩ := e'
  exact hc k hk
theorem info_str : (Try.prog.info? 9).map (fun i => (i.zero, i.size, i.bytes)) = some (some (.string ⟨#[]⟩), 1, 16) := by kernel_rfl
def cellsS (ts : List ByteArray) : List Value := ts.map .string
theorem cellsS_at (ts : List ByteArray) (k : Nat) (h : k < ts.length) : (cellsS ts)[k]? = some (.string (ts.getD k ⟨#[]⟩)) := by simp [cellsS, h]
/-- The slice v belongs to the call alone and holds the texts ts. -/
def OwnS (B : Nat) (w : World) (v : Value) (ts : List ByteArray) : Prop := w.ownsRow B 9 1 v ts.length (cellsS ts)
theorem OwnS.strs {B : Nat} {w : World} {v : Value} {ts : List ByteArray} (H : OwnS B w v ts) : Strs w v ts := by
  obtain ⟨_, ⟨hv, hn⟩ | ⟨g, cap, cur, hv, hb, hg, hn, hm, hs, ht⟩⟩ := H
  · exact ⟨none, 0, by rw [hv, hn], by omega, by decide, fun k hk => by omega⟩
  · refine ⟨_, cap, hv, hn, hm, fun k hk => ⟨g, 0, rfl, ?_⟩⟩
    rw [cell_of_row w g _ cur _ _ hg, Nat.zero_add, ← Array.getElem?_toList]
    have h1 : (cur.toList.take (ts.length * 1))[k]? = cur.toList[k]? := by rw [List.getElem?_take_of_lt (by omega)]
    rw [← h1, ht, cellsS_at ts k hk]
theorem OwnS.below {B : Nat} {w w' : World} {v : Value} {ts : List ByteArray} (H : OwnS B w v ts) (hb : Below w.heap.size w w') : OwnS B w' v ts := by
  obtain ⟨h1, h | ⟨g, cap, cur, hv, hB, hg, hr⟩⟩ := H
  · exact ⟨h1, .inl h⟩
  · have hlt : g < w.heap.size := by
      rcases Nat.lt_or_ge g w.heap.size with h | h
      · exact h
      · rw [Array.getElem?_eq_none h] at hg; simp at hg
    exact ⟨h1, .inr ⟨g, cap, cur, hv, hB, by rw [hb.block g hlt]; exact hg, hr⟩⟩
theorem OwnS.lt {B : Nat} {w : World} {v : Value} {l : List ByteArray} (h : OwnS B w v l) : ∀ k, v.ownBlock = some k → B ≤ k ∧ k < w.heap.size := World.ownsRow.lt h
theorem app_txt {ops : Array Oper} {rest : List Oper} {o : Oper} {a : Act} {Q : Exit → Act → World → Prop} (hgd : o.guard = none) (s y : Operand)
    (ho : o.op = .call { callee := .builtin .append, args := #[s, y], argTypes := #[22, 22] })
    {B : Nat} {w0 : World} {v : Value} {ts : List ByteArray} (hs : a.eval s = v) (hown : OwnS B w0 v ts) (hB : B ≤ w0.heap.size) (t : ByteArray)
    (hy : a.eval y = .slice (some ⟨w0.heap.size, 0, none⟩) 1 1) (hl : (ts.length + 1) * 16 ≤ 140737488355328)
    (h : ∀ v' w', OwnS B w' v' (ts ++ [t]) → w0.grownBy w' v.ownBlock → wpList Try.prog ops Q rest (a.put o.dst v') w') :
    wpList Try.prog ops Q (o :: rest) a (w0.alloc (.cells #[.string t] 9)) := by
  obtain ⟨i0, hi, hz0, hz1, hz2⟩ := info_parts info_str
  refine wpList_append_own_at _ hgd s y 22 ho B 9 i0 _ 1 16 Try.underlying22 hi hz0 hz1 hz2 rfl (by decide) v ts.length (cellsS ts) hs (World.ownsRow.alloc hown _) ⟨w0.heap.size, 0, none⟩ 1 1 [.string t] hy rfl ?_ ?_ (by unfold maxLen; omega) (by omega) (by simp; omega) ?_
  · intro j u hj
    rw [add_plain, Nat.zero_add, World.cell?_alloc_new, ← Array.getElem?_toList]; exact hj
  · intro v hv; simp only [List.mem_cons, List.not_mem_nil, or_false] at hv; rw [hv]; rfl
  · intro v' w' h1 h2 _ _
    refine h v' w' ?_ (grown_alloc h2)
    show w'.ownsRow _ _ _ _ _ _
    have e : cellsS (ts ++ [t]) = cellsS ts ++ [.string t] := by simp [cellsS]
    rw [e, List.length_append]; exact h1

set_option maxHeartbeats 1000000 in
theorem ownTexts_any (v : Value) (ts : List ByteArray) (w : World) (hv : Strs w v ts) (hl : ts.length ≤ 8796093021952) :
    Calls Try.prog 11 #[v] w fun e w' => ∃ v', e = .returned v' ∧ OwnS w.heap.size w' v' ts ∧ Below w.heap.size w w' := by
  have V : Aside (Strs w v ts) := hv
  obtain ⟨a, cap, rfl, hlc, hcm⟩ := hv.len
  unfold maxLen at hcm
  clear hv
  go_enter Try.func11, Try.ntmps11
  go_wp2_with fail
  go_loopg [3, 4] ts.length (fun g so si wr => ∃ (k : Nat) (vo : Value), k ≤ ts.length ∧ g = ts.length - k ∧ si = .int .i64 k ∧ vo = so ∧ OwnS w.heap.size wr vo (ts.take k) ∧ Below w.heap.size w wr)
  case atStart => exact ⟨0, _, Nat.zero_le _, rfl, rfl, rfl, World.ownsRow_nil _ _ _ _, Below.refl _ _⟩
  case round =>
    obtain ⟨k, vo, hk, hg, rfl, rfl, ho, hb⟩ := hrel
    have R : Aside (gk = ts.length - k ∧ Below w.heap.size w wr) := ⟨hg, hb⟩
    have O : Hid (OwnS w.heap.size wr vo (ts.take k)) := ho
    have S : Hid (w.heap.size ≤ wr.heap.size) := hb.size
    clear hg ho hb
    by_cases hlt : k < ts.length
    · obtain ⟨b, off, rfl, hcell⟩ := (V.out.below R.out.2).at k hlt
      obtain ⟨t, ht⟩ : ∃ t, t = ts.getD k ⟨#[]⟩ := ⟨_, rfl⟩
      rw [← ht] at hcell
      have C : Aside (t = ts.getD k ⟨#[]⟩) := ht
      have L : Hid (((ts.take k).length + 1) * 16 ≤ 140737488355328) := by show _ ≤ _; rw [List.length_take]; omega
      clear ht
      go_wp2_with (at_builtin; refine app_txt rfl _ _ rfl rfl O.out S.out t rfl L.out ?_)
      intro v' w' h1 h2
      have A : Aside (OwnS w.heap.size w' v' (ts.take k ++ [t]) ∧ Below w.heap.size w w') := ⟨h1, R.out.2.trans ((Below.refl _ _).grown h2 S.out (fun k hk => (O.out.lt k hk).1))⟩
      clear h1 h2 O S L
      go_wp2_with fail
      go_roundg (ts.length - (k + 1))
      case measure => have := R.out.1; omega
      case rel => exact ⟨k + 1, v', by omega, rfl, by go_num, rfl, by rw [take_one ts k ⟨#[]⟩ hlt, ← C.out]; exact A.out.1, A.out.2⟩
    · go_wp2_with fail
      go_ret
      refine ⟨_, rfl, ?_, R.out.2⟩
      have := O.out; rw [List.take_of_length_le (by omega)] at this; exact this

theorem bytes_inj {s t : ByteArray} (h : s.toList = t.toList) : s = t := by
  rw [ByteArray.toList_eq, ByteArray.toList_eq] at h
  rw [← list_txt s, h, list_txt]
set_option maxHeartbeats 2000000 in
set_option maxRecDepth 100000 in
theorem sameTexts_yes (v v' : Value) (ts : List ByteArray) (w : World) (hv : Strs w v ts) (hv' : Strs w v' ts) :
    Calls Try.prog 14 #[v, v'] w fun e w' => e = .returned (.bool true) ∧ Below w.heap.size w w' := by
  have V : Aside (Strs w v ts ∧ Strs w v' ts) := ⟨hv, hv'⟩
  obtain ⟨a, cap, rfl, hlc, hcm⟩ := hv.len
  obtain ⟨a', cap', rfl, hlc', hcm'⟩ := hv'.len
  unfold maxLen at hcm hcm'
  clear hv hv'
  go_enter Try.func14, Try.ntmps14
  go_wp2_with fail
  go_loopg [5] ts.length (fun g si wr => ∃ (k : Nat), k ≤ ts.length ∧ g = ts.length - k ∧ si = .int .i64 k ∧ Below w.heap.size w wr)
  case atStart => exact ⟨0, Nat.zero_le _, rfl, rfl, Below.refl _ _⟩
  case round =>
    obtain ⟨k, hk, hg, rfl, hb⟩ := hrel
    have R : Aside (gk = ts.length - k ∧ Below w.heap.size w wr) := ⟨hg, hb⟩
    clear hg hb
    by_cases hlt : k < ts.length
    · obtain ⟨b, off, rfl, p0⟩ := (V.out.1.below R.out.2).at k hlt
      obtain ⟨b', off', rfl, q0⟩ := (V.out.2.below R.out.2).at k hlt
      obtain ⟨t, ht⟩ : ∃ t, t = ts.getD k ⟨#[]⟩ := ⟨_, rfl⟩
      rw [← ht] at p0 q0
      clear ht
      have hlt' : (k : Int) < (ts.length : Int) := by omega
      go_wp2_with fail
      go_quiet (fail)
      go_wp2_with fail
      go_roundg (ts.length - (k + 1))
      case measure => have := R.out.1; omega
      case rel => exact ⟨k + 1, by omega, rfl, by go_num, R.out.2.trans ⟨rfl, rfl, rfl, Nat.le_refl _, fun _ _ => rfl⟩⟩
    · go_wp2_with fail
      go_ret
      exact ⟨rfl, R.out.2⟩

/-- A writer behind texts. -/
def WS.text (s : WS) (t : ByteArray) : WS := s.lay (form t.size ++ t.data.toList)
def txs (ts : List ByteArray) : WS := ts.foldl WS.text ((⟨[], 1048576, 0⟩ : WS).count ts.length)
theorem texts_dead (ts : List ByteArray) (s : WS) (h : ¬ s.e = 0) : ts.foldl WS.text s = s := by
  induction ts with
  | nil => rfl
  | cons t ts ih =>
    rw [List.foldl_cons]
    have e : s.text t = s := by unfold WS.text WS.lay; rw [if_neg h]
    rw [e]; exact ih
set_option maxHeartbeats 2000000 in
set_option maxRecDepth 100000 in
theorem texts_any (v : Value) (ts : List ByteArray) (w : World) (hv : Strs w v ts) (hs : ∀ t ∈ ts, t.size ≤ 140737488355328) :
    Calls Try.prog 10 #[v] w fun e w' => ∃ v', e = .returned (.tuple #[v', .int .i64 (txs ts).e]) ∧ Own w.heap.size w' v' (txs ts).out ∧ Below w.heap.size w w' := by
  have V : Aside (Strs w v ts ∧ ∀ t ∈ ts, t.size ≤ 140737488355328) := ⟨hv, hs⟩
  obtain ⟨a, cap, rfl, hlc, hcm⟩ := hv.len
  unfold maxLen at hcm
  clear hv hs
  go_enter Try.func10, Try.ntmps10
  go_wp2_with fail
  refine (newWriter_any 1048576 w).mono ?_
  rintro e w1 ⟨rfl, hw, _, hb⟩
  have A1 : Aside (WAt w.heap.size w1 w.heap.size (.slice none 0 0) ⟨[], 1048576, 0⟩ ∧ Below w.heap.size w w1) := ⟨hw, hb⟩
  clear hw hb
  go_wp2_with fail
  refine (wCount_any _ _ _ _ (ts.length : Int) w1 A1.out.1).mono ?_
  rintro e w2 ⟨rfl, hl⟩
  have A2 : Aside (∃ u, WAt w.heap.size w2 w.heap.size u ((⟨[], 1048576, 0⟩ : WS).count ts.length) ∧ Below w.heap.size w w2) := by
    have hB := A1.out.2.trans (hl.below A1.out.1)
    obtain ⟨u, h, _, _⟩ := hl
    exact ⟨u, h, hB⟩
  clear hl A1
  go_wp2_with fail
  obtain ⟨u2, hu2⟩ := A2.out
  have A3 : Aside (WAt w.heap.size w2 w.heap.size u2 ((⟨[], 1048576, 0⟩ : WS).count ts.length) ∧ Below w.heap.size w w2) := hu2
  clear hu2 A2
  go_loopg [14] ts.length (fun g si wr => ∃ (k : Nat) (u : Value), k ≤ ts.length ∧ g = ts.length - k ∧ si = .int .i64 k ∧ WAt w.heap.size wr w.heap.size u ((ts.take k).foldl WS.text ((⟨[], 1048576, 0⟩ : WS).count ts.length)) ∧ Below w.heap.size w wr)
  case atStart => exact ⟨0, u2, Nat.zero_le _, rfl, rfl, A3.out.1, A3.out.2⟩
  case round =>
    obtain ⟨k, u, hk, hg, rfl, hw, hb⟩ := hrel
    obtain ⟨s, hs⟩ : ∃ s, s = (ts.take k).foldl WS.text ((⟨[], 1048576, 0⟩ : WS).count ts.length) := ⟨_, rfl⟩
    rw [← hs] at hw
    have R : Aside (gk = ts.length - k ∧ WAt w.heap.size wr w.heap.size u s ∧ Below w.heap.size w wr ∧ s = (ts.take k).foldl WS.text ((⟨[], 1048576, 0⟩ : WS).count ts.length)) := ⟨hg, hw, hb, hs⟩
    have split : txs ts = (ts.drop k).foldl WS.text s := by
      unfold txs; conv => lhs; rw [← List.take_append_drop k ts, List.foldl_append]
      rw [hs, List.take_append_drop]
    have SP : Aside (txs ts = (ts.drop k).foldl WS.text s) := split
    clear hg hw hb hs split
    by_cases hlt : k < ts.length
    · obtain ⟨b, off, rfl, hcell⟩ := (V.out.1.below R.out.2.2.1).at k hlt
      obtain ⟨t, ht⟩ : ∃ t, t = ts.getD k ⟨#[]⟩ := ⟨_, rfl⟩
      rw [← ht] at hcell
      have C : Aside (t = ts.getD k ⟨#[]⟩ ∧ t.size ≤ 140737488355328) := ⟨ht, V.out.2 t (by rw [ht]; simp [List.getD, hlt])⟩
      clear ht
      go_wp2_with fail
      refine (wErr_any _ _ _ _ wr R.out.2.1).mono ?_
      rintro e wr ⟨rfl, rfl⟩
      by_cases he : s.e = 0
      · have he' : (s.e : Int) = 0 := by omega
        go_wp2_with fail
        refine (wText_any _ _ u s t wr C.out.2 R.out.2.1).mono ?_
        rintro e w3 ⟨rfl, hl⟩
        have A : Aside (∃ u', WAt w.heap.size w3 w.heap.size u' (s.text t) ∧ Below w.heap.size w w3) := by
          have hB := R.out.2.2.1.trans (hl.below R.out.2.1)
          obtain ⟨u', h, _, _⟩ := hl
          exact ⟨u', h, hB⟩
        clear hl hcell
        go_wp2_with fail
        go_roundg (ts.length - (k + 1))
        case measure => have := R.out.1; omega
        case rel =>
          obtain ⟨u', h1, h2⟩ := A.out
          refine ⟨k + 1, u', by omega, rfl, by go_num, ?_, h2⟩
          rw [take_one ts k ⟨#[]⟩ hlt, List.foldl_append, ← R.out.2.2.2, ← C.out.1]; exact h1
      · have he' : ¬ (s.e : Int) = 0 := by omega
        have E : Aside (txs ts = s) := by rw [SP.out]; exact texts_dead _ s he
        clear he
        go_wp2_with fail
        refine (wOut_any _ _ _ _ wr R.out.2.1).mono ?_
        rintro e w3 ⟨v3, rfl, ho, hb⟩
        have A : Aside (Own w.heap.size w3 v3 s.out ∧ Below w.heap.size w w3) := ⟨ho.mono R.out.2.2.1.size, R.out.2.2.1.trans (hb.mono R.out.2.2.1.size)⟩
        clear ho hb
        go_wp2_with fail
        go_ret2
        rw [E.out]
        exact ⟨v3, rfl, A.out.1, A.out.2⟩
    · have E : Aside (txs ts = s) := by rw [SP.out, List.drop_eq_nil_of_le (by omega)]; rfl
      go_wp2_with fail
      refine (wOut_any _ _ _ _ wr R.out.2.1).mono ?_
      rintro e w3 ⟨v3, rfl, ho, hb⟩
      have A : Aside (Own w.heap.size w3 v3 s.out ∧ Below w.heap.size w w3) := ⟨ho.mono R.out.2.2.1.size, R.out.2.2.1.trans (hb.mono R.out.2.2.1.size)⟩
      clear ho hb
      go_wp2_with fail
      go_ret2
      rw [E.out]
      exact ⟨v3, rfl, A.out.1, A.out.2⟩
end Go.Proofs.Ytmabmmmiljkeeaa
