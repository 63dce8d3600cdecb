/-
  LISTS OF TEXTS, there and back.
-/
import Derived.Test.YtmabmmmiljkeeaaUntx
import Derived.Test.YtmabmmmiljkeeaaFwd
namespace Go.Proofs.Ytmabmmmiljkeeaa
open Go.RowKit

/-- The bytes of a text. -/
def tb (t : ByteArray) : List UInt8 := form t.size ++ t.data.toList
/-- The bytes of texts, and of a list of texts. -/
def tbs (ts : List ByteArray) : List UInt8 := (ts.map tb).flatten
def tlist (ts : List ByteArray) : List UInt8 := form ts.length ++ tbs ts
theorem tbs_cons (t : ByteArray) (ts : List ByteArray) : tbs (t :: ts) = tb t ++ tbs ts := by simp [tbs]
theorem texts_ok (ts : List ByteArray) (l : List UInt8) (lim : Nat) (hl : l.length + (tbs ts).length ≤ lim) : ts.foldl WS.text ⟨l, lim, 0⟩ = ⟨l ++ tbs ts, lim, 0⟩ := by
  induction ts generalizing l with
  | nil => simp [tbs]
  | cons t ts ih =>
    rw [tbs_cons, List.length_append] at hl
    rw [List.foldl_cons]
    have e : (⟨l, lim, 0⟩ : WS).text t = ⟨l ++ tb t, lim, 0⟩ := by
      unfold WS.text WS.lay; rw [if_pos rfl, if_pos (by show l.length + (tb t).length ≤ lim; omega)]; rfl
    rw [e, ih (l ++ tb t) (by rw [List.length_append]; omega), tbs_cons, List.append_assoc]
theorem txs_ok (ts : List ByteArray) (hn : ts.length ≤ 4096) (hl : (tlist ts).length ≤ 1048576) : txs ts = ⟨tlist ts, 1048576, 0⟩ := by
  unfold tlist at hl
  rw [List.length_append] at hl
  unfold txs
  have e : (⟨[], 1048576, 0⟩ : WS).count (ts.length : Int) = ⟨form ts.length, 1048576, 0⟩ := by
    unfold WS.count
    rw [if_pos (by omega), Int.toNat_natCast]
    unfold WS.lay
    rw [if_pos rfl, if_pos (by show 0 + (form ts.length).length ≤ 1048576; omega)]; rfl
  rw [e, texts_ok ts (form ts.length) 1048576 hl]; rfl
theorem untexts_back (ts : List ByteArray) (rest : List UInt8) (h : ∀ t ∈ ts, t.size ≤ 1048576) : RS.texts ⟨tbs ts ++ rest, 0⟩ ts.length = (ts.map (fun t => t.data.toList), ⟨rest, 0⟩) := by
  induction ts with
  | nil => rfl
  | cons t ts ih =>
    have ht := h t (by simp)
    have e : RS.text ⟨tbs (t :: ts) ++ rest, 0⟩ 1048576 = (t.data.toList, ⟨tbs ts ++ rest, 0⟩) := by
      have := text_back t.data.toList (tbs ts ++ rest) 1048576 (by rw [str_size]; omega) (by rw [str_size]; omega)
      rw [str_size] at this
      rw [tbs_cons, List.append_assoc, tb, List.append_assoc]; exact this
    show ((RS.text ⟨tbs (t :: ts) ++ rest, 0⟩ 1048576).1 :: _, _) = _
    rw [e]
    show (t.data.toList :: (RS.texts ⟨tbs ts ++ rest, 0⟩ ts.length).1, (RS.texts ⟨tbs ts ++ rest, 0⟩ ts.length).2) = _
    rw [ih (fun x hx => h x (by simp [hx]))]; rfl
theorem unt_back (ts : List ByteArray) (rest : List UInt8) (hn : ts.length ≤ 4096) (h : ∀ t ∈ ts, t.size ≤ 1048576) : unt (tlist ts ++ rest) = (ts.map (fun t => t.data.toList), ⟨rest, 0⟩) := by
  unfold unt tlist
  rw [List.append_assoc, count_back ts.length (tbs ts ++ rest) 4096 hn (by omega)]
  exact untexts_back ts rest h
theorem untE_back (ts : List ByteArray) (rest : List UInt8) (hn : ts.length ≤ 4096) (h : ∀ t ∈ ts, t.size ≤ 1048576) (hl : (tlist ts).length ≤ 1048576) : (untE (tlist ts ++ rest) = 0 ↔ rest.length = 0) ∧ (rest = [] → untT (tlist ts ++ rest) = ts) := by
  have e := unt_back ts rest hn h
  have key : rest.length = 0 → untE (tlist ts ++ rest) = 0 := fun hr => by
    unfold untE
    rw [if_neg (by rw [List.length_append]; omega), e]
    unfold RS.fin
    rw [if_pos rfl, if_pos hr]
  refine ⟨⟨fun hz => ?_, key⟩, fun hr => ?_⟩
  · unfold untE at hz
    split at hz
    · omega
    · rw [e] at hz
      unfold RS.fin at hz
      rw [if_pos rfl] at hz
      split at hz
      · assumption
      · omega
  · unfold untT
    rw [if_pos (key (by rw [hr]; rfl)), e, List.map_map]
    have : (txt ∘ fun t : ByteArray => t.data.toList) = id := by funext t; simp [list_txt]
    rw [this, List.map_id]
theorem text_fwd (l : List UInt8) (h : (RS.text ⟨l, 0⟩ 1048576).2.e = 0) : l = tb (txt (RS.text ⟨l, 0⟩ 1048576).1) ++ (RS.text ⟨l, 0⟩ 1048576).2.l ∧ (txt (RS.text ⟨l, 0⟩ 1048576).1).size ≤ 1048576 := by
  have e : RS.take ⟨l, 0⟩ 4 1048576 = (⟨4, 0, 0, txt (RS.text ⟨l, 0⟩ 1048576).1⟩, (RS.text ⟨l, 0⟩ 1048576).2) := by simp [RS.take]
  have f := fwd_text l
  rw [e] at f
  rcases f with ⟨f1, _⟩ | ⟨_, _, _, _, f5, _, f7⟩
  · exact absurd h f1
  · exact ⟨f5, f7⟩
theorem text_dead (s : RS) (m : Int) (h : ¬ s.e = 0) : (s.text m).2 = s := by
  have e : s.upTo m = (0, 0, s.e) := by unfold RS.upTo; rw [if_neg h]
  unfold RS.text
  rw [e, if_neg h]
theorem texts_fwd (s : RS) (n : Nat) (h : (s.texts n).2.e = 0) : s.e = 0 ∧ s.l = tbs ((s.texts n).1.map txt) ++ (s.texts n).2.l ∧ ∀ t ∈ (s.texts n).1.map txt, t.size ≤ 1048576 := by
  induction n generalizing s with
  | zero => exact ⟨h, by simp [RS.texts, tbs], fun t ht => by simp [RS.texts] at ht⟩
  | succ n ih =>
    obtain ⟨h1, h2, h3⟩ := ih (s.text 1048576).2 h
    have hs : s.e = 0 := by
      rcases Nat.eq_zero_or_pos s.e with q | q
      · exact q
      · rw [text_dead s _ (by omega)] at h1; exact h1
    have es : s = ⟨s.l, 0⟩ := by rw [← hs]
    have f := text_fwd s.l (by rw [← es]; exact h1)
    rw [← es] at f
    refine ⟨hs, ?_, ?_⟩
    · show s.l = tbs (txt (s.text 1048576).1 :: (((s.text 1048576).2.texts n).1.map txt)) ++ ((s.text 1048576).2.texts n).2.l
      rw [tbs_cons, List.append_assoc, ← h2]; exact f.1
    · intro t ht
      rcases List.mem_cons.1 (show t ∈ txt (s.text 1048576).1 :: ((s.text 1048576).2.texts n).1.map txt from ht) with rfl | ht
      · exact f.2
      · exact h3 t ht
theorem count_fwd (l : List UInt8) (h : (RS.count ⟨l, 0⟩ 4096).2.e = 0) : l = form (RS.count ⟨l, 0⟩ 4096).1 ++ (RS.count ⟨l, 0⟩ 4096).2.l := by
  have e0 : RS.count ⟨l, 0⟩ 1048576 = RS.count ⟨l, 0⟩ 4096 := by
    unfold RS.count; rw [show min (1048576 : Int) 4096 = min (4096 : Int) 4096 by decide]
  have e : RS.take ⟨l, 0⟩ 5 1048576 = (⟨5, 0, (RS.count ⟨l, 0⟩ 4096).1, ⟨#[]⟩⟩, (RS.count ⟨l, 0⟩ 4096).2) := by simp [RS.take, e0]
  have f := fwd_count l
  rw [e] at f
  rcases f with ⟨f1, _⟩ | ⟨_, _, _, _, f5, _, _⟩
  · exact absurd h f1
  · have : (⟨5, 0, ((RS.count ⟨l, 0⟩ 4096).1 : Int), ⟨#[]⟩⟩ : V).enc = form (RS.count ⟨l, 0⟩ 4096).1 := by
      unfold V.enc; simp
    rw [this] at f5; exact f5
theorem unt_fwd (l : List UInt8) (h : untE l = 0) : l = tlist (untT l) ∧ (untT l).length ≤ 4096 ∧ l.length ≤ 1048576 ∧ ∀ t ∈ untT l, t.size ≤ 1048576 := by
  have hT : untT l = (unt l).1.map txt := by unfold untT; rw [if_pos h]
  unfold untE at h
  split at h
  · omega
  · rename_i hl
    unfold RS.fin at h
    split at h
    · rename_i he
      split at h
      · rename_i hn
        obtain ⟨c1, c2, c3⟩ := texts_fwd (RS.count ⟨l, 0⟩ 4096).2 (RS.count ⟨l, 0⟩ 4096).1 he
        have c4 := count_fwd l c1
        have hnil : (unt l).2.l = [] := List.eq_nil_of_length_eq_zero hn
        have hlen : ((unt l).1.map txt).length = (RS.count ⟨l, 0⟩ 4096).1 := by rw [List.length_map]; exact texts_len _ _
        rw [hT]
        refine ⟨?_, by rw [hlen]; exact count_le l, by omega, c3⟩
        unfold tlist
        rw [hlen]
        conv => lhs; rw [c4]
        rw [c2]
        show form _ ++ (tbs ((unt l).1.map txt) ++ (unt l).2.l) = _
        rw [hnil, List.append_nil]
      · omega
    · rename_i he; exact absurd h he
/-- The sum that the law counts. -/
def tsum (ts : List ByteArray) : Nat := 2 + (ts.map (fun t => 10 + t.size)).sum
theorem tsum_bound (ts : List ByteArray) (hn : ts.length ≤ 4096) (hs : ∀ t ∈ ts, t.size ≤ 140737488355328) (h : tsum ts ≤ 1048576) : (tlist ts).length ≤ 1048576 ∧ ∀ t ∈ ts, t.size ≤ 1048576 := by
  have key : (tbs ts).length ≤ (ts.map (fun t => 10 + t.size)).sum ∧ ∀ t ∈ ts, t.size ≤ (ts.map (fun t => 10 + t.size)).sum := by
    clear h hn
    induction ts with
    | nil => simp [tbs]
    | cons t ts ih =>
      have i := ih (fun x hx => hs x (by simp [hx]))
      have ht := hs t (by simp)
      rw [tbs_cons, List.length_append, List.map_cons, List.sum_cons]
      have hf : (tb t).length ≤ 10 + t.size := by
        unfold tb; rw [List.length_append, str_size]; have := form_ten t.size (by omega); omega
      refine ⟨by omega, fun x hx => ?_⟩
      rcases List.mem_cons.1 hx with rfl | hx
      · omega
      · have := i.2 x hx; omega
  unfold tsum at h
  refine ⟨?_, fun t ht => by have := key.2 t ht; omega⟩
  unfold tlist
  rw [List.length_append]
  have := form_le 2 ts.length (by decide) (by omega)
  omega
theorem tsum_take (ts : List ByteArray) (k : Nat) (h : k < ts.length) : tsum (ts.take (k + 1)) = tsum (ts.take k) + 10 + (ts.getD k ⟨#[]⟩).size := by
  unfold tsum
  rw [take_one ts k ⟨#[]⟩ h, List.map_append, List.sum_append]
  simp; omega
end Go.Proofs.Ytmabmmmiljkeeaa
