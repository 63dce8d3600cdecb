/-
  seeming, Unrecord.
-/
import Derived.Test.YtmdjicakjljmlaaSrD
import Derived.Laws.IdiomStrings
namespace Go.Proofs.Ytmdjicakjljmlaa
open Go.RowKit
/-- A text as bytes. -/
theorem conv_text (w : World) (s : ByteArray) (hs : s.size ≤ 140737488355328) : ∃ cap w', (convert 9 44 (.string s)).run Try.prog w = .ok (.slice (some ⟨w.heap.size, 0, none⟩) s.size cap) w' ∧ Below w.heap.size w w' ∧ Bytes w' (.slice (some ⟨w.heap.size, 0, none⟩) s.size cap) s.data.toList := by
  refine ⟨_, _, run_bytes_of_string w 9 44 5 s Try.underlying9 Try.underlying44 Try.underlying5, ?_, ?_⟩
  · exact ((⟨rfl, rfl, rfl, Nat.le_refl _, fun _ _ => rfl⟩ : Below w.heap.size w w.drew)).alloc (Nat.le_refl _) _
  · refine ⟨_, _, by rw [str_size], ?_, ?_, fun h => by simp at h, fun k hk => ⟨w.heap.size, 0, rfl, ?_⟩⟩
    · rw [str_size]; exact grownCap_ge w s.size 0 5
    · exact grownCap_le_maxLen w s.size 0 5 (by unfold maxLen; omega)
    · rw [Nat.zero_add]
      show (w.drew.alloc _).cell? ⟨w.drew.heap.size, k, none⟩ = _
      rw [World.cell?_alloc_mark]
      have hk' : k < s.data.size := by simpa using hk
      rw [bytesRow_at s _ k hk']
      simp only [c8, List.getD, Array.getElem?_toList, Array.getElem?_eq_getElem hk', Option.getD_some]
/-- What is read of one change. -/
def rdC (s : RS) : Ch × RS :=
  if s.bool.1 = true then (⟨txt (s.bool.2.text 120).1, ⟨#[]⟩, true⟩, (s.bool.2.text 120).2)
  else (⟨txt (s.bool.2.text 120).1, txt ((s.bool.2.text 120).2.text 8192).1, false⟩, ((s.bool.2.text 120).2.text 8192).2)
def rds : Nat → RS → List Ch
  | 0, _ => []
  | n + 1, s => (rdC s).1 :: rds n (rdC s).2
def seeU (r : List UInt8) : Nat × RS := (RS.byte ⟨r, 0⟩).2.uint
def seeC (r : List UInt8) : Nat × RS := (seeU r).2.count 4096
def seeV (r : List UInt8) : Int := wrap64 ((seeU r).1 : Int)
def seeL (r : List UInt8) : List Ch := rds (seeC r).1 (seeC r).2
theorem upTo_le (s : RS) (most : Nat) : (s.upTo most).1 ≤ most := by
  unfold RS.upTo
  repeat' split
  all_goals first | exact Nat.zero_le _ | omega
theorem count_le (s : RS) : (s.count 4096).1 ≤ 4096 := by
  unfold RS.count
  exact upTo_le s 4096
theorem text_le (s : RS) (most : Nat) : (s.text most).1.length ≤ most := by
  have := upTo_le s most
  unfold RS.text
  repeat' split
  all_goals first | exact Nat.zero_le _ | (simp only [List.length_take]; omega)
theorem rds_sz (n : Nat) (s : RS) : SzC (rds n s) := by
  induction n generalizing s with
  | zero => intro x hx; simp [rds] at hx
  | succ n ih =>
    intro x hx
    rw [rds] at hx
    rcases List.mem_cons.1 hx with rfl | hx
    · have h1 := text_le s.bool.2 120
      have h2 := text_le (s.bool.2.text 120).2 8192
      unfold rdC maxLen
      split
      · simp only [txt_size]; exact ⟨by have := h1; simp at this; omega, by show 0 ≤ _; omega⟩
      · simp only [txt_size]; exact ⟨by have := h1; simp at this; omega, by have := h2; simp at this; omega⟩
    · exact ih _ x hx
theorem OwnC.kept {B : Nat} {F : Nat → Prop} {w w' : World} {v : Value} {l : List Ch} (H : OwnC B w v l) (hk : Kept F w w') (hF : ∀ k, v.ownBlock = some k → ¬ F k) : OwnC B w' v l := by
  obtain ⟨h1, h | ⟨g, cap, cur, hv, hB, hg, hr⟩⟩ := H
  · exact ⟨h1, .inl h⟩
  · have hlt := lt_of_some hg
    subst hv
    exact ⟨h1, .inr ⟨g, cap, cur, rfl, hB, by rw [hk.block g hlt (hF g rfl)]; exact hg, hr⟩⟩
theorem OwnC.apart {B : Nat} {w : World} {v : Value} {l : List Ch} {g : Nat} {s : RS} (H : OwnC B w v l) (hr : RAt w g s) : ∀ k, v.ownBlock = some k → ¬ k = g := by
  obtain ⟨h1, ⟨hv, _⟩ | ⟨g', cap, cur, hv, hB, hg, _⟩⟩ := H
  · subst hv; intro k hk; simp [Value.ownBlock] at hk
  · subst hv
    intro k hk e
    simp only [Value.ownBlock, Option.some.injEq] at hk
    obtain ⟨u, hu, _⟩ := hr
    rw [← e, ← hk, hg] at hu
    simp at hu
theorem OwnC.not8 {B : Nat} {w : World} {v : Value} {l : List Ch} (H : OwnC B w v l) : ∀ k, v.ownBlock = some k → ∀ cs m, ¬ w.heap[k]? = some (.cells cs 5 m) := by
  obtain ⟨h1, ⟨hv, _⟩ | ⟨g', cap, cur, hv, hB, hg, _⟩⟩ := H
  · subst hv; intro k hk; simp [Value.ownBlock] at hk
  · subst hv
    intro k hk cs m hb
    simp only [Value.ownBlock, Option.some.injEq] at hk
    rw [← hk, hg] at hb
    simp at hb
/-- A reader in memory and the changes read so far. -/
structure RL (w0 : World) (g : Nat) (s : RS) (vo : Value) (acc : List Ch) (w : World) : Prop where
  rd : RAt w g s
  own : OwnC w0.heap.size w vo acc
  lo : w0.heap.size ≤ g
  be : Below w0.heap.size w0 w
/-- With a change's box beside them. -/
structure RX (w0 : World) (g b : Nat) (s : RS) (vo : Value) (acc : List Ch) (x : Ch) (w : World) : Prop where
  rl : RL w0 g s vo acc w
  bx : w.heap[b]? = some (.cells #[.string x.k, .string x.v, .bool x.g] 27 (0, 0))
  ne : ∀ k, vo.ownBlock = some k → ¬ k = b
  lo : w0.heap.size ≤ b
theorem RL.read {w0 w w' : World} {g : Nat} {s s' : RS} {vo : Value} {acc : List Ch} (h : RL w0 g s vo acc w) (hr : Read g s' w w') : RL w0 g s' vo acc w' :=
  ⟨hr.1, h.own.kept hr.2 (h.own.apart h.rd), h.lo, h.be.trans (hr.2.below h.be.size (fun x hx => by rw [hx]; exact h.lo))⟩
theorem RL.calls {w0 w : World} {g : Nat} {s s' : RS} {vo : Value} {acc : List Ch} {f : Nat} {args : Array Value} {r : Ending} (h : RL w0 g s vo acc w) (hc : Calls Try.prog f args w fun e w' => e = r ∧ Read g s' w w') :
    Calls Try.prog f args w fun e w' => e = r ∧ RL w0 g s' vo acc w' :=
  hc.mono fun _ _ q => ⟨q.1, h.read q.2⟩
theorem RX.calls {w0 w : World} {g b : Nat} {s s' : RS} {vo : Value} {acc : List Ch} {x : Ch} {f : Nat} {args : Array Value} {r : Ending} (h : RX w0 g b s vo acc x w) (hc : Calls Try.prog f args w fun e w' => e = r ∧ Read g s' w w') :
    Calls Try.prog f args w fun e w' => e = r ∧ RX w0 g b s' vo acc x w' :=
  hc.mono fun _ _ q => ⟨q.1, h.rl.read q.2, by
    have hb : ¬ b = g := fun e => by
      obtain ⟨u, hu, _⟩ := h.rl.rd
      rw [← e, h.bx] at hu; simp at hu
    rw [q.2.2.block b (lt_of_some h.bx) hb]; exact h.bx, h.ne, h.lo⟩
theorem RL.alloc {w0 w : World} {g : Nat} {s : RS} {vo : Value} {acc : List Ch} (h : RL w0 g s vo acc w) (o : Obj) : RL w0 g s vo acc (w.alloc o) := by
  have hb : Below w.heap.size w (w.alloc o) := (Below.refl _ _).alloc (Nat.le_refl _) _
  exact ⟨h.rd.below hb, h.own.below hb, h.lo, h.be.trans (hb.mono h.be.size)⟩
theorem RL.box {w0 w : World} {g : Nat} {s : RS} {vo : Value} {acc : List Ch} (h : RL w0 g s vo acc w) (x : Ch) : RX w0 g w.heap.size s vo acc x (w.alloc (.cells #[.string x.k, .string x.v, .bool x.g] 27)) := by
  refine ⟨h.alloc _, by rw [heap_alloc_new], fun k hk e => ?_, h.be.size⟩
  have := (h.own.lt k hk).2; omega
theorem RX.cells {w0 w : World} {g b : Nat} {s : RS} {vo : Value} {acc : List Ch} {x : Ch} (h : RX w0 g b s vo acc x w) : w.cell? ⟨b, 0, none⟩ = some (.string x.k) ∧ w.cell? ⟨b, 1, none⟩ = some (.string x.v) ∧ w.cell? ⟨b, 2, none⟩ = some (.bool x.g) ∧ w.frozen? ⟨b, 1, none⟩ = false := by
  refine ⟨?_, ?_, ?_, frozen_of_row w b 1 _ _ h.bx⟩
  · rw [cell_of_row w b 0 _ _ _ h.bx]; rfl
  · rw [cell_of_row w b 1 _ _ _ h.bx]; rfl
  · rw [cell_of_row w b 2 _ _ _ h.bx]; rfl
theorem RX.set {w0 w : World} {g b : Nat} {s : RS} {vo : Value} {acc : List Ch} {x : Ch} (h : RX w0 g b s vo acc x w) (t : ByteArray) : RX w0 g b s vo acc ⟨x.k, t, x.g⟩ (w.setCell ⟨b, 1, none⟩ (.string t)) := by
  have hk : Kept (fun k => k = b) w (w.setCell ⟨b, 1, none⟩ (.string t)) := kept_set _ _ _ rfl
  have hb : ¬ g = b := fun e => by
    obtain ⟨u, hu, _⟩ := h.rl.rd
    rw [e, h.bx] at hu; simp at hu
  refine ⟨⟨h.rl.rd.kept hk hb (fun b' cs m hc e => ?_), h.rl.own.kept hk h.ne, h.rl.lo, h.rl.be.trans (hk.below h.rl.be.size (fun x hx => by rw [hx]; exact h.lo))⟩, ?_, h.ne, h.lo⟩
  · rw [e, h.bx] at hc; simp at hc
  · rw [heap_setCell_same w b 1 _ _ _ h.bx]; rfl
set_option maxHeartbeats 4000000 in
set_option maxRecDepth 100000 in
theorem seeming_any (t : ByteArray) (w : World) (ht : t.size ≤ 140737488355328) :
    Calls Try.prog 12 #[.string t] w fun e w' => ∃ v', e = .returned (.tuple #[.int .i64 (seeV t.data.toList), v']) ∧ OwnC w.heap.size w' v' (seeL t.data.toList) ∧ Below w.heap.size w w' := by
  obtain ⟨cap, w1, hcv, hb1, hby⟩ := conv_text w t ht
  have C1 : Aside (Below w.heap.size w w1 ∧ Bytes w1 (.slice (some ⟨w.heap.size, 0, none⟩) t.size cap) t.data.toList) := ⟨hb1, hby⟩
  clear hb1 hby
  go_enter Try.func12, Try.ntmps12
  go_wp2_with fail
  refine (newReader_any _ t.data.toList w1 C1.out.2 (by rw [str_size]; omega)).mono ?_
  rintro e w2 ⟨g, rfl, hr, hg, hb⟩
  have L2 : Aside (RL w g ⟨t.data.toList, 0⟩ (.slice none 0 0) [] w2) := ⟨hr, World.ownsRow_nil _ _ _ _, Nat.le_trans C1.out.1.size hg, C1.out.1.trans (hb.mono C1.out.1.size)⟩
  clear hr hg hb C1 hcv
  go_wp2_with fail
  refine (L2.out.calls (rByte_any g _ w2 L2.out.rd)).mono ?_
  rintro e w3 ⟨rfl, hl⟩
  have L3 : Aside (RL w g _ (.slice none 0 0) [] w3) := hl
  clear hl L2
  go_wp2_with fail
  refine (L3.out.calls (rUint_any g _ w3 L3.out.rd)).mono ?_
  rintro e w4 ⟨rfl, hl⟩
  have L4 : Aside (RL w g (seeU t.data.toList).2 (.slice none 0 0) [] w4) := hl
  clear hl L3
  have EU : (RS.byte ⟨t.data.toList, 0⟩).2.uint.1 = (seeU t.data.toList).1 := rfl
  rw [EU]
  clear EU
  obtain ⟨U, hU⟩ : ∃ U : Nat, U = (seeU t.data.toList).1 := ⟨_, rfl⟩
  have EV : Aside (wrap64 (U : Int) = seeV t.data.toList) := by rw [hU]; rfl
  rw [← hU]
  clear hU
  go_wp2_with fail
  refine (L4.out.calls (rCount_any g 4096 _ w4 (by decide) L4.out.rd)).mono ?_
  rintro e w5 ⟨rfl, hl⟩
  have EC : (RS.count (seeU t.data.toList).2 4096).1 = (seeC t.data.toList).1 := rfl
  rw [EC]
  clear EC
  obtain ⟨n, hn⟩ : ∃ n : Nat, n = (seeC t.data.toList).1 := ⟨_, rfl⟩
  have hn2 : n ≤ 4096 := by rw [hn]; exact count_le _
  have L5 : Aside (RL w g (seeC t.data.toList).2 (.slice none 0 0) [] w5 ∧ rds n (seeC t.data.toList).2 = seeL t.data.toList) := ⟨hl, by rw [hn]; rfl⟩
  rw [← hn]
  clear hl L4 hn
  go_wp2_with fail
  go_loopg [6, 18] n (fun gg so si wr => ∃ (k : Nat) (s : RS) (acc : List Ch) (vo : Value), k ≤ n ∧ gg = n - k ∧ si = .int .i64 k ∧ vo = so ∧ acc.length = k ∧ acc ++ rds (n - k) s = seeL t.data.toList ∧ RL w g s vo acc wr)
  case atStart => exact ⟨0, _, [], _, Nat.zero_le _, rfl, rfl, rfl, rfl, L5.out.2, L5.out.1⟩
  case round =>
    clear L5
    obtain ⟨k, s, acc, vo, hk, hg, rfl, rfl, hacc, hrd, hl⟩ := hrel
    have R : Aside (gk = n - k ∧ acc.length = k ∧ acc ++ rds (n - k) s = seeL t.data.toList) := ⟨hg, hacc, hrd⟩
    have L0 : Aside (RL w g s vo acc wr) := hl
    clear hg hrd hl hacc
    by_cases hlt : k < n
    · have hlt' : (k : Int) < (n : Int) := by omega
      have RD : Aside (∀ x s', rdC s = (x, s') → (acc ++ [x]) ++ rds (n - (k + 1)) s' = seeL t.data.toList) := fun x s' q => by
        rw [← R.out.2.2, show n - k = (n - (k + 1)) + 1 by omega, rds, q, List.append_assoc]; rfl
      go_wp2_with fail
      refine (L0.out.calls (rBool_any g _ wr L0.out.rd)).mono ?_
      rintro e w2 ⟨rfl, hl⟩
      have L1 : Aside (RL w g s.bool.2 vo acc w2) := hl
      clear hl L0
      cases hb : s.bool.1 with
      | true =>
        have RD2 : Aside (rdC s = (⟨txt (s.bool.2.text 120).1, ⟨#[]⟩, true⟩, (s.bool.2.text 120).2)) := by show _ = _; unfold rdC; rw [if_pos hb]
        clear hb
        go_wp2_with fail
        refine (L1.out.calls (rText_any g 120 _ w2 (by decide) (by decide) L1.out.rd)).mono ?_
        rintro e w3 ⟨rfl, hl⟩
        obtain ⟨X, hX⟩ : ∃ X, X = txt (s.bool.2.text 120).1 := ⟨_, rfl⟩
        rw [← hX] at RD2 ⊢
        have L2 : Aside (RL w g (s.bool.2.text 120).2 vo acc (w3.alloc (.cells #[.string X, .string ⟨#[]⟩, .bool true] 27))) := RL.alloc hl _
        have O : Hid (OwnC w.heap.size (w3.alloc (.cells #[.string X, .string ⟨#[]⟩, .bool true] 27)) vo acc) := Lib.hid L2.out.own
        have S : Hid (w.heap.size ≤ (w3.alloc (.cells #[.string X, .string ⟨#[]⟩, .bool true] 27)).heap.size) := Lib.hid L2.out.be.size
        have LN : Hid (acc.length < 1000000000) := Lib.hid (by have := R.out.2.1; omega)
        clear hl L1 hX
        go_wp2_with (at_builtin; refine app_ch (gg := w3.heap.size + 1) rfl _ _ rfl rfl O.out S.out ⟨X, ⟨#[]⟩, true⟩ ?hgg rfl LN.out ?_)
        case hgg => simp
        intro v' w' h1 h2
        have A : Aside (RL w g (s.bool.2.text 120).2 v' (acc ++ [⟨X, ⟨#[]⟩, true⟩]) w') := by
          have hk := grown_kept h2
          have hne := L2.out.own.apart L2.out.rd
          exact ⟨L2.out.rd.kept hk (fun q => hne g q.symm rfl) (fun b cs m hb q => L2.out.own.not8 b q.symm cs m hb), h1, L2.out.lo, L2.out.be.trans (grown_belowC h2 O.out S.out)⟩
        clear h1 h2 O S LN L2
        go_wp2_with fail
        go_roundg (n - (k + 1))
        case measure => have := R.out.1; omega
        case rel =>
          exact ⟨k + 1, _, _, v', by omega, rfl, by go_num, rfl, by have := R.out.2.1; simp; omega, RD.out _ _ RD2.out, A.out⟩
      | false =>
        have RD2 : Aside (rdC s = (⟨txt (s.bool.2.text 120).1, txt ((s.bool.2.text 120).2.text 8192).1, false⟩, ((s.bool.2.text 120).2.text 8192).2)) := by show _ = _; unfold rdC; rw [if_neg (by rw [hb]; exact Bool.false_ne_true)]
        clear hb
        go_wp2_with fail
        refine (L1.out.calls (rText_any g 120 _ w2 (by decide) (by decide) L1.out.rd)).mono ?_
        rintro e w3 ⟨rfl, hl⟩
        obtain ⟨X, hX⟩ : ∃ X, X = txt (s.bool.2.text 120).1 := ⟨_, rfl⟩
        rw [← hX] at RD2 ⊢
        have L2 : Aside (RX w g w3.heap.size (s.bool.2.text 120).2 vo acc ⟨X, ⟨#[]⟩, false⟩ (w3.alloc (.cells #[.string X, .string ⟨#[]⟩, .bool false] 27))) := RL.box hl _
        clear hl L1 hX
        obtain ⟨c0, c1, c2, f1⟩ := L2.out.cells
        go_wp2_with fail
        refine (L2.out.calls (rText_any g 8192 _ _ (by decide) (by decide) L2.out.rl.rd)).mono ?_
        rintro e w4 ⟨rfl, hl⟩
        clear c0 c1 c2 f1
        obtain ⟨Y, hY⟩ : ∃ Y, Y = txt ((s.bool.2.text 120).2.text 8192).1 := ⟨_, rfl⟩
        rw [← hY] at RD2 ⊢
        obtain ⟨bb, hbb⟩ : ∃ bb, bb = w3.heap.size := ⟨_, rfl⟩
        rw [← hbb] at hl ⊢
        clear hY hbb L2
        obtain ⟨c0, c1, c2, f1⟩ := hl.cells
        have L3 : Aside (RX w g bb ((s.bool.2.text 120).2.text 8192).2 vo acc ⟨X, Y, false⟩ (w4.setCell ⟨bb, 1, none⟩ (.string Y))) := hl.set Y
        have O : Hid (OwnC w.heap.size (w4.setCell ⟨bb, 1, none⟩ (.string Y)) vo acc) := Lib.hid L3.out.rl.own
        have S : Hid (w.heap.size ≤ (w4.setCell ⟨bb, 1, none⟩ (.string Y)).heap.size) := Lib.hid L3.out.rl.be.size
        have LN : Hid (acc.length < 1000000000) := Lib.hid (by have := R.out.2.1; omega)
        clear hl
        go_wp2_with (at_builtin; refine app_ch (gg := w4.heap.size) rfl _ _ rfl rfl O.out S.out ⟨X, Y, false⟩ ?hgg rfl LN.out ?_)
        case hgg => simp [World.setCell]
        intro v' w' h1 h2
        have A : Aside (RL w g ((s.bool.2.text 120).2.text 8192).2 v' (acc ++ [⟨X, Y, false⟩]) w') := by
          have hk := grown_kept h2
          have hne := L3.out.rl.own.apart L3.out.rl.rd
          exact ⟨L3.out.rl.rd.kept hk (fun q => hne g q.symm rfl) (fun b cs m hb q => L3.out.rl.own.not8 b q.symm cs m hb), h1, L3.out.rl.lo, L3.out.rl.be.trans (grown_belowC h2 O.out S.out)⟩
        clear h1 h2 O S LN L3 c0 c1 c2 f1
        go_wp2_with fail
        go_roundg (n - (k + 1))
        case measure => have := R.out.1; omega
        case rel =>
          exact ⟨k + 1, _, _, v', by omega, rfl, by go_num, rfl, by have := R.out.2.1; simp; omega, RD.out _ _ RD2.out, A.out⟩
    · have E : Aside (acc = seeL t.data.toList) := by
        have := R.out.2.2
        rw [show n - k = 0 by omega, rds, List.append_nil] at this
        exact this
      go_wp2_with fail
      go_ret2
      exact ⟨vo, by rw [← EV.out]; rfl, by rw [← E.out]; exact L0.out.own, L0.out.be⟩
/-- What Unrecord tells. -/
def unOk (t : ByteArray) : Prop := (recR (seeV t.data.toList) (seeL t.data.toList)).2 = 0 ∧ (recR (seeV t.data.toList) (seeL t.data.toList)).1 = t
set_option maxHeartbeats 4000000 in
set_option maxRecDepth 100000 in
theorem unrecord_yes (t : ByteArray) (w : World) (ht : t.size ≤ 140737488355328) (hu : unOk t) :
    Calls Try.prog 7 #[.string t] w fun e w' => ∃ v', e = .returned (.tuple #[.int .i64 (seeV t.data.toList), v', .int .i64 0]) ∧ OwnC w.heap.size w' v' (seeL t.data.toList) ∧ Below w.heap.size w w' := by
  have U : Aside (unOk t) := hu
  clear hu
  go_enter Try.func7, Try.ntmps7
  go_wp2_with fail
  refine (seeming_any t w ht).mono ?_
  rintro e w1 ⟨v', rfl, ho, hb⟩
  have A : Aside (OwnC w.heap.size w1 v' (seeL t.data.toList) ∧ Below w.heap.size w w1) := ⟨ho, hb⟩
  obtain ⟨a, cap, rfl, _, _⟩ := ho.chs.len
  clear ho hb
  go_wp2_with fail
  refine (record_any _ (seeV t.data.toList) (seeL t.data.toList) w1 A.out.1.chs (rds_sz _ _)).mono ?_
  rintro e w2 ⟨rfl, hb⟩
  rw [U.out.1, U.out.2]
  have B : Aside (OwnC w.heap.size w2 (.slice a (seeL t.data.toList).length cap) (seeL t.data.toList) ∧ Below w.heap.size w w2) := ⟨A.out.1.below hb, A.out.2.trans (hb.mono A.out.2.size)⟩
  clear hb A
  have h0 : (t.toList == t.toList) = true := by rw [beq_iff_eq]
  go_wp2_with fail
  go_ret3
  exact ⟨_, rfl, B.out.1, B.out.2⟩
set_option maxHeartbeats 4000000 in
set_option maxRecDepth 100000 in
theorem unrecord_no (t : ByteArray) (w : World) (ht : t.size ≤ 140737488355328) (hu : ¬ unOk t) :
    Calls Try.prog 7 #[.string t] w fun e w' => e = .returned (.tuple #[.int .i64 0, .slice none 0 0, .int .i64 2]) ∧ Below w.heap.size w w' := by
  go_enter Try.func7, Try.ntmps7
  have U : Aside (¬ unOk t) := hu
  clear hu
  go_wp2_with fail
  refine (seeming_any t w ht).mono ?_
  rintro e w1 ⟨v', rfl, ho, hb⟩
  have A : Aside (OwnC w.heap.size w1 v' (seeL t.data.toList) ∧ Below w.heap.size w w1) := ⟨ho, hb⟩
  obtain ⟨a, cap, rfl, _, _⟩ := ho.chs.len
  clear ho hb
  go_wp2_with fail
  refine (record_any _ (seeV t.data.toList) (seeL t.data.toList) w1 A.out.1.chs (rds_sz _ _)).mono ?_
  rintro e w2 ⟨rfl, hb⟩
  obtain ⟨q, hq⟩ : ∃ q, q = recR (seeV t.data.toList) (seeL t.data.toList) := ⟨_, rfl⟩
  rw [← hq]
  have U2 : ¬ (q.2 = 0 ∧ q.1 = t) := by rw [hq]; exact U.out
  clear hq
  obtain ⟨T, E⟩ := q
  simp only at U2 ⊢
  have B : Aside (Below w.heap.size w w2) := A.out.2.trans (hb.mono A.out.2.size)
  clear hb A U
  by_cases h0 : E = 0
  · subst h0
    have hT : (T.toList == t.toList) = false := by
      rw [same_list, decide_eq_false (fun q => U2 ⟨rfl, q⟩)]
    clear U2
    go_wp2_with fail
    go_ret3
    exact ⟨rfl, B.out⟩
  · have h1 : ¬ (E : Int) = 0 := by omega
    clear U2
    go_wp2_with fail
    go_ret3
    exact ⟨rfl, B.out⟩
end Go.Proofs.Ytmdjicakjljmlaa
