/-
  Reading: takeText, takeAmounts.
-/
import Derived.Test.YtehgnbgbmicheaaGreatDoorObE
namespace Go.Proofs.YtehgnbgbmicheaaGreatDoor
open Go.RowKit
/-- What is read. -/
def tkA (s : RS) : Am × RS := (⟨txt (s.text 8192).1, wrap64 ((s.text 8192).2.uint.1 : Int)⟩, (s.text 8192).2.uint.2)
def tkL (s : RS) : (ByteArray × ByteArray) × RS := ((txt (s.text 8192).1, txt ((s.text 8192).2.text 8192).1), ((s.text 8192).2.text 8192).2)
def tkN {α : Type} (f : RS → α × RS) : Nat → RS → List α × RS
  | 0, s => ([], s)
  | n + 1, s => ((f s).1 :: (tkN f n (f s).2).1, (tkN f n (f s).2).2)
def tkAms (s : RS) : List Am × RS := tkN tkA (s.count 16).1 (s.count 16).2
def tkP (s : RS) : Pt × RS := (⟨txt (s.text 8192).1, (tkAms (s.text 8192).2).1, (tkAms (tkAms (s.text 8192).2).2).1⟩, (tkAms (tkAms (s.text 8192).2).2).2)
theorem upTo_le (s : RS) (most : Nat) : (s.upTo most).1 ≤ most := by
  unfold RS.upTo
  repeat' split
  all_goals first | exact Nat.zero_le _ | omega
theorem count_le (s : RS) (most : Nat) (h : most ≤ 4096) : (s.count most).1 ≤ most := by
  unfold RS.count
  have e : min (most : Int) 4096 = (most : Int) := by omega
  rw [e]
  exact upTo_le s most
theorem text_le (s : RS) (most : Nat) : (s.text most).1.length ≤ most := by
  have := upTo_le s most
  unfold RS.text
  repeat' split
  all_goals first | exact Nat.zero_le _ | (simp only [List.length_take]; omega)
theorem tkN_step {α : Type} (f : RS → α × RS) (n k : Nat) (s : RS) (acc : List α) (all : List α × RS) (hk : k < n) (h : (acc ++ (tkN f (n - k) s).1, (tkN f (n - k) s).2) = all) :
    ((acc ++ [(f s).1]) ++ (tkN f (n - (k + 1)) (f s).2).1, (tkN f (n - (k + 1)) (f s).2).2) = all := by
  rw [← h, show n - k = (n - (k + 1)) + 1 by omega, tkN, List.append_assoc]; rfl
set_option maxHeartbeats 1000000 in
theorem takeText_any (g : Nat) (s : RS) (w : World) (H : RAt w g s) : Calls Tryz.prog 49 #[.pointer (some ⟨g, 0, none⟩)] w fun e w' => e = .returned (.string (txt (s.text 8192).1)) ∧ Read g (s.text 8192).2 w w' := by
  have RT := Lib.hid (rText_any g 8192 s w (by decide) (by decide) H)
  clear H
  go_enter Tryz.func49, Tryz.ntmps49
  go_wp2_with fail
  refine RT.out.mono ?_
  rintro e w1 ⟨rfl, hr⟩
  have R := Lib.hid hr
  clear hr RT
  go_wp2_with fail
  go_ret
  exact ⟨rfl, R.out⟩
/-- A reader, and a row that is being read. -/
structure RL {α : Type} (K : Kd α) (w : World) (g : Nat) (s : RS) (vo : Value) (acc : List α) (W : World) : Prop where
  rd : RAt W g s
  own : OwnR K w.heap.size W vo acc
  ke : Kept (fun k => k = g) w W
  lt : g < w.heap.size
theorem kept_trans1 {g : Nat} {a b c : World} (h : Kept (fun k => k = g) a b) (k : Kept (fun k => k = g) b c) : Kept (fun k => k = g) a c := h.trans k (fun _ _ q => q)
theorem RL.read {α : Type} {K : Kd α} {w W W' : World} {g : Nat} {s s' : RS} {vo : Value} {acc : List α} (h : RL K w g s vo acc W) (hr : Read g s' W W') : RL K w g s' vo acc W' :=
  ⟨hr.1, h.own.kept hr.2 (fun k hk e => by have := (h.own.lt k hk).1; have := h.lt; omega), kept_trans1 h.ke hr.2, h.lt⟩
theorem RL.calls {α : Type} {K : Kd α} {w W : World} {g : Nat} {s s' : RS} {vo : Value} {acc : List α} {f : Nat} {args : Array Value} {r : Ending} (h : RL K w g s vo acc W) (hc : Calls Tryz.prog f args W fun e w' => e = r ∧ Read g s' W w') :
    Calls Tryz.prog f args W fun e w' => e = r ∧ RL K w g s' vo acc w' :=
  hc.mono fun _ _ q => ⟨q.1, h.read q.2⟩
/-- An append onto a row of another type than bytes leaves the reader. -/
theorem RAt.appended {α : Type} {K : Kd α} {B : Nat} {w w' : World} {g : Nat} {s : RS} {v : Value} {l : List α} (H : RAt w g s) (ho : OwnR K B w v l) (hg : w.grownBy w' v.ownBlock) (hB : g < B) (ht : K.t ≠ 5) : RAt w' g s :=
  H.kept (grown_kept hg) (fun q => by have := (ho.lt g q.symm).1; omega) (fun b cs m hb q => by
    obtain ⟨cs', m', h'⟩ := ho.ty b q.symm
    rw [hb] at h'
    simp only [Option.some.injEq, Obj.cells.injEq] at h'
    exact ht h'.2.1.symm)
theorem grown_g {α : Type} {K : Kd α} {w W W' : World} {g : Nat} {v : Value} {l : List α} (ho : OwnR K w.heap.size W v l) (hg : W.grownBy W' v.ownBlock) (hk : Kept (fun k => k = g) w W) : Kept (fun k => k = g) w W' :=
  hk.trans (grown_kept hg) (fun x hx q => by have := (ho.lt x q.symm).1; omega)
set_option maxHeartbeats 4000000 in
set_option maxRecDepth 100000 in
theorem takeAmounts_any (g : Nat) (s : RS) (w : World) (H : RAt w g s) :
    Calls Tryz.prog 52 #[.pointer (some ⟨g, 0, none⟩)] w fun e w' => ∃ a n c, e = .returned (.slice a n c) ∧ OwnR kAm w.heap.size w' (.slice a n c) (tkAms s).1 ∧ RAt w' g (tkAms s).2 ∧ Kept (fun k => k = g) w w' := by
  have R0 : Aside (RL kAm w g s (.slice none 0 0) [] w) := ⟨H, OwnR.nil _ _ _, Kept.refl _ _, H.lt⟩
  clear H
  go_enter Tryz.func52, Tryz.ntmps52
  go_wp2_with fail
  refine (R0.out.calls (rCount_any g 16 s w (by decide) R0.out.rd)).mono ?_
  rintro e w1 ⟨rfl, hl⟩
  obtain ⟨n, hn⟩ : ∃ n : Nat, n = (s.count 16).1 := ⟨_, rfl⟩
  have hn2 : n ≤ 16 := by rw [hn]; exact count_le s 16 (by decide)
  have L1 : Aside (RL kAm w g (s.count 16).2 (.slice none 0 0) [] w1 ∧ tkN tkA n (s.count 16).2 = tkAms s) := ⟨hl, by rw [hn]; rfl⟩
  rw [← hn]
  clear hl R0 hn
  go_wp2_with fail
  go_loopg [3, 6] n (fun gg so si wr => ∃ (k : Nat) (s2 : RS) (acc : List Am) (a : Option Addr) (m c : Nat), k ≤ n ∧ gg = n - k ∧ si = .int .i64 k ∧ so = .slice a m c ∧ acc.length = k ∧ (acc ++ (tkN tkA (n - k) s2).1, (tkN tkA (n - k) s2).2) = tkAms s ∧ RL kAm w g s2 (.slice a m c) acc wr)
  case atStart => exact ⟨0, _, [], none, 0, 0, Nat.zero_le _, rfl, rfl, rfl, rfl, L1.out.2, L1.out.1⟩
  case round =>
    clear L1
    obtain ⟨k, s2, acc, a, m, c, hk, hg, rfl, rfl, hacc, hrd, hl⟩ := hrel
    have R : Aside (gk = n - k ∧ acc.length = k ∧ (acc ++ (tkN tkA (n - k) s2).1, (tkN tkA (n - k) s2).2) = tkAms s) := ⟨hg, hacc, hrd⟩
    have L0 : Aside (RL kAm w g s2 (.slice a m c) acc wr) := hl
    clear hg hrd hl hacc
    by_cases hlt : k < n
    · have hlt' : (k : Int) < (n : Int) := by omega
      have RD : Aside (((acc ++ [(tkA s2).1]) ++ (tkN tkA (n - (k + 1)) (tkA s2).2).1, (tkN tkA (n - (k + 1)) (tkA s2).2).2) = tkAms s) := tkN_step tkA n k s2 acc _ hlt R.out.2.2
      go_wp2_with fail
      refine (L0.out.calls (takeText_any g _ wr L0.out.rd)).mono ?_
      rintro e w2 ⟨rfl, hl⟩
      have L1 : Aside (RL kAm w g (s2.text 8192).2 (.slice a m c) acc w2) := hl
      clear hl L0
      go_wp2_with fail
      refine (L1.out.calls (rUint_any g _ w2 L1.out.rd)).mono ?_
      rintro e w3 ⟨rfl, hl⟩
      have hu := uint_lt (s2.text 8192).2
      obtain ⟨X, hX⟩ : ∃ X, X = txt (s2.text 8192).1 := ⟨_, rfl⟩
      obtain ⟨U, hU⟩ : ∃ U : Nat, U = (s2.text 8192).2.uint.1 := ⟨_, rfl⟩
      rw [← hU] at hu
      rw [← hX, ← hU]
      have EX : Aside ((tkA s2).1 = ⟨X, wrap64 (U : Int)⟩) := by show _ = _; rw [hX, hU]; rfl
      have L2 : Aside (RL kAm w g (tkA s2).2 (.slice a m c) acc w3) := hl
      have O : Hid (OwnR kAm w.heap.size w3 (.slice a m c) acc) := Lib.hid L2.out.own
      have S : Hid (w.heap.size ≤ w3.heap.size) := Lib.hid L2.out.ke.size
      have LN : Hid (acc.length < 100000000) := Lib.hid (by have := R.out.2.1; omega)
      clear hl L1 hX hU
      go_wp2_with (at_builtin; refine app_row okAm (gg := w3.heap.size) rfl _ _ rfl rfl O.out S.out ⟨X, wrap64 (U : Int)⟩ ?hgg rfl rfl LN.out ?_)
      case hgg => simp
      intro v' w' h1 h2
      obtain ⟨a', c', rfl⟩ := h1.slice
      have A : Aside (RL kAm w g (tkA s2).2 (.slice a' (acc ++ [(tkA s2).1]).length c') (acc ++ [(tkA s2).1]) w') := by
        rw [EX.out]
        exact ⟨L2.out.rd.appended O.out h2 L2.out.lt (by decide), h1, grown_g O.out h2 L2.out.ke, L2.out.lt⟩
      rw [EX.out] at A
      clear h1 h2 O S LN L2
      go_wp2_with fail
      go_roundg (n - (k + 1))
      case measure => have := R.out.1; omega
      case rel =>
        exact ⟨k + 1, _, _, a', _, c', by omega, rfl, by go_num, rfl, by have := R.out.2.1; simp; omega, RD.out, by rw [EX.out]; exact A.out⟩
    · have E : Aside (acc = (tkAms s).1 ∧ s2 = (tkAms s).2) := by
        have := R.out.2.2
        rw [show n - k = 0 by omega, tkN, List.append_nil] at this
        exact ⟨by rw [← this], by rw [← this]⟩
      go_wp2_with fail
      go_ret
      exact ⟨a, m, c, rfl, by rw [← E.out.1]; exact L0.out.own, by rw [← E.out.2]; exact L0.out.rd, L0.out.ke⟩
end Go.Proofs.YtehgnbgbmicheaaGreatDoor
