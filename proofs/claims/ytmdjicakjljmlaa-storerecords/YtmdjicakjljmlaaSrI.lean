/-
  The document's Unrecord.
-/
import Derived.Test.YtmdjicakjljmlaaSrH
import Derived.Test.YtmdjicakjljmlaaRefR4
import Derived.Test.YtmdjicakjljmlaaRefR5
namespace Go.Proofs.Ytmdjicakjljmlaa
open Go.RowKit
/-- So many changes read, as long as no error is met. -/
def rrd : Nat → RS → List Ch × RS
  | 0, s => ([], s)
  | n + 1, s => if s.e = 0 then ((rdC s).1 :: (rrd n (rdC s).2).1, (rrd n (rdC s).2).2) else ([], s)
theorem rrd_stop (n : Nat) (s : RS) (h : ¬ s.e = 0) : rrd n s = ([], s) := by
  cases n with
  | zero => rfl
  | succ n => rw [rrd, if_neg h]
def refL (r : List UInt8) : List Ch × RS := rrd (seeC r).1 (seeC r).2
def refOk (t : ByteArray) : Prop :=
  t.size ≤ 32768 ∧ (RS.byte ⟨t.data.toList, 0⟩).1 = 195 ∧ (refL t.data.toList).2.fin = 0 ∧ (seeU t.data.toList).1 ≤ 1152921504606846976 ∧
    (recR ((seeU t.data.toList).1 : Int) (refL t.data.toList).1).2 = 0 ∧ (recR ((seeU t.data.toList).1 : Int) (refL t.data.toList).1).1 = t
theorem rrd_back (l : List Ch) (rest : List UInt8) (h : ∀ x ∈ l, x.good) : rrd l.length ⟨(l.flatMap Ch.ps).flatten ++ rest, 0⟩ = (l, ⟨rest, 0⟩) := by
  induction l with
  | nil => rfl
  | cons x r ih =>
    rw [List.flatMap_cons, List.flatten_append, List.append_assoc, List.length_cons, rrd, if_pos rfl, rdC_back x _ (h x (by simp)), ih (fun y hy => h y (by simp [hy]))]
theorem ref_un (t : ByteArray) (h : refOk t) : unOk t ∧ seeV t.data.toList = (seeU t.data.toList).1 ∧ seeL t.data.toList = (refL t.data.toList).1 := by
  obtain ⟨_, _, _, _, h5, h6⟩ := h
  obtain ⟨_, q1, q2, q3⟩ := rec_back _ _ t h5 h6.symm
  exact ⟨q3, q1, q2⟩
theorem un_ref (t : ByteArray) (h : unOk t) : refOk t := by
  obtain ⟨h1, h2⟩ := h
  obtain ⟨v, hv⟩ : ∃ v, v = seeV t.data.toList := ⟨_, rfl⟩
  obtain ⟨l, hl⟩ : ∃ l, l = seeL t.data.toList := ⟨_, rfl⟩
  rw [← hv, ← hl] at h1 h2
  obtain ⟨q1, q2, q3, q4, q5⟩ := rec_ok v l h1
  have e : t.data.toList = recB v.toNat l := by rw [← h2, q5, txt_list]
  have e1 : seeU (recB v.toNat l) = (v.toNat, ⟨form l.length ++ (l.flatMap Ch.ps).flatten, 0⟩) := by
    unfold seeU recB
    show RS.uint ⟨form v.toNat ++ (form l.length ++ (l.flatMap Ch.ps).flatten), 0⟩ = _
    rw [uint_back v.toNat _ (by omega)]
  have e2 : seeC (recB v.toNat l) = (l.length, ⟨(l.flatMap Ch.ps).flatten, 0⟩) := by
    unfold seeC
    rw [e1]
    show RS.count ⟨form l.length ++ (l.flatMap Ch.ps).flatten, 0⟩ 4096 = _
    rw [count_back l.length _ 4096 q2 (by omega)]
  have e3 : refL (recB v.toNat l) = (l, ⟨[], 0⟩) := by
    unfold refL
    rw [e2]
    have := rrd_back l [] q3
    rw [List.append_nil] at this
    exact this
  have e4 : RS.byte ⟨recB v.toNat l, 0⟩ = (195, ⟨form v.toNat ++ (form l.length ++ (l.flatMap Ch.ps).flatten), 0⟩) := rfl
  have e5 : ((v.toNat : Nat) : Int) = v := by omega
  refine ⟨by rw [← h2, q5, txt_size]; exact q4, ?_, ?_, ?_, ?_, ?_⟩
  · rw [e, e4]
  · rw [e, e3]; rfl
  · rw [e, e1]; show v.toNat ≤ _; omega
  · rw [e, e1, e3]
    show (recR ((v.toNat : Nat) : Int) l).2 = 0
    rw [e5]; exact h1
  · have : recR ((seeU t.data.toList).1 : Int) (refL t.data.toList).1 = recR v l := by
      rw [e, e1, e3]
      show recR ((v.toNat : Nat) : Int) l = recR v l
      rw [e5]
    rw [this]; exact h2
theorem YAt.kept8 {F : Nat → Prop} {w w' : World} {g : Nat} {v0 : Value} {b : List UInt8} {s : RS} (h : YAt w g v0 b s) (h8 : T8 w v0) (hk : Kept F w w') (hg : ¬ F g) (hF : ∀ b cs m, w.heap[b]? = some (.cells cs 5 m) → ¬ F b) : YAt w' g v0 b s := by
  have hlt := h.lt
  obtain ⟨k, h1, h2, h3⟩ := h
  refine ⟨k, by rw [hk.block g hlt hg]; exact h1, ?_, h3⟩
  obtain ⟨a, cap, e, q1, q2, q0, q3⟩ := h2
  refine ⟨a, cap, e, q1, q2, q0, fun k hk' => ?_⟩
  obtain ⟨b, off, ea, hc⟩ := q3 k hk'
  subst ea
  obtain ⟨cs, m, hb⟩ := h8 ⟨b, off, none⟩ _ _ e
  refine ⟨b, off, rfl, ?_⟩
  rw [World.cell?_of_block (w := w) (w' := w') (a := ⟨b, off + k, none⟩) (hk.block b (block_lt_of_cell hc) (hF _ _ _ hb))]; exact hc
theorem YAt.not8 {w : World} {g : Nat} {v0 : Value} {b : List UInt8} {s : RS} (h : YAt w g v0 b s) : ∀ b cs m, w.heap[b]? = some (.cells cs 5 m) → ¬ b = g := by
  rintro b cs m hb rfl
  obtain ⟨k, hg, _⟩ := h
  rw [hg] at hb
  simp at hb
theorem OwnC.apartY {B : Nat} {w : World} {v : Value} {l : List Ch} {g : Nat} {v0 : Value} {b : List UInt8} {s : RS} (H : OwnC B w v l) (hr : YAt w g v0 b s) : ∀ k, v.ownBlock = some k → ¬ k = g := by
  obtain ⟨h1, ⟨hv, _⟩ | ⟨g', cap, cur, hv, hB, hg, _⟩⟩ := H
  · subst hv; intro k hk; simp [Value.ownBlock] at hk
  · subst hv
    intro k hk e
    simp only [Value.ownBlock, Option.some.injEq] at hk
    obtain ⟨u, hu, _⟩ := hr
    rw [← e, ← hk, hg] at hu
    simp at hu
/-- The document's reader in memory and the changes read so far. -/
structure YL (w0 : World) (g : Nat) (v0 : Value) (b : List UInt8) (s : RS) (vo : Value) (acc : List Ch) (w : World) : Prop where
  rd : YAt w g v0 b s
  t8 : T8 w v0
  own : OwnC w0.heap.size w vo acc
  lo : w0.heap.size ≤ g
  be : Below w0.heap.size w0 w
structure YX (w0 : World) (g bb : Nat) (v0 : Value) (b : List UInt8) (s : RS) (vo : Value) (acc : List Ch) (x : Ch) (w : World) : Prop where
  rl : YL w0 g v0 b s vo acc w
  bx : w.heap[bb]? = some (.cells #[.string x.k, .string x.v, .bool x.g] 27 (0, 0))
  ne : ∀ k, vo.ownBlock = some k → ¬ k = bb
  lo : w0.heap.size ≤ bb
theorem YL.read {w0 w w' : World} {g : Nat} {v0 : Value} {b : List UInt8} {s s' : RS} {vo : Value} {acc : List Ch} (h : YL w0 g v0 b s vo acc w) (hr : ReadY g v0 b s' w w') : YL w0 g v0 b s' vo acc w' :=
  ⟨hr.1, h.t8.kept hr.2 h.rd.not8, h.own.kept hr.2 (h.own.apartY h.rd), h.lo, h.be.trans (hr.2.below h.be.size (fun x hx => by rw [hx]; exact h.lo))⟩
theorem YL.calls {w0 w : World} {g : Nat} {v0 : Value} {b : List UInt8} {s s' : RS} {vo : Value} {acc : List Ch} {f : Nat} {args : Array Value} {r : Ending} (h : YL w0 g v0 b s vo acc w) (hc : Calls Try.prog f args w fun e w' => e = r ∧ ReadY g v0 b s' w w') :
    Calls Try.prog f args w fun e w' => e = r ∧ YL w0 g v0 b s' vo acc w' :=
  hc.mono fun _ _ q => ⟨q.1, h.read q.2⟩
theorem YX.calls {w0 w : World} {g bb : Nat} {v0 : Value} {b : List UInt8} {s s' : RS} {vo : Value} {acc : List Ch} {x : Ch} {f : Nat} {args : Array Value} {r : Ending} (h : YX w0 g bb v0 b s vo acc x w) (hc : Calls Try.prog f args w fun e w' => e = r ∧ ReadY g v0 b s' w w') :
    Calls Try.prog f args w fun e w' => e = r ∧ YX w0 g bb v0 b s' vo acc x w' :=
  hc.mono fun _ _ q => ⟨q.1, h.rl.read q.2, by
    have hb : ¬ bb = g := fun e => by
      obtain ⟨u, hu, _⟩ := h.rl.rd
      rw [← e, h.bx] at hu; simp at hu
    rw [q.2.2.block bb (lt_of_some h.bx) hb]; exact h.bx, h.ne, h.lo⟩
theorem YL.box {w0 w : World} {g : Nat} {v0 : Value} {b : List UInt8} {s : RS} {vo : Value} {acc : List Ch} (h : YL w0 g v0 b s vo acc w) (x : Ch) : YX w0 g w.heap.size v0 b s vo acc x (w.alloc (.cells #[.string x.k, .string x.v, .bool x.g] 27)) := by
  have hb : Below w.heap.size w (w.alloc (.cells #[.string x.k, .string x.v, .bool x.g] 27)) := (Below.refl _ _).alloc (Nat.le_refl _) _
  refine ⟨⟨h.rd.below hb, h.t8.kept (Below.kept hb (fun _ => False)) (fun _ _ _ _ => id), h.own.below hb, h.lo, h.be.trans (hb.mono h.be.size)⟩, by rw [heap_alloc_new], fun k hk e => ?_, h.be.size⟩
  have := (h.own.lt k hk).2; omega
theorem YX.cells {w0 w : World} {g bb : Nat} {v0 : Value} {b : List UInt8} {s : RS} {vo : Value} {acc : List Ch} {x : Ch} (h : YX w0 g bb v0 b s vo acc x w) : w.cell? ⟨bb, 0, none⟩ = some (.string x.k) ∧ w.cell? ⟨bb, 1, none⟩ = some (.string x.v) ∧ w.cell? ⟨bb, 2, none⟩ = some (.bool x.g) ∧ w.frozen? ⟨bb, 0, none⟩ = false ∧ w.frozen? ⟨bb, 1, none⟩ = false := by
  refine ⟨?_, ?_, ?_, frozen_of_row w bb 0 _ _ h.bx, frozen_of_row w bb 1 _ _ h.bx⟩
  · rw [cell_of_row w bb 0 _ _ _ h.bx]; rfl
  · rw [cell_of_row w bb 1 _ _ _ h.bx]; rfl
  · rw [cell_of_row w bb 2 _ _ _ h.bx]; rfl
theorem YX.sets {w0 w : World} {g bb : Nat} {v0 : Value} {b : List UInt8} {s : RS} {vo : Value} {acc : List Ch} {x y : Ch} {i : Nat} {u : Value} (h : YX w0 g bb v0 b s vo acc x w)
    (hy : (w.setCell ⟨bb, i, none⟩ u).heap[bb]? = some (.cells #[.string y.k, .string y.v, .bool y.g] 27 (0, 0))) : YX w0 g bb v0 b s vo acc y (w.setCell ⟨bb, i, none⟩ u) := by
  have hk : Kept (fun k => k = bb) w (w.setCell ⟨bb, i, none⟩ u) := kept_set _ _ _ rfl
  have hb : ¬ g = bb := fun e => by
    obtain ⟨u, hu, _⟩ := h.rl.rd
    rw [e, h.bx] at hu; simp at hu
  have h8 : ∀ b' cs m, w.heap[b']? = some (.cells cs 5 m) → ¬ b' = bb := fun b' cs m hc e => by rw [e, h.bx] at hc; simp at hc
  exact ⟨⟨h.rl.rd.kept8 h.rl.t8 hk hb h8, h.rl.t8.kept hk h8, h.rl.own.kept hk h.ne, h.rl.lo, h.rl.be.trans (hk.below h.rl.be.size (fun x hx => by rw [hx]; exact h.lo))⟩, hy, h.ne, h.lo⟩
theorem YX.set0 {w0 w : World} {g bb : Nat} {v0 : Value} {b : List UInt8} {s : RS} {vo : Value} {acc : List Ch} {x : Ch} (h : YX w0 g bb v0 b s vo acc x w) (t : ByteArray) : YX w0 g bb v0 b s vo acc ⟨t, x.v, x.g⟩ (w.setCell ⟨bb, 0, none⟩ (.string t)) :=
  h.sets (by rw [heap_setCell_same w bb 0 _ _ _ h.bx]; rfl)
theorem YX.set1 {w0 w : World} {g bb : Nat} {v0 : Value} {b : List UInt8} {s : RS} {vo : Value} {acc : List Ch} {x : Ch} (h : YX w0 g bb v0 b s vo acc x w) (t : ByteArray) : YX w0 g bb v0 b s vo acc ⟨x.k, t, x.g⟩ (w.setCell ⟨bb, 1, none⟩ (.string t)) :=
  h.sets (by rw [heap_setCell_same w bb 1 _ _ _ h.bx]; rfl)
theorem YX.app {w0 w w' : World} {g bb : Nat} {v0 : Value} {b : List UInt8} {s : RS} {vo v' : Value} {acc acc' : List Ch} {x : Ch} (h : YX w0 g bb v0 b s vo acc x w) (h1 : OwnC w0.heap.size w' v' acc') (h2 : w.grownBy w' vo.ownBlock) : YL w0 g v0 b s v' acc' w' := by
  have hk := grown_kept h2
  have hne := h.rl.own.apartY h.rl.rd
  have h8 : ∀ b' cs m, w.heap[b']? = some (.cells cs 5 m) → ¬ some b' = vo.ownBlock := fun b' cs m hb q => h.rl.own.not8 b' q.symm cs m hb
  exact ⟨h.rl.rd.kept8 h.rl.t8 hk (fun q => hne g q.symm rfl) h8, h.rl.t8.kept hk h8, h1, h.rl.lo, h.rl.be.trans (grown_belowC h2 h.rl.own h.rl.be.size)⟩
/-- The answer of the document's Unrecord. -/
def UnA (t : ByteArray) (w w' : World) (e : Ending) : Prop :=
  (refOk t ∧ ∃ v', e = .returned (.tuple #[.int .i64 ((seeU t.data.toList).1 : Int), v', .int .i64 0]) ∧ OwnC w.heap.size w' v' (refL t.data.toList).1) ∨ (¬ refOk t ∧ e = .returned (.tuple #[.int .i64 0, .slice none 0 0, .int .i64 2]))
set_option maxHeartbeats 8000000 in
set_option maxRecDepth 100000 in
theorem runrecord_any (t : ByteArray) (w : World) (ht : t.size ≤ 140737488355328) :
    Calls Try.prog 10 #[.string t] w fun e w' => UnA t w w' e ∧ Below w.heap.size w w' := by
  by_cases hbig : t.size ≤ 32768
  case neg =>
    have hbig' : (t.size : Int) > 32768 := by omega
    have N : Aside (¬ refOk t) := fun h => hbig h.1
    clear hbig
    go_enter Try.func10, Try.ntmps10
    go_wp2_with fail
    go_ret3
    exact ⟨Or.inr ⟨N.out, rfl⟩, Below.refl _ _⟩
  have hbig' : ¬ (t.size : Int) > 32768 := by omega
  have HB : Aside (t.size ≤ 32768) := hbig
  clear hbig
  obtain ⟨cap, w1, hcv, hb1, hby⟩ := conv_text w t ht
  have C1 : Aside (Below w.heap.size w w1 ∧ Bytes w1 (.slice (some ⟨w.heap.size, 0, none⟩) t.size cap) t.data.toList) := ⟨hb1, hby⟩
  clear hb1 hby
  go_enter Try.func10, Try.ntmps10
  go_wp2_with fail
  refine (ynewReader_any _ t.data.toList w1 C1.out.2 (by rw [str_size]; omega)).mono ?_
  rintro e w2 ⟨rfl, ⟨v0, hy, h8⟩, hb⟩
  obtain ⟨g, hg⟩ : ∃ g, g = w1.heap.size := ⟨_, rfl⟩
  rw [← hg] at hy ⊢
  obtain ⟨bs, hbs⟩ : ∃ bs, bs = t.data.toList := ⟨_, rfl⟩
  have L2 : Aside (YL w g v0 bs ⟨t.data.toList, 0⟩ (.slice none 0 0) [] w2) := ⟨by rw [hbs]; exact hy, h8, World.ownsRow_nil _ _ _ _, by rw [hg]; exact C1.out.1.size, C1.out.1.trans (hb.mono C1.out.1.size)⟩
  clear hy h8 hg hbs hb C1 hcv
  go_wp2_with fail
  refine (L2.out.calls (yByte_any g v0 bs _ w2 L2.out.rd)).mono ?_
  rintro e w3 ⟨rfl, hl⟩
  have L3 : Aside (YL w g v0 bs _ (.slice none 0 0) [] w3) := hl
  clear hl L2
  obtain ⟨c, hc⟩ : ∃ c, c = (RS.byte ⟨t.data.toList, 0⟩).1 := ⟨_, rfl⟩
  rw [← hc]
  by_cases h195 : c = 195
  case neg =>
    have N : Aside (¬ refOk t) := fun h => h195 (by rw [hc]; exact h.2.1)
    have hne : (c8 c == 195) = false := by
      rw [beq_eq_false_iff_ne]; exact fun q => h195 (c8_inj q)
    clear hc h195
    go_wp2_with fail
    go_ret3
    exact ⟨Or.inr ⟨N.out, rfl⟩, L3.out.be⟩
  have H195 : Aside ((RS.byte ⟨t.data.toList, 0⟩).1 = 195) := by rw [← hc]; exact h195
  subst h195
  clear hc
  have hne : (c8 195 == 195) = true := by decide
  go_wp2_with fail
  refine (L3.out.calls (yUint_any g v0 bs _ w3 L3.out.rd)).mono ?_
  rintro e w4 ⟨rfl, hl⟩
  have L4 : Aside (YL w g v0 bs (seeU t.data.toList).2 (.slice none 0 0) [] w4) := hl
  clear hl L3
  have EU : (RS.byte ⟨t.data.toList, 0⟩).2.uint.1 = (seeU t.data.toList).1 := rfl
  rw [EU]
  clear EU
  obtain ⟨U, hU⟩ : ∃ U : Nat, U = (seeU t.data.toList).1 := ⟨_, rfl⟩
  have hU2 : U < 18446744073709551616 := by rw [hU]; exact uint_lt _
  have HU : Aside (U = (seeU t.data.toList).1 ∧ U < 18446744073709551616) := ⟨hU, hU2⟩
  rw [← hU]
  clear hU hU2 hne
  go_wp2_with fail
  refine (L4.out.calls (yCount_any g v0 bs 4096 _ w4 (by decide) (by decide) L4.out.rd)).mono ?_
  rintro e w5 ⟨rfl, hl⟩
  have EC : (RS.count (seeU t.data.toList).2 4096).1 = (seeC t.data.toList).1 := rfl
  rw [EC]
  clear EC
  obtain ⟨n, hn⟩ : ∃ n : Nat, n = (seeC t.data.toList).1 := ⟨_, rfl⟩
  have hn2 : n ≤ 4096 := by rw [hn]; exact count_le _
  have L5 : Aside (YL w g v0 bs (seeC t.data.toList).2 (.slice none 0 0) [] w5 ∧ rrd n (seeC t.data.toList).2 = refL t.data.toList) := ⟨hl, by rw [hn]; rfl⟩
  rw [← hn]
  clear hl L4 hn
  go_wp2_with fail
  go_loopg [8, 9] n (fun gg so si wr => ∃ (k : Nat) (s : RS) (acc : List Ch) (vo : Value), k ≤ n ∧ gg = n - k ∧ si = .int .i64 k ∧ vo = so ∧ acc.length = k ∧ (acc ++ (rrd (n - k) s).1 = (refL t.data.toList).1 ∧ (rrd (n - k) s).2 = (refL t.data.toList).2) ∧ YL w g v0 bs s vo acc wr)
  case atStart => exact ⟨0, _, [], _, Nat.zero_le _, rfl, rfl, rfl, rfl, ⟨by rw [← L5.out.2]; rfl, by rw [← L5.out.2]; rfl⟩, L5.out.1⟩
  case round =>
    clear L5
    obtain ⟨k, s, acc, vo, hk, hg, rfl, rfl, hacc, hrd, hl⟩ := hrel
    have R : Aside (gk = n - k ∧ acc.length = k ∧ (acc ++ (rrd (n - k) s).1 = (refL t.data.toList).1 ∧ (rrd (n - k) s).2 = (refL t.data.toList).2)) := ⟨hg, hacc, hrd⟩
    have L0 : Aside (YL w g v0 bs s vo acc wr) := hl
    clear hg hrd hl hacc
    have EXIT : Aside ((n - k = 0 ∨ ¬ s.e = 0) → acc = (refL t.data.toList).1 ∧ s = (refL t.data.toList).2) := fun q => by
      have e : rrd (n - k) s = ([], s) := by
        rcases q with q | q
        · rw [q]; rfl
        · exact rrd_stop _ _ q
      have := R.out.2.2
      rw [e, List.append_nil] at this
      exact this
    -- LOOP
    by_cases hlt : k < n
    · have hlt' : (k : Int) < (n : Int) := by omega
      go_wp2_with fail
      refine (yErr_any g v0 bs s wr L0.out.rd).mono ?_
      rintro e wr2 ⟨rfl, hww⟩
      obtain rfl := hww.symm
      by_cases he : s.e = 0
      case neg =>
        have he' : ¬ (s.e : Int) = 0 := by omega
        have FIN : Aside (acc = (refL t.data.toList).1 ∧ s = (refL t.data.toList).2) := EXIT.out (Or.inr he)
        obtain ⟨ee, hee⟩ : ∃ ee, ee = s.e := ⟨_, rfl⟩
        rw [← hee] at he' ⊢
        clear he hee EXIT R
        go_wp2_with fail
        refine (L0.out.calls (yEnd_any g v0 bs _ wr L0.out.rd)).mono ?_
        rintro e w6 ⟨rfl, hl⟩
        have L6 : Aside (Below w.heap.size w w6 ∧ OwnC w.heap.size w6 vo acc) := ⟨hl.be, hl.own⟩
        obtain ⟨F, hF⟩ : ∃ F, F = s.fin := ⟨_, rfl⟩
        have HF : Aside (F = (refL t.data.toList).2.fin) := by rw [hF, ← FIN.out.2]; rfl
        rw [← hF]
        clear hl L0 hF
        by_cases hf : F = 0
        case neg =>
          have N : Aside (¬ refOk t) := fun h => hf (by rw [HF.out]; exact h.2.2.1)
          have hf' : ¬ (F : Int) = 0 := by omega
          clear hf
          go_wp2_with fail
          go_ret3
          exact ⟨Or.inr ⟨N.out, rfl⟩, L6.out.1⟩
        have HF0 : Aside ((refL t.data.toList).2.fin = 0) := by rw [← HF.out]; exact hf
        subst hf
        clear HF
        by_cases hu : U ≤ 1152921504606846976
        case neg =>
          have N : Aside (¬ refOk t) := fun h => hu (by rw [HU.out.1]; exact h.2.2.2.1)
          have hu' : (U : Int) > 1152921504606846976 := by omega
          clear hu
          go_wp2_with fail
          go_ret3
          exact ⟨Or.inr ⟨N.out, rfl⟩, L6.out.1⟩
        have HU3 : Aside (U ≤ 1152921504606846976) := hu
        have hu' : ¬ (U : Int) > 1152921504606846976 := by omega
        have hw : wrap64 (U : Int) = (U : Int) := by unfold wrap64; omega
        clear hu
        go_wp2_with fail
        refine (rrecord_any _ (U : Int) acc w6 L6.out.2.chs).mono ?_
        rintro e w7 ⟨rfl, hb⟩
        have L7 : Aside (Below w.heap.size w w7 ∧ OwnC w.heap.size w7 vo acc) := ⟨L6.out.1.trans (hb.mono L6.out.1.size), L6.out.2.below hb⟩
        clear hb L6
        obtain ⟨q, hq⟩ : ∃ q, q = recR (U : Int) acc := ⟨_, rfl⟩
        have HQ : Aside (q = recR ((seeU t.data.toList).1 : Int) (refL t.data.toList).1) := by rw [hq, ← HU.out.1, FIN.out.1]; rfl
        rw [← hq]
        clear hq
        obtain ⟨T, E⟩ := q
        by_cases h0 : E = 0
        case neg =>
          have N : Aside (¬ refOk t) := fun h => h0 (by have := h.2.2.2.2.1; rw [← HQ.out] at this; exact this)
          have h0' : ¬ (E : Int) = 0 := by omega
          clear h0
          go_wp2_with fail
          go_ret3
          exact ⟨Or.inr ⟨N.out, rfl⟩, L7.out.1⟩
        subst h0
        by_cases hT : T = t
        case neg =>
          have N : Aside (¬ refOk t) := fun h => hT (by have := h.2.2.2.2.2; rw [← HQ.out] at this; exact this)
          have hT' : (T.toList == t.toList) = false := by rw [same_list, decide_eq_false hT]
          clear hT
          go_wp2_with fail
          go_ret3
          exact ⟨Or.inr ⟨N.out, rfl⟩, L7.out.1⟩
        have Y : Aside (refOk t) := ⟨HB.out, H195.out, HF0.out, by rw [← HU.out.1]; exact HU3.out, by rw [← HQ.out], by rw [← HQ.out]; exact hT⟩
        have hT' : (T.toList == t.toList) = true := by rw [same_list, decide_eq_true hT]
        clear hT
        go_wp2_with fail
        go_ret3
        refine ⟨Or.inl ⟨Y.out, vo, ?_, by rw [← FIN.out.1]; exact L7.out.2⟩, L7.out.1⟩
        rw [← HU.out.1]
        first | rfl | (rw [← hw]; rfl)

      have RD : Aside (∀ x s', rdC s = (x, s') → ((acc ++ [x]) ++ (rrd (n - (k + 1)) s').1 = (refL t.data.toList).1 ∧ (rrd (n - (k + 1)) s').2 = (refL t.data.toList).2)) := fun x s' q => by
        have h := R.out.2.2
        rw [show n - k = (n - (k + 1)) + 1 by omega, rrd, if_pos he, q] at h
        rw [List.append_assoc]
        exact h
      rw [he]
      clear he EXIT
      go_wp2_with fail
      refine (L0.out.calls (yBool_any g v0 bs _ wr L0.out.rd)).mono ?_
      rintro e w2 ⟨rfl, hl⟩
      have L1 : Aside (YL w g v0 bs s.bool.2 vo acc w2) := hl
      clear hl L0
      obtain ⟨G, hG⟩ : ∃ G, G = s.bool.1 := ⟨_, rfl⟩
      rw [← hG]
      have HG : Aside (G = s.bool.1) := hG
      clear hG
      have L2 : Aside (YX w g w2.heap.size v0 bs s.bool.2 vo acc ⟨⟨#[]⟩, ⟨#[]⟩, G⟩ (w2.alloc (.cells #[.string ⟨#[]⟩, .string ⟨#[]⟩, .bool G] 27))) := YL.box L1.out ⟨⟨#[]⟩, ⟨#[]⟩, G⟩
      clear L1
      go_wp2_with fail
      refine (L2.out.calls (yText_any g v0 bs 120 _ _ (by decide) (by decide) L2.out.rl.rd)).mono ?_
      rintro e w3 ⟨rfl, hl⟩
      obtain ⟨bb, hbb⟩ : ∃ bb, bb = w2.heap.size := ⟨_, rfl⟩
      rw [← hbb] at hl ⊢
      clear hbb L2
      obtain ⟨X, hX⟩ : ∃ X, X = txt (s.bool.2.text 120).1 := ⟨_, rfl⟩
      rw [← hX]
      have HX : Aside (X = txt (s.bool.2.text 120).1) := hX
      clear hX
      obtain ⟨c0, c1, c2, f0, f1⟩ := hl.cells
      have L3 : Aside (YX w g bb v0 bs (s.bool.2.text 120).2 vo acc ⟨X, ⟨#[]⟩, G⟩ (w3.setCell ⟨bb, 0, none⟩ (.string X))) := hl.set0 X
      clear hl
      have LN : Hid (acc.length < 1000000000) := Lib.hid (by have := R.out.2.1; omega)
      cases G with
      | true =>
        have RD2 : Aside (rdC s = (⟨X, ⟨#[]⟩, true⟩, (s.bool.2.text 120).2)) := by show _ = _; unfold rdC; rw [if_pos HG.out.symm, HX.out]
        have O : Hid (OwnC w.heap.size (w3.setCell ⟨bb, 0, none⟩ (.string X)) vo acc) := Lib.hid L3.out.rl.own
        have S : Hid (w.heap.size ≤ (w3.setCell ⟨bb, 0, none⟩ (.string X)).heap.size) := Lib.hid L3.out.rl.be.size
        go_wp2_with (at_builtin; refine app_ch (gg := w3.heap.size) rfl _ _ rfl rfl O.out S.out ⟨X, ⟨#[]⟩, true⟩ ?hgg rfl LN.out ?_)
        case hgg => simp [World.setCell]
        intro v' w' h1 h2
        have A : Aside (YL w g v0 bs (s.bool.2.text 120).2 v' (acc ++ [⟨X, ⟨#[]⟩, true⟩]) w') := L3.out.app h1 h2
        clear h1 h2 O S LN L3 c0 c1 c2 f0 f1
        go_wp2_with fail
        go_roundg (n - (k + 1))
        case measure => have := R.out.1; omega
        case rel =>
          exact ⟨k + 1, _, _, v', by omega, rfl, by go_num, rfl, by have := R.out.2.1; simp; omega, RD.out _ _ RD2.out, A.out⟩
      | false =>
        go_wp2_with fail
        refine (L3.out.calls (yText_any g v0 bs 8192 _ _ (by decide) (by decide) L3.out.rl.rd)).mono ?_
        rintro e w4 ⟨rfl, hl⟩
        clear c0 c1 c2 f0 f1 L3
        obtain ⟨Y, hY⟩ : ∃ Y, Y = txt ((s.bool.2.text 120).2.text 8192).1 := ⟨_, rfl⟩
        rw [← hY]
        have RD2 : Aside (rdC s = (⟨X, Y, false⟩, ((s.bool.2.text 120).2.text 8192).2)) := by show _ = _; unfold rdC; rw [if_neg (by rw [← HG.out]; exact Bool.false_ne_true), HX.out, hY]
        clear hY
        obtain ⟨c0, c1, c2, f0, f1⟩ := hl.cells
        have L4 : Aside (YX w g bb v0 bs ((s.bool.2.text 120).2.text 8192).2 vo acc ⟨X, Y, false⟩ (w4.setCell ⟨bb, 1, none⟩ (.string Y))) := hl.set1 Y
        have O : Hid (OwnC w.heap.size (w4.setCell ⟨bb, 1, none⟩ (.string Y)) vo acc) := Lib.hid L4.out.rl.own
        have S : Hid (w.heap.size ≤ (w4.setCell ⟨bb, 1, none⟩ (.string Y)).heap.size) := Lib.hid L4.out.rl.be.size
        clear hl
        go_wp2_with (at_builtin; refine app_ch (gg := w4.heap.size) rfl _ _ rfl rfl O.out S.out ⟨X, Y, false⟩ ?hgg rfl LN.out ?_)
        case hgg => simp [World.setCell]
        intro v' w' h1 h2
        have A : Aside (YL w g v0 bs ((s.bool.2.text 120).2.text 8192).2 v' (acc ++ [⟨X, Y, false⟩]) w') := L4.out.app h1 h2
        clear h1 h2 O S LN L4 c0 c1 c2 f0 f1
        go_wp2_with fail
        go_roundg (n - (k + 1))
        case measure => have := R.out.1; omega
        case rel =>
          exact ⟨k + 1, _, _, v', by omega, rfl, by go_num, rfl, by have := R.out.2.1; simp; omega, RD.out _ _ RD2.out, A.out⟩
    · have hlt' : ¬ (k : Int) < (n : Int) := by omega
      have FIN : Aside (acc = (refL t.data.toList).1 ∧ s = (refL t.data.toList).2) := EXIT.out (Or.inl (by omega))
      clear EXIT R
      go_wp2_with fail
      refine (L0.out.calls (yEnd_any g v0 bs _ wr L0.out.rd)).mono ?_
      rintro e w6 ⟨rfl, hl⟩
      have L6 : Aside (Below w.heap.size w w6 ∧ OwnC w.heap.size w6 vo acc) := ⟨hl.be, hl.own⟩
      obtain ⟨F, hF⟩ : ∃ F, F = s.fin := ⟨_, rfl⟩
      have HF : Aside (F = (refL t.data.toList).2.fin) := by rw [hF, ← FIN.out.2]; rfl
      rw [← hF]
      clear hl L0 hF
      by_cases hf : F = 0
      case neg =>
        have N : Aside (¬ refOk t) := fun h => hf (by rw [HF.out]; exact h.2.2.1)
        have hf' : ¬ (F : Int) = 0 := by omega
        clear hf
        go_wp2_with fail
        go_ret3
        exact ⟨Or.inr ⟨N.out, rfl⟩, L6.out.1⟩
      have HF0 : Aside ((refL t.data.toList).2.fin = 0) := by rw [← HF.out]; exact hf
      subst hf
      clear HF
      by_cases hu : U ≤ 1152921504606846976
      case neg =>
        have N : Aside (¬ refOk t) := fun h => hu (by rw [HU.out.1]; exact h.2.2.2.1)
        have hu' : (U : Int) > 1152921504606846976 := by omega
        clear hu
        go_wp2_with fail
        go_ret3
        exact ⟨Or.inr ⟨N.out, rfl⟩, L6.out.1⟩
      have HU3 : Aside (U ≤ 1152921504606846976) := hu
      have hu' : ¬ (U : Int) > 1152921504606846976 := by omega
      have hw : wrap64 (U : Int) = (U : Int) := by unfold wrap64; omega
      clear hu
      go_wp2_with fail
      refine (rrecord_any _ (U : Int) acc w6 L6.out.2.chs).mono ?_
      rintro e w7 ⟨rfl, hb⟩
      have L7 : Aside (Below w.heap.size w w7 ∧ OwnC w.heap.size w7 vo acc) := ⟨L6.out.1.trans (hb.mono L6.out.1.size), L6.out.2.below hb⟩
      clear hb L6
      obtain ⟨q, hq⟩ : ∃ q, q = recR (U : Int) acc := ⟨_, rfl⟩
      have HQ : Aside (q = recR ((seeU t.data.toList).1 : Int) (refL t.data.toList).1) := by rw [hq, ← HU.out.1, FIN.out.1]; rfl
      rw [← hq]
      clear hq
      obtain ⟨T, E⟩ := q
      by_cases h0 : E = 0
      case neg =>
        have N : Aside (¬ refOk t) := fun h => h0 (by have := h.2.2.2.2.1; rw [← HQ.out] at this; exact this)
        have h0' : ¬ (E : Int) = 0 := by omega
        clear h0
        go_wp2_with fail
        go_ret3
        exact ⟨Or.inr ⟨N.out, rfl⟩, L7.out.1⟩
      subst h0
      by_cases hT : T = t
      case neg =>
        have N : Aside (¬ refOk t) := fun h => hT (by have := h.2.2.2.2.2; rw [← HQ.out] at this; exact this)
        have hT' : (T.toList == t.toList) = false := by rw [same_list, decide_eq_false hT]
        clear hT
        go_wp2_with fail
        go_ret3
        exact ⟨Or.inr ⟨N.out, rfl⟩, L7.out.1⟩
      have Y : Aside (refOk t) := ⟨HB.out, H195.out, HF0.out, by rw [← HU.out.1]; exact HU3.out, by rw [← HQ.out], by rw [← HQ.out]; exact hT⟩
      have hT' : (T.toList == t.toList) = true := by rw [same_list, decide_eq_true hT]
      clear hT
      go_wp2_with fail
      go_ret3
      refine ⟨Or.inl ⟨Y.out, vo, ?_, by rw [← FIN.out.1]; exact L7.out.2⟩, L7.out.1⟩
      rw [← HU.out.1]
      first | rfl | (rw [← hw]; rfl)

end Go.Proofs.Ytmdjicakjljmlaa
