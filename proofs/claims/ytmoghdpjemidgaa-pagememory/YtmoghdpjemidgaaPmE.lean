/-
  The law's longer, walked.
-/
import Derived.Test.YtmoghdpjemidgaaPmD
namespace Go.Proofs.Ytmoghdpjemidgaa
open Go.RowKit Go.Maps
namespace Pm
theorem at_of {v v' : Value} {w0 : World} {o : Obj} (h : v'.ownBlock = v.ownBlock ∨ v'.ownBlock = some (w0.alloc o).heap.size) : At v v' w0 := fun k hk => by
  rcases h with q | q
  · exact Or.inl (hk.trans q)
  · rw [q] at hk; injection hk with e; rw [e]; exact Or.inr (by simp)
theorem app_entX {ops : Array Oper} {rest : List Oper} {o : Oper} {a : Act} {Q : Exit → Act → World → Prop} (hgd : o.guard = none) (s x : Operand)
    (ho : o.op = .call { callee := .builtin .append, args := #[s, x], argTypes := #[25, 25] })
    {B : Nat} {w0 : World} {v : Value} {es : List Ent} (hs : a.eval s = v) (hown : OwnE B w0 v es) (hB : B ≤ w0.heap.size) (p q : ByteArray)
    (hx : a.eval x = .slice (some ⟨w0.heap.size, 0, none⟩) 1 1) (hl : es.length ≤ 4000000)
    (h : ∀ a' n' c' w', Hid (OwnE B w' (.slice a' n' c') (es ++ [(p, q)]) ∧ w0.grownBy w' v.ownBlock ∧ At v (.slice a' n' c') w0) → wpList Try.prog ops Q rest (a.put o.dst (.slice a' n' c')) w') :
    wpList Try.prog ops Q (o :: rest) a (w0.alloc (.cells #[.string p, .string q] 29)) := by
  obtain ⟨i0, hi, hz0, hz1, hz2⟩ := info_parts info_ent
  refine wpList_append_own_at _ hgd s x 25 ho B 29 i0 _ 2 32 Try.underlying25 hi hz0 hz1 hz2 rfl (by decide) v es.length (cellsE es) hs (World.ownsRow.alloc hown _) ⟨w0.heap.size, 0, none⟩ 1 1 [.string p, .string q] hx rfl ?_ ?_ (by unfold maxLen; omega) (by omega) (by simp; omega) ?_
  · intro j u hj
    rw [add_plain, Nat.zero_add, World.cell?_alloc_new, ← Array.getElem?_toList]; exact hj
  · exact encE_one (p, q)
  · intro v' w' h1 h2 _ h4
    have o1 : OwnE B w' v' (es ++ [(p, q)]) := by
      show w'.ownsRow _ _ _ _ _ _
      rw [cellsE_app, List.length_append]; exact h1
    obtain ⟨a7, c7, e7, _, _⟩ := o1.ents.len
    subst e7
    exact h _ _ _ w' (Lib.hid ⟨o1, grown_alloc h2, at_of h4⟩)
theorem app_strX {ops : Array Oper} {rest : List Oper} {o : Oper} {a : Act} {Q : Exit → Act → World → Prop} (hgd : o.guard = none) (s x : Operand)
    (ho : o.op = .call { callee := .builtin .append, args := #[s, x], argTypes := #[22, 22] })
    {B : Nat} {w0 : World} {v : Value} {es : List ByteArray} (hs : a.eval s = v) (hown : OwnS B w0 v es) (hB : B ≤ w0.heap.size) (p : ByteArray)
    (hx : a.eval x = .slice (some ⟨w0.heap.size, 0, none⟩) 1 1) (hl : es.length ≤ 4000000)
    (h : ∀ a' n' c' w', Hid (OwnS B w' (.slice a' n' c') (es ++ [p]) ∧ w0.grownBy w' v.ownBlock ∧ At v (.slice a' n' c') w0) → wpList Try.prog ops Q rest (a.put o.dst (.slice a' n' c')) w') :
    wpList Try.prog ops Q (o :: rest) a (w0.alloc (.cells #[.string p] 9)) := by
  obtain ⟨i0, hi, hz0, hz1, hz2⟩ := info_parts info_str
  refine wpList_append_own_at _ hgd s x 22 ho B 9 i0 _ 1 16 Try.underlying22 hi hz0 hz1 hz2 rfl (by decide) v es.length (cellsS es) hs (World.ownsRow.alloc hown _) ⟨w0.heap.size, 0, none⟩ 1 1 [.string p] hx rfl ?_ ?_ (by unfold maxLen; omega) (by omega) (by simp; omega) ?_
  · intro j u hj
    rw [add_plain, Nat.zero_add, World.cell?_alloc_new, ← Array.getElem?_toList]; exact hj
  · intro v hv; simp only [List.mem_cons, List.not_mem_nil, or_false] at hv; rw [hv]; rfl
  · intro v' w' h1 h2 _ h4
    have o1 : OwnS B w' v' (es ++ [p]) := by
      show w'.ownsRow _ _ _ _ _ _
      have e : cellsS (es ++ [p]) = cellsS es ++ [.string p] := by simp [cellsS]
      rw [e, List.length_append]; exact h1
    obtain ⟨a7, c7, e7, _, _⟩ := o1.strs.len
    subst e7
    exact h _ _ _ w' (Lib.hid ⟨o1, grown_alloc h2, at_of h4⟩)
theorem app_intX {ops : Array Oper} {rest : List Oper} {o : Oper} {a : Act} {Q : Exit → Act → World → Prop} (hgd : o.guard = none) (s x : Operand)
    (ho : o.op = .call { callee := .builtin .append, args := #[s, x], argTypes := #[23, 23] })
    {B : Nat} {w0 : World} {v : Value} {l : List Int} (hs : a.eval s = v) (hown : OwnI B w0 v l) (hB : B ≤ w0.heap.size) (n : Int)
    (hx : a.eval x = .slice (some ⟨w0.heap.size, 0, none⟩) 1 1) (hl : l.length ≤ 4000000)
    (h : ∀ a' n' c' w', Hid (OwnI B w' (.slice a' n' c') (l ++ [n]) ∧ w0.grownBy w' v.ownBlock ∧ At v (.slice a' n' c') w0) → wpList Try.prog ops Q rest (a.put o.dst (.slice a' n' c')) w') :
    wpList Try.prog ops Q (o :: rest) a (w0.alloc (.cells #[.int .i64 n] 3)) := by
  refine app_new hgd s x ho (m := [n]) rfl hs hown hB hx rfl (by simp; omega) ?_
  intro v' w' h1 h2 h3
  obtain ⟨a7, c7, e7, _, _⟩ := h1.len
  subst e7
  exact h _ _ _ w' (Lib.hid ⟨h1, h2, h3⟩)
theorem Lg.boxg {B : Nat} {w W W' : World} {gx gz : Nat} {kd nx : Int} {dt : ByteArray} {u v : Nv} {es : List Ent} {cs : List Int} {ks : List ByteArray} {hs : List Int} {F : Nat → Prop} (q : Lg B w gx gz kd nx dt u v es cs ks hs W) (hk : Kept F W W') (hn : ∀ c, F gx → W.heap[gx]? ≠ some (.cells c 27 (0, 0))) :
    W'.heap[gx]? = some (.cells #[.int .i64 kd, v.e, v.c, v.k, v.h, .int .i64 nx, .string dt] 27 (0, 0)) := by
  rw [hk.block gx (lt_of_heap q.x) (fun e => hn _ e q.x)]; exact q.x
theorem rep_snoc {α : Type} (l : List α) (i : Nat) (x : α) : (l ++ List.replicate i x) ++ [x] = l ++ List.replicate (i + 1) x := by
  rw [List.append_assoc, ← List.replicate_succ']
end Pm
open Pm
set_option maxHeartbeats 8000000 in
set_option maxRecDepth 100000 in
theorem longer_any (k : Nat) (hk : k ≤ 3) (n : Nd) (v : Nv) (B : Nat) (w : World) (hB : B ≤ w.heap.size) (he : OwnE B w v.e n.ents) (hc : OwnI B w v.c n.chs) (hy : OwnS B w v.k n.keys) (hh : OwnI B w v.h n.kids) (hap : ∀ g, v.c.ownBlock = some g → v.h.ownBlock ≠ some g) (hz : n.ents.length ≤ 1000000 ∧ n.chs.length ≤ 1000000 ∧ n.keys.length ≤ 1000000 ∧ n.kids.length ≤ 1000000) :
    Calls Try.prog 15 #[.agg (n.arr v), .int .i64 (k : Int)] w fun e w' => ∃ v', e = .returned (.agg (n.arr v')) ∧ OwnE B w' v'.e (n.ents ++ List.replicate 64 (eT k, ⟨#[]⟩)) ∧ OwnI B w' v'.c (n.chs ++ List.replicate 64 (1000 + (k : Int))) ∧ OwnS B w' v'.k (n.keys ++ List.replicate 64 (kT k)) ∧ OwnI B w' v'.h (n.kids ++ List.replicate 64 (2000 + (k : Int))) ∧ Nr w v.e v'.e ∧ Nr w v.c v'.c ∧ Nr w v.k v'.k ∧ Nr w v.h v'.h ∧ (∀ g, v'.c.ownBlock = some g → v'.h.ownBlock ≠ some g) ∧ Kept (Fb v) w w' := by
  have HK := Lib.hid hk
  have HB := Lib.hid hB
  have HZ := Lib.hid hz
  obtain ⟨kd, ents, chs, keys, kids, nx, dt⟩ := n
  obtain ⟨ve, vc, vk, vh⟩ := v
  simp only at he hc hy hh hap HZ
  obtain ⟨ae, ce, qe, _, _⟩ := he.ents.len
  obtain ⟨ac, cc, qc, _, _⟩ := hc.ints.len
  obtain ⟨ak, ck, qk, _, _⟩ := hy.strs.len
  obtain ⟨ah, ch, qh, _, _⟩ := hh.ints.len
  subst qe qc qk qh
  clear hz hk hB
  unfold Nd.arr
  simp only
  obtain ⟨ne, hne⟩ : ∃ ne, ne = ents.length := ⟨_, rfl⟩
  obtain ⟨nc, hnc⟩ : ∃ nc, nc = chs.length := ⟨_, rfl⟩
  obtain ⟨nk, hnk⟩ : ∃ nk, nk = keys.length := ⟨_, rfl⟩
  obtain ⟨nh, hnh⟩ : ∃ nh, nh = kids.length := ⟨_, rfl⟩
  rw [← hne] at he ⊢
  rw [← hnc] at hc hap ⊢
  rw [← hnk] at hy ⊢
  rw [← hnh] at hh hap ⊢
  clear hne hnc hnk hnh
  obtain ⟨gx, hgx⟩ : ∃ gx, gx = w.heap.size := ⟨_, rfl⟩
  obtain ⟨X0, hX0⟩ : ∃ X, X = w.alloc (.cells #[.int .i64 kd, .slice ae ne ce, .slice ac nc cc, .slice ak nk ck, .slice ah nh ch, .int .i64 nx, .string dt] 27) := ⟨_, rfl⟩
  obtain ⟨gz, hgz⟩ : ∃ gz, gz = X0.heap.size := ⟨_, rfl⟩
  obtain ⟨X, hX⟩ : ∃ X, X = X0.alloc (.cells #[.int .i64 0, .slice none 0 0, .slice none 0 0, .slice none 0 0, .slice none 0 0, .int .i64 0, .string ⟨#[]⟩] 27) := ⟨_, rfl⟩
  have T0 : Hid (Lg B w gx gz kd nx dt ⟨.slice ae ne ce, .slice ac nc cc, .slice ak nk ck, .slice ah nh ch⟩ ⟨.slice ae ne ce, .slice ac nc cc, .slice ak nk ck, .slice ah nh ch⟩ (ents ++ List.replicate 0 (eT k, ⟨#[]⟩)) (chs ++ List.replicate 0 (1000 + (k : Int))) (keys ++ List.replicate 0 (kT k)) (kids ++ List.replicate 0 (2000 + (k : Int))) X) := Lib.hid (by
    have b0 : Below w.heap.size w X0 := by rw [hX0]; exact (Below.refl _ _).alloc (Nat.le_refl _) _
    have b1 : Below X0.heap.size X0 X := by rw [hX]; exact (Below.refl _ _).alloc (Nat.le_refl _) _
    have s0 : X0.heap.size = w.heap.size + 1 := by rw [hX0]; simp
    have b : Below w.heap.size w X := b0.trans (b1.mono b0.size)
    have rx : X0.heap[gx]? = some (.cells #[.int .i64 kd, .slice ae ne ce, .slice ac nc cc, .slice ak nk ck, .slice ah nh ch, .int .i64 nx, .string dt] 27 (0, 0)) := by rw [hX0, hgx, heap_alloc_new]
    refine ⟨by rw [b1.block gx (lt_of_heap rx)]; exact rx, by rw [hX, hgz, heap_alloc_new], ?_, ?_, ?_, ?_, Nr.refl _ _, Nr.refl _ _, Nr.refl _ _, Nr.refl _ _, hap, Below.kept b _, by omega⟩
    · simpa using he.below b
    · simpa using hc.below b
    · simpa using hy.below b
    · simpa using hh.below b)
  have hX0' := hX0.symm
  have hX' := hX.symm
  have hgx' := hgx.symm
  have hgz' := hgz.symm
  clear hX hX0 hgx hgz he hc hy hh hap
  have CV := Lib.hid (fun W => conv_one W k HK.out)
  have wk : IntKind.u8.wrap (k : Int) = (k : Int) := by have := HK.out; simp [IntKind.wrap, IntKind.bits, IntKind.signed]; omega
  have k3' : (k : Int) ≤ 3 := by have := HK.out; omega
  have pE := apE k
  have pK := apK k
  go_enter Try.func15, Try.ntmps15
  go_wp2_with fail
  clear hX' hX0' hgx' hgz'
  go_loopg [5] 64 (fun gg s wr => ∃ (i : Nat) (e1 : Option Addr) (e2 e3 : Nat) (c1 : Option Addr) (c2 c3 : Nat) (k1 : Option Addr) (k2 k3 : Nat) (h1 : Option Addr) (h2 h3 : Nat), i ≤ 64 ∧ gg = 64 - i ∧ s = .int .i64 i ∧ Hid (Lg B w gx gz kd nx dt ⟨.slice ae ne ce, .slice ac nc cc, .slice ak nk ck, .slice ah nh ch⟩ ⟨.slice e1 e2 e3, .slice c1 c2 c3, .slice k1 k2 k3, .slice h1 h2 h3⟩ (ents ++ List.replicate i (eT k, ⟨#[]⟩)) (chs ++ List.replicate i (1000 + (k : Int))) (keys ++ List.replicate i (kT k)) (kids ++ List.replicate i (2000 + (k : Int))) wr))
  case atStart => exact ⟨0, _, _, _, _, _, _, _, _, _, _, _, _, Nat.zero_le _, rfl, rfl, T0⟩
  case round =>
    clear T0
    obtain ⟨i, e1, e2, e3, c1, c2, c3, k1, k2, k3, h1, h2, h3, hi, hg, rfl, S⟩ := hrel
    have G := Lib.hid hg
    clear hg
    by_cases hlt : i < 64
    · have hlt' : (i : Int) < 64 := by omega
      have p1 : wr.cell? ⟨gx, 1, none⟩ = some (.slice e1 e2 e3) := (node_cells S.out.x).2.1
      obtain ⟨A1, hA1⟩ : ∃ Z, wr.alloc (.cells #[.int .u8 (k : Int)] 5) = Z := ⟨_, rfl⟩
      have SA : Hid (Lg B w gx gz kd nx dt ⟨.slice ae ne ce, .slice ac nc cc, .slice ak nk ck, .slice ah nh ch⟩ ⟨.slice e1 e2 e3, .slice c1 c2 c3, .slice k1 k2 k3, .slice h1 h2 h3⟩ (ents ++ List.replicate i (eT k, ⟨#[]⟩)) (chs ++ List.replicate i (1000 + (k : Int))) (keys ++ List.replicate i (kT k)) (kids ++ List.replicate i (2000 + (k : Int))) A1) := Lib.hid (by rw [← hA1]; exact S.out.below ((Below.refl _ _).alloc (Nat.le_refl _) _))
      have cv : (convert 33 9 (.slice (some ⟨wr.heap.size, 0, none⟩) 1 1)).run Try.prog A1 = .ok (.string ⟨#[UInt8.ofNat k]⟩) A1 := by rw [← hA1]; exact CV.out wr
      have LB : Hid (B ≤ A1.heap.size ∧ (ents ++ List.replicate i (eT k, (⟨#[]⟩ : ByteArray))).length ≤ 4000000 ∧ (chs ++ List.replicate i (1000 + (k : Int))).length ≤ 4000000 ∧ (keys ++ List.replicate i (kT k)).length ≤ 4000000 ∧ (kids ++ List.replicate i (2000 + (k : Int))).length ≤ 4000000) := Lib.hid (by
        have q := HZ.out
        have s := SA.out.kp.size
        have b := HB.out
        simp only [List.length_append, List.length_replicate]
        omega)
      have M1 : True := trivial
      have M2 : True := trivial
      have M3 : True := trivial
      go_wp2_with (first
        | (at_builtin; clear M1; refine app_entX rfl (.tmp 11) (.tmp 18) rfl rfl SA.out.e LB.out.1 (eT k) ⟨#[]⟩ rfl LB.out.2.1 ?_; intro e1' e2' e3' w7 H7
           have S7 := Lib.hid (SA.out.appE H7.out.1 H7.out.2.1 H7.out.2.2)
           have X7 := Lib.hid (SA.out.boxg (grown_kept H7.out.2.1) (fun c e => by obtain ⟨q1, q2⟩ := SA.out.e.row e.symm; exact fun h => row_ne h q2 (by decide)))
           have f7 : w7.frozen? ⟨gx, 1, none⟩ = false := frozen_of_row _ _ _ _ _ X7.out
           have z7 : w7.cell? ⟨gx, 1, none⟩ = some (.slice e1 e2 e3) := (node_cells X7.out).2.1
           obtain ⟨W8, hW8⟩ : ∃ Z, w7.setCell ⟨gx, 1, none⟩ (.slice e1' e2' e3') = Z := ⟨_, rfl⟩
           rw [hW8] at S7
           have p2 : W8.cell? ⟨gx, 2, none⟩ = some (.slice c1 c2 c3) := (node_cells S7.out.x).2.2.1
           have L8 : Hid (B ≤ W8.heap.size) := Lib.hid (Nat.le_trans HB.out S7.out.kp.size)
           clear p1 cv hA1)
        | (at_builtin; clear M2; refine app_intX rfl (.tmp 22) (.tmp 25) rfl rfl S7.out.c L8.out (1000 + (k : Int)) rfl LB.out.2.2.1 ?_; intro c1' c2' c3' w9 H9
           have S9 := Lib.hid (S7.out.appC H9.out.1 H9.out.2.1 H9.out.2.2)
           have X9 := Lib.hid (S7.out.boxg (grown_kept H9.out.2.1) (fun c e => by obtain ⟨q1, q2⟩ := S7.out.c.row e.symm; exact fun h => row_ne h q2 (by decide)))
           have f9 : w9.frozen? ⟨gx, 2, none⟩ = false := frozen_of_row _ _ _ _ _ X9.out
           have z9 : w9.cell? ⟨gx, 2, none⟩ = some (.slice c1 c2 c3) := (node_cells X9.out).2.2.1
           obtain ⟨W10, hW10⟩ : ∃ Z, w9.setCell ⟨gx, 2, none⟩ (.slice c1' c2' c3') = Z := ⟨_, rfl⟩
           rw [hW10] at S9
           have p3 : W10.cell? ⟨gx, 3, none⟩ = some (.slice k1 k2 k3) := (node_cells S9.out.x).2.2.2.1
           obtain ⟨A2, hA2⟩ : ∃ Z, W10.alloc (.cells #[.int .u8 (k : Int)] 5) = Z := ⟨_, rfl⟩
           have SB := Lib.hid (S9.out.below ((Below.refl _ W10).alloc (Nat.le_refl _) (.cells #[.int .u8 (k : Int)] 5)))
           rw [hA2] at SB
           have cv2 : (convert 33 9 (.slice (some ⟨W10.heap.size, 0, none⟩) 1 1)).run Try.prog A2 = .ok (.string ⟨#[UInt8.ofNat k]⟩) A2 := by rw [← hA2]; exact CV.out W10
           have L10 : Hid (B ≤ A2.heap.size) := Lib.hid (Nat.le_trans HB.out SB.out.kp.size)
           clear p2 hW8 f7 z7)
        | (at_builtin; clear M3; refine app_strX rfl (.tmp 29) (.tmp 35) rfl rfl SB.out.k L10.out (kT k) rfl LB.out.2.2.2.1 ?_; intro k1' k2' k3' w11 H11
           have S11 := Lib.hid (SB.out.appK H11.out.1 H11.out.2.1 H11.out.2.2)
           have X11 := Lib.hid (SB.out.boxg (grown_kept H11.out.2.1) (fun c e => by obtain ⟨q1, q2⟩ := SB.out.k.row e.symm; exact fun h => row_ne h q2 (by decide)))
           have f11 : w11.frozen? ⟨gx, 3, none⟩ = false := frozen_of_row _ _ _ _ _ X11.out
           have z11 : w11.cell? ⟨gx, 3, none⟩ = some (.slice k1 k2 k3) := (node_cells X11.out).2.2.2.1
           obtain ⟨W12, hW12⟩ : ∃ Z, w11.setCell ⟨gx, 3, none⟩ (.slice k1' k2' k3') = Z := ⟨_, rfl⟩
           rw [hW12] at S11
           have p4 : W12.cell? ⟨gx, 4, none⟩ = some (.slice h1 h2 h3) := (node_cells S11.out.x).2.2.2.2.1
           have L12 : Hid (B ≤ W12.heap.size) := Lib.hid (Nat.le_trans HB.out S11.out.kp.size)
           clear p3 cv2 hA2 hW10 f9 z9)
        | (at_builtin; refine app_intX rfl (.tmp 39) (.tmp 42) rfl rfl S11.out.h L12.out (2000 + (k : Int)) rfl LB.out.2.2.2.2 ?_; intro h1' h2' h3' w13 H13
           have S13 := Lib.hid (S11.out.appH H13.out.1 H13.out.2.1 H13.out.2.2)
           have X13 := Lib.hid (S11.out.boxg (grown_kept H13.out.2.1) (fun c e => by obtain ⟨q1, q2⟩ := S11.out.h.row e.symm; exact fun h => row_ne h q2 (by decide)))
           have f13 : w13.frozen? ⟨gx, 4, none⟩ = false := frozen_of_row _ _ _ _ _ X13.out
           have z13 : w13.cell? ⟨gx, 4, none⟩ = some (.slice h1 h2 h3) := (node_cells X13.out).2.2.2.2.1
           obtain ⟨W14, hW14⟩ : ∃ Z, w13.setCell ⟨gx, 4, none⟩ (.slice h1' h2' h3') = Z := ⟨_, rfl⟩
           rw [hW14] at S13
           clear p4 hW12 f11 z11))
      rw [rep_snoc, rep_snoc, rep_snoc, rep_snoc] at S13
      go_roundg (64 - (i + 1))
      case measure => have := G.out; omega
      case rel => exact ⟨i + 1, e1', e2', e3', c1', c2', c3', k1', k2', k3', h1', h2', h3', by omega, rfl, by go_num, S13⟩
    · have hge : ¬ (i : Int) < 64 := by omega
      have T6 : Hid (Lg B w gx gz kd nx dt ⟨.slice ae ne ce, .slice ac nc cc, .slice ak nk ck, .slice ah nh ch⟩ ⟨.slice e1 e2 e3, .slice c1 c2 c3, .slice k1 k2 k3, .slice h1 h2 h3⟩ (ents ++ List.replicate 64 (eT k, ⟨#[]⟩)) (chs ++ List.replicate 64 (1000 + (k : Int))) (keys ++ List.replicate 64 (kT k)) (kids ++ List.replicate 64 (2000 + (k : Int))) wr) := Lib.hid (by have q := S.out; rw [show i = 64 by omega] at q; exact q)
      obtain ⟨t0, t1, t2, t3, t4, t5, t6⟩ := node_cells T6.out.x
      have ON : Hid ((#[.int .i64 kd, .slice e1 e2 e3, .slice c1 c2 c3, .slice k1 k2 k3, .slice h1 h2 h3, .int .i64 nx, .string dt] : Array Value).all (·.oneCell') = true) := Lib.hid (by simp [Value.oneCell'])
      go_wp2_with (refine wpList_store_row rfl 27 (.tmp 4) (.tmp 45) rfl gz #[.int .i64 kd, .slice e1 e2 e3, .slice c1 c2 c3, .slice k1 k2 k3, .slice h1 h2 h3, .int .i64 nx, .string dt] rfl rfl 27 #[.int .i64 0, .slice none 0 0, .slice none 0 0, .slice none 0 0, .slice none 0 0, .int .i64 0, .string ⟨#[]⟩] T6.out.z size_node rfl ON.out ?_)
      have ks := kept_setRow wr gz #[.int .i64 kd, .slice e1 e2 e3, .slice c1 c2 c3, .slice k1 k2 k3, .slice h1 h2 h3, .int .i64 nx, .string dt]
      refine bodyPost_ret (results_cell_row rfl _ _ gz 27 #[.int .i64 kd, .slice e1 e2 e3, .slice c1 c2 c3, .slice k1 k2 k3, .slice h1 h2 h3, .int .i64 nx, .string dt] (0, 0) _ rfl (setRow_heap _ _ _ _ _ _ T6.out.z) Try.underlying27 rfl size_node) rfl ?_
      have tz : ∀ y c t, wr.heap[y]? = some (.cells c t (0, 0)) → t ≠ 27 → ¬ y = gz := fun y c t hy hn e => by
        rw [e] at hy
        exact row_ne hy T6.out.z hn
      refine ⟨⟨.slice e1 e2 e3, .slice c1 c2 c3, .slice k1 k2 k3, .slice h1 h2 h3⟩, rfl, T6.out.e.kept ks (fun y hy => ?_), T6.out.c.kept ks (fun y hy => ?_), T6.out.k.kept ks (fun y hy => ?_), T6.out.h.kept ks (fun y hy => ?_), T6.out.ne, T6.out.nc, T6.out.nk, T6.out.nh, T6.out.ap, T6.out.kp.trans ks (fun y hy e => by have := T6.out.g; omega)⟩
      · obtain ⟨q1, q2⟩ := T6.out.e.row hy; exact tz y _ _ q2 (by decide)
      · obtain ⟨q1, q2⟩ := T6.out.c.row hy; exact tz y _ _ q2 (by decide)
      · obtain ⟨q1, q2⟩ := T6.out.k.row hy; exact tz y _ _ q2 (by decide)
      · obtain ⟨q1, q2⟩ := T6.out.h.row hy; exact tz y _ _ q2 (by decide)
end Go.Proofs.Ytmoghdpjemidgaa
