/-
  THE DOCUMENTS WRITER: lay.
-/
import Derived.Test.YtmdjicakjljmlaaRefW
namespace Go.Proofs.Ytmdjicakjljmlaa
open Go.RowKit

theorem cell0 {w : World} {g : Nat} {x y z : Value} {t : TypeId} (h : w.heap[g]? = some (.cells #[x, y, z] t (0, 0))) : w.cell? ⟨g, 0, none⟩ = some x := by
  rw [cell_of_row w g 0 _ _ _ h]; rfl

set_option maxHeartbeats 4000000 in
set_option maxRecDepth 100000 in
theorem xlay_any (B g : Nat) (v : Value) (s : WS) (um : Value) (m : List UInt8) (w : World) (H : XAt B w g v s) (B' : Nat) (hm : Own B' w um m) (hap : ∀ k, um.ownBlock = some k → ¬ WF g v k) (hl : m.length ≤ 140737488355328) :
    Calls Try.prog 44 #[.pointer (some ⟨g, 0, none⟩), um] w fun e w' => e = .returned (.tuple #[]) ∧ LaidX B g v (s.lay m) w w' := by
  have V : Aside (XAt B w g v s ∧ Own B' w um m ∧ ∀ k, um.ownBlock = some k → ¬ WF g v k) := ⟨H, hm, hap⟩
  obtain ⟨c0, c1, c2, f0, f2⟩ := H.cells
  obtain ⟨hle, hlim, _⟩ := H.2.2.2
  obtain ⟨a, cap, rfl, hac, hcm⟩ := hm.bytes.len
  obtain ⟨a', cap', e', hac', hcm'⟩ := H.2.2.1.bytes.len
  rw [e'] at c0
  unfold maxLen at hcm hcm'
  clear H hm e' hap
  go_enter Try.func44, Try.ntmps44
  by_cases he : s.e = 0
  · rw [he] at c2
    go_wp2_with fail
    go_quiet (fail)
    by_cases hfit : s.l.length + m.length ≤ s.lim
    · have hfit' : ¬ ((s.l.length : Int) + (m.length : Int) > (s.lim : Int)) := by omega
      clear c0 c1 c2 f0 f2
      go_wp2_with fail
      go_loopg [4] m.length (fun g0 si wr => ∃ (k : Nat) (u : Value), k ≤ m.length ∧ g0 = m.length - k ∧ si = .int .i64 k ∧ XAt B wr g u { s with l := s.l ++ m.take k } ∧ Kept (WF g v) w wr ∧ At v u w ∧ Own B' wr (.slice a m.length cap) m)
      case atStart =>
        have hk := drewN_kept (fun _ => False) w nq
        refine ⟨0, v, Nat.zero_le _, rfl, rfl, ?_, hk.mono (fun _ _ h => h.elim), At.refl _ _, V.out.2.1.kept hk (fun _ _ => id)⟩
        rw [List.take_zero, List.append_nil]
        exact V.out.1.kept hk (fun _ _ => id)
      case round =>
        obtain ⟨k, u, hk, hg, rfl, hx, hkp, hat, hom⟩ := hrel
        have R : Aside (gk = m.length - k ∧ XAt B wr g u { s with l := s.l ++ m.take k } ∧ Kept (WF g v) w wr ∧ At v u w ∧ Own B' wr (.slice a m.length cap) m) := ⟨hg, hx, hkp, hat, hom⟩
        clear hg hx hkp hat hom
        by_cases hlt : k < m.length
        · obtain ⟨d0, d1, d2, g0, g2⟩ := R.out.2.1.cells
          obtain ⟨au, cu, hu, huc, hum⟩ := R.out.2.1.2.2.1.bytes.len
          obtain ⟨nu, hnu⟩ : ∃ nu, nu = (s.l ++ m.take k).length := ⟨_, rfl⟩
          have hul : nu ≤ 1048576 := by rw [hnu, List.length_append, List.length_take]; omega
          obtain ⟨aa, cc, e2, _, _, _, hcl⟩ := R.out.2.2.2.2.bytes
          simp only [Value.slice.injEq, true_and] at e2
          obtain ⟨rfl, rfl⟩ := e2
          obtain ⟨b1, off1, rfl, hc1⟩ := hcl k hlt
          obtain ⟨c, hc⟩ : ∃ c, c = m.getD k 0 := ⟨_, rfl⟩
          rw [← hc] at hc1
          have C : Aside (c = m.getD k 0) := hc
          have U : Aside (u = .slice au nu cu) := by rw [hu, hnu]; rfl
          rw [hu] at d0
          have d0' : wr.cell? ⟨g, 0, none⟩ = some (.slice au nu cu) := by rw [hnu]; exact d0
          have O : Hid (Own B wr (.slice au nu cu) (s.l ++ m.take k)) := by have := R.out.2.1.2.2.1; rw [U.out] at this; exact this
          have S : Hid (B ≤ wr.heap.size) := Nat.le_trans R.out.2.1.1 (Nat.le_of_lt R.out.2.1.lt)
          have L : Hid ((s.l ++ m.take k).length < 140737488355328) := by show _ < _; omega
          have gl : g < wr.heap.size := R.out.2.1.lt
          have hlt' : (k : Int) < (m.length : Int) := by omega
          have HG : Hid (wr.heap[g]? = some (.cells #[.slice au nu cu, .int .i64 s.lim, .int .i64 s.e] 61 (0, 0)) ∧ (Value.slice au nu cu).ownBlock ≠ some g) := by
            have h1 := R.out.2.1.2.1
            have h2 := R.out.2.1.apart
            rw [U.out] at h1 h2
            exact ⟨h1, h2⟩
          have O1 : Hid (Own B ((wr.alloc (.cells #[.int .u8 (c8 c)] 5)).drew) (.slice au nu cu) (s.l ++ m.take k)) := World.ownsRow.alloc O.out _
          have S1 : Hid (B ≤ ((wr.alloc (.cells #[.int .u8 (c8 c)] 5)).drew).heap.size) := by have := S.out; show B ≤ (wr.alloc _).heap.size; simp; omega
          have N1 : Hid (∀ j u, [Value.int .u8 (c8 c)][j]? = some u → ((wr.alloc (.cells #[.int .u8 (c8 c)] 5)).drew).cell? ((⟨wr.heap.size, 0, none⟩ : Addr).add j) = some u) := fun j u hu => one_cell (w := wr) j u hu
          have FK : Hid (∀ w', (wr.alloc (.cells #[.int .u8 (c8 c)] 5)).drew.grownBy w' (Value.slice au nu cu).ownBlock → w'.cell? ⟨g, 0, none⟩ = some (.slice au nu cu) ∧ w'.frozen? ⟨g, 0, none⟩ = false) := fun w' h2 => by
            have hh := field_kept (v := .slice au nu cu) HG.out.1 (wx := (wr.alloc (.cells #[.int .u8 (c8 c)] 5)).drew) (fun k hk => Below.heap_alloc _ _ _ hk) (by show wr.heap.size ≤ (wr.alloc (.cells #[.int .u8 (c8 c)] 5)).heap.size; simp) h2 HG.out.2
            exact ⟨cell0 hh, frozen_of_row w' g 0 _ _ hh⟩
          clear hc hcl d0 hu hnu huc hum d1 d2 g2
          go_wp2_with fail
          go_region_law (refine step_app_byte (B := B) (v := .slice au nu cu) rfl _ _ rfl rfl O1.out S1.out c ⟨wr.heap.size, 0, none⟩ rfl N1.out L.out ?_; intro v' w' h1 h2 h3; obtain ⟨a2, n2, c2, rfl⟩ := own_slice h1; obtain ⟨k0, k1⟩ := FK.out w' h2)
          all_goals
            have kw : Kept (fun k => some k = u.ownBlock) wr w' := by
              rw [U.out]
              refine ⟨h2.os, h2.tape, h2.output, Nat.le_trans (by show wr.heap.size ≤ (wr.alloc (.cells #[.int .u8 (c8 c)] 5)).heap.size; simp) h2.size, fun x hx hn => ?_⟩
              rw [h2.block x (by show x < (wr.alloc (.cells #[.int .u8 (c8 c)] 5)).heap.size; simp; omega) hn]
              exact Below.heap_alloc _ _ _ hx
            have hat : At u (.slice a2 n2 c2) wr := by
              rw [U.out]
              intro x hx
              rcases h3 with h | h
              · exact Or.inl (by rw [hx, h])
              · right
                rw [h] at hx
                simp only [Option.some.injEq] at hx
                rw [hx]
                show wr.heap.size ≤ (wr.alloc (.cells #[.int .u8 (c8 c)] 5)).heap.size
                simp
            have nm : ∀ x, Value.ownBlock (.slice (some ⟨b1, off1, none⟩) m.length cap) = some x → ¬ some x = u.ownBlock ∧ x ≠ g := fun x hx => by
              have hv := V.out.2.2 x hx
              refine ⟨fun h => ?_, fun h => hv (Or.inl h)⟩
              rcases R.out.2.2.2.1 x h with q | q
              · exact hv (Or.inr q)
              · have := (V.out.2.1.lt x hx).2; omega
            have A : Aside (Kept (fun k => some k = u.ownBlock) wr w' ∧ At u (.slice a2 n2 c2) wr ∧ Own B w' (.slice a2 n2 c2) (s.l ++ m.take k ++ [c]) ∧ Own B' w' (.slice (some ⟨b1, off1, none⟩) m.length cap) m ∧ ∀ x, Value.ownBlock (.slice (some ⟨b1, off1, none⟩) m.length cap) = some x → ¬ some x = u.ownBlock ∧ x ≠ g) :=
              ⟨kw, hat, h1, R.out.2.2.2.2.kept kw (fun x hx => (nm x hx).1), nm⟩
            clear kw hat nm h1 h2 h3 k0 k1 O1 S1 N1 FK HG O S L d0' g0 hc1
            go_wp2_with fail
            go_roundg (m.length - (k + 1))
            case measure => have := R.out.1; omega
            case rel =>
              obtain ⟨kw, hat, h1, hm', nm⟩ := A.out
              have tk := take_one m k 0 hlt
              rw [← C.out] at tk
              have ks : Kept (fun x => x = g) w' (w'.setCell ⟨g, 0, none⟩ (.slice a2 n2 c2)) := kept_set w' ⟨g, 0, none⟩ _ rfl
              refine ⟨k + 1, .slice a2 n2 c2, by omega, rfl, by go_num, ?_, ?_, R.out.2.2.2.1.trans hat R.out.2.2.1.size, hm'.kept ks (fun x hx => (nm x hx).2)⟩
              · have := R.out.2.1.setLaidX kw h1 (by show (s.l ++ m.take k ++ [c]).length ≤ s.lim; rw [List.append_assoc, ← tk, List.length_append, List.length_take]; omega)
                rw [List.append_assoc, ← tk] at this
                exact this
              · refine (R.out.2.2.1.trans (kw.mono (fun x _ h => h)) (fun x hx h => ?_)).trans ks (fun x _ h => Or.inl h)
                rcases R.out.2.2.2.1 x h with q | q
                · exact Or.inr q
                · omega
        · go_wp2_with fail
          first | go_end0 | refine bodyPost_ret (results_none rfl _ _ _) rfl ?_
          have e1 : s.lay m = { s with l := s.l ++ m } := by unfold WS.lay; rw [if_pos he, if_pos hfit]
          have h := R.out.2
          rw [List.take_of_length_le (by omega)] at h
          rw [e1]
          exact ⟨rfl, u, h.1, h.2.1, h.2.2.1⟩
    · have hfit' : ((s.l.length : Int) + (m.length : Int) > (s.lim : Int)) := by omega
      go_wp2_with fail
      first | go_end0 | refine bodyPost_ret (results_none rfl _ _ _) rfl ?_
      have e1 : s.lay m = { s with e := 23 } := by unfold WS.lay; rw [if_pos he, if_neg hfit]
      rw [e1]
      have hk := drewN_kept (fun _ => False) w nq
      refine ⟨rfl, v, (V.out.1.kept hk (fun _ _ => id)).setErr 23 (by decide), (hk.mono (fun _ _ h => h.elim)).trans (kept_set (F := fun k => k = g) _ ⟨g, 2, none⟩ _ rfl) (fun _ _ h => Or.inl h), At.refl _ _⟩
  · have he' : ¬ (s.e : Int) = 0 := by omega
    go_wp2_with fail
    first | go_end0 | refine bodyPost_ret (results_none rfl _ _ _) rfl ?_
    have e1 : s.lay m = s := by unfold WS.lay; rw [if_neg he]
    rw [e1]
    exact ⟨rfl, LaidX.same V.out.1 (Kept.refl _ _)⟩
end Go.Proofs.Ytmdjicakjljmlaa
