/-
  The law PageSizes, walked.
-/
import Derived.Test.YtkcogjfhdlpobaaPsB
import Derived.Deep.CutRange
namespace Go.Proofs.Ytkcogjfhdlpobaa
open Go.RowKit Go.Maps
namespace Ps
theorem Gd.le {last : ByteArray} {es : List Ent} {cs : List Int} {sz : Nat} (h : Gd last es cs sz) : sz ≤ 8 + 190 * es.length := by
  have q := szL_le ⟨1, es, cs, [], [], 0, ⟨#[]⟩⟩ (leafG_sizes es cs _ h.g)
  have q2 := sum_le (szL ⟨1, es, cs, [], [], 0, ⟨#[]⟩⟩) 190 q
  have e : (szL ⟨1, es, cs, [], [], 0, ⟨#[]⟩⟩).length = es.length := szL_length _ h.l
  rw [e] at q2
  rw [h.s]
  show 8 + (szL ⟨1, es, cs, [], [], 0, ⟨#[]⟩⟩).sum ≤ _
  omega
theorem sz_of {kd nx : Int} {es : List Ent} {cs : List Int} {ks : List ByteArray} (h1 : es.length ≤ 4000000) (h2 : cs.length ≤ 4000000) (h3 : ks.length ≤ 4000000) (h : In64 cs) : Sz ⟨kd, es, cs, ks, [], nx, ⟨#[]⟩⟩ :=
  ⟨by simp only; omega, by simp only; omega, by simp only; omega, by simp, h, fun n hn => by simp at hn⟩
end Ps
open Ps
set_option maxHeartbeats 16000000 in
set_option maxRecDepth 100000 in
theorem pageSizes_core (v0 : Value) (ks : List ByteArray) (v1 : Value) (vs : List ByteArray) (v2 : Value) (cs : List Int) (odd : Int) (w : World) (h0 : Strs w v0 ks) (s0 : ks.length ≤ 2000000) (h1 : Strs w v1 vs) (h2 : Ints w v2 cs) (s2 : In64 cs) :
    Calls Try.prog 3 #[v0, v1, v2, .int .i64 odd] w fun e w' => e = .returned (.bool true) ∧ Below w.heap.size w w' := by
  have H := Lib.hid (And.intro h0 (And.intro h1 (And.intro h2 s2)))
  obtain ⟨ka, kc, rfl, hkc, hkm⟩ := h0.len
  obtain ⟨va, vcap, rfl, hvc, hvm⟩ := h1.len
  obtain ⟨ca, cc, rfl, hcc, hcm⟩ := h2.len
  unfold maxLen at hkm hvm hcm
  obtain ⟨nk, hnk⟩ : ∃ nk, nk = ks.length := ⟨_, rfl⟩
  obtain ⟨nv, hnv⟩ : ∃ nv, nv = vs.length := ⟨_, rfl⟩
  obtain ⟨nc, hnc⟩ : ∃ nc, nc = cs.length := ⟨_, rfl⟩
  rw [← hnk] at H hkc s0 ⊢
  rw [← hnv] at H hvc ⊢
  rw [← hnc] at H hcc ⊢
  have HN := Lib.hid (And.intro hnk (And.intro hnv hnc))
  clear h0 h1 h2 s2 hnk hnv hnc
  go_enter Try.func3, Try.ntmps3
  go_wp2_with fail
  refine (fixed_any w).mono ?_
  rintro e W1 ⟨rfl, hb⟩
  obtain ⟨Z, hZ⟩ : ∃ Z, Z = W1.alloc (.cells #[.int .i64 0, .slice none 0 0, .slice none 0 0, .slice none 0 0, .slice none 0 0, .int .i64 0, .string ⟨#[]⟩] 27) := ⟨_, rfl⟩
  obtain ⟨gn, hgn⟩ : ∃ gn, gn = W1.heap.size := ⟨_, rfl⟩
  have ZR : Hid (Z.heap[gn]? = some (.cells #[.int .i64 0, .slice none 0 0, .slice none 0 0, .slice none 0 0, .slice none 0 0, .int .i64 0, .string ⟨#[]⟩] 27 (0, 0))) := Lib.hid (by rw [hZ, hgn, heap_alloc_new])
  obtain ⟨X, hX⟩ : ∃ X, Z.setRow gn #[.int .i64 1, .slice none 0 0, .slice none 0 0, .slice none 0 0, .slice none 0 0, .int .i64 0, .string ⟨#[]⟩] = X := ⟨_, rfl⟩
  have T0 : Hid (Bn w X gn 1 0 (.slice none 0 0) (.slice none 0 0) (.slice none 0 0) (.slice none 0 0) [] [] ∧ Gd ⟨#[]⟩ [] [] 8) := Lib.hid (by
    have b2 : Below W1.heap.size W1 Z := by rw [hZ]; exact (Below.refl _ _).alloc (Nat.le_refl _) _
    have sz := hb.size
    have b3 : Below w.heap.size w Z := hb.trans (b2.mono hb.size)
    have b4 : Below w.heap.size w X := by rw [← hX]; exact b3.trans ((kept_setRow Z gn _).below b3.size (fun x hx => by omega))
    exact ⟨⟨by rw [← hX]; exact setRow_heap _ _ _ _ _ _ ZR.out, World.ownsRow_nil _ _ _ _, OwnI.nil _ _, b4, by omega⟩, Gd.start⟩)
  have ON : Hid ((#[.int .i64 1, .slice none 0 0, .slice none 0 0, .slice none 0 0, .slice none 0 0, .int .i64 0, .string ⟨#[]⟩] : Array Value).all (·.oneCell') = true) := Lib.hid (by simp [Value.oneCell'])
  have hZ' := hZ.symm
  have hgn' := hgn.symm
  clear hZ hgn hb
  go_wp2_with (refine wpList_store_row rfl 27 (.tmp 10) (.tmp 21) rfl gn #[.int .i64 1, .slice none 0 0, .slice none 0 0, .slice none 0 0, .slice none 0 0, .int .i64 0, .string ⟨#[]⟩] rfl rfl 27 #[.int .i64 0, .slice none 0 0, .slice none 0 0, .slice none 0 0, .slice none 0 0, .int .i64 0, .string ⟨#[]⟩] ZR.out size_node rfl ON.out ?_; rw [hX])
  clear hX hZ' hgn' ZR ON
  go_loopg [11, 12, 13, 14, 15, 16] nk (fun gg s11 s12 s13 _ _ _ wr => ∃ (i sz : Nat) (last : ByteArray) (es : List Ent) (cz : List Int) (ae : Option Addr) (nE cE : Nat) (ac : Option Addr) (nC cC : Nat), i ≤ nk ∧ gg = nk - i ∧ s11 = .int .i64 sz ∧ s12 = .string last ∧ s13 = .int .i64 i ∧ Hid (Bn w wr gn 1 0 (.slice ae nE cE) (.slice ac nC cC) (.slice none 0 0) (.slice none 0 0) es cz ∧ Gd last es cz sz ∧ es.length ≤ i ∧ In64 cz))
  case atStart => exact ⟨0, 8, ⟨#[]⟩, [], [], none, 0, 0, none, 0, 0, Nat.zero_le _, rfl, rfl, rfl, rfl, Lib.hid ⟨T0.out.1, T0.out.2, Nat.le_refl _, fun n hn => by simp at hn⟩⟩
  case round =>
    clear T0
    obtain ⟨i, sz, last, es, cz, ae, nE, cE, ac, nC, cC, hi, hg, rfl, rfl, rfl, S⟩ := hrel
    have GI := Lib.hid hg
    clear hg
    have SL : sz ≤ 400000000 := by have := S.out.2.1.le; have := S.out.2.2.1; omega
    go_upto_region 8 with fail
    go_cut [31] from 22 to 103 (fun sb wx => sb = .bool (decide (i < nk ∧ i < nv)) ∧ wr = wx)
    case first =>
      by_cases ean : i < nk
      · have eae : (i : Int) < (nk : Int) := by omega
        have eab : decide ((i : Int) < (nk : Int)) = true := decide_eq_true eae
        have eac : decide (i < nk) = true := decide_eq_true ean
        by_cases ebn : i < nv
        · have ebe : (i : Int) < (nv : Int) := by omega
          have ebb : decide ((i : Int) < (nv : Int)) = true := decide_eq_true ebe
          have ebc : decide (i < nv) = true := decide_eq_true ebn
          go_wp2_with fail
          go_meet
          case rel => exact ⟨by rw [decide_eq_true (show i < nk ∧ i < nv from ⟨ean, ebn⟩)], rfl⟩
        · have ebe : ¬ (i : Int) < (nv : Int) := by omega
          have ebb : decide ((i : Int) < (nv : Int)) = false := decide_eq_false ebe
          have ebc : decide (i < nv) = false := decide_eq_false ebn
          go_wp2_with fail
          go_meet
          case rel => exact ⟨by rw [decide_eq_false (show ¬ (i < nk ∧ i < nv) from by omega)], rfl⟩
      · have eae : ¬ (i : Int) < (nk : Int) := by omega
        have eab : decide ((i : Int) < (nk : Int)) = false := decide_eq_false eae
        have eac : decide (i < nk) = false := decide_eq_false ean
        go_wp2_with fail
        go_meet
        case rel => exact ⟨by rw [decide_eq_false (show ¬ (i < nk ∧ i < nv) from by omega)], rfl⟩
    case rest =>
      obtain ⟨rfl, rfl⟩ := hcut
      by_cases hin : i < nk ∧ i < nv
      · have gin : decide (i < nk ∧ i < nv) = true := decide_eq_true hin
        obtain ⟨hik, hiv⟩ := hin
        as_aux_lemma =>
          have hik' : (i : Int) < (nk : Int) := by omega
          have hiv' : (i : Int) < (nv : Int) := by omega
          obtain ⟨bk, ok, ek, qk⟩ := (H.out.1.below S.out.1.bl).at i (by rw [← HN.out.1]; exact hik)
          subst ek
          obtain ⟨bv, ov, ev, qv⟩ := (H.out.2.1.below S.out.1.bl).at i (by rw [← HN.out.2.1]; exact hiv)
          subst ev
          obtain ⟨k, hk⟩ : ∃ k, k = ks.getD i ⟨#[]⟩ := ⟨_, rfl⟩
          obtain ⟨v, hv⟩ : ∃ v, v = vs.getD i ⟨#[]⟩ := ⟨_, rfl⟩
          rw [← hk] at qk
          rw [← hv] at qv
          clear hk hv
          cases b1 : Op.bytesLess k.toList last.toList with
          | true =>
            as_aux_lemma =>
              go_wp2_with fail
              go_roundg (nk - (i + 1))
              case measure => have := GI.out; omega
              case rel => exact ⟨i + 1, sz, last, es, cz, ae, nE, cE, ac, nC, cC, by omega, rfl, rfl, rfl, by go_num, Lib.hid ⟨S.out.1, S.out.2.1, by have := S.out.2.2.1; omega, S.out.2.2.2⟩⟩
          | false =>
            cases b2 : (k.toList == last.toList) with
            | true =>
              as_aux_lemma =>
                go_wp2_with fail
                go_roundg (nk - (i + 1))
                case measure => have := GI.out; omega
                case rel => exact ⟨i + 1, sz, last, es, cz, ae, nE, cE, ac, nC, cC, by omega, rfl, rfl, rfl, by go_num, Lib.hid ⟨S.out.1, S.out.2.1, by have := S.out.2.2.1; omega, S.out.2.2.2⟩⟩
            | false =>
              by_cases b3 : k.size ≤ 120
              · have b4 : decide ((k.size : Int) > 120) = false := decide_eq_false (by omega)
                have FO : Hid (folB last k = true) := Lib.hid (by unfold folB; rw [b1, b2, decide_eq_true b3]; rfl)
                as_aux_lemma =>
                  go_upto_region 14 with fail
                  clear b1 b2 b4 qk qv
                  obtain ⟨ch, hch⟩ : ∃ ch, ch = cs.getD i 0 := ⟨_, rfl⟩
                  have CH := Lib.hid hch
                  clear hch
                  go_cut [67] from 22 to 103 (fun sb wx => sb = .bool (decide (i < nc ∧ 0 < ch ∧ ch < 4096)) ∧ wr = wx)
                  case first =>
                    by_cases en : i < nc
                    · have ee : (i : Int) < (nc : Int) := by omega
                      have eb : decide ((i : Int) < (nc : Int)) = true := decide_eq_true ee
                      have ec : decide (i < nc) = true := decide_eq_true en
                      obtain ⟨bc, oc, ecc, qc⟩ := (H.out.2.2.1.below S.out.1.bl).at i (by rw [← HN.out.2.2]; exact en)
                      subst ecc
                      rw [← CH.out] at qc
                      by_cases e1 : 0 < ch
                      · have f1 : decide (ch > 0) = true := decide_eq_true e1
                        have f2 : decide (0 < ch) = true := decide_eq_true e1
                        by_cases e2 : ch < 4096
                        · have f3 : decide (ch < 4096) = true := decide_eq_true e2
                          go_wp2_with fail
                          go_meet
                          case rel => exact ⟨by rw [decide_eq_true (show i < nc ∧ 0 < ch ∧ ch < 4096 from ⟨en, e1, e2⟩)], rfl⟩
                        · have f3 : decide (ch < 4096) = false := decide_eq_false e2
                          go_wp2_with fail
                          go_meet
                          case rel => exact ⟨by rw [decide_eq_false (show ¬ (i < nc ∧ 0 < ch ∧ ch < 4096) from by omega)], rfl⟩
                      · have f1 : decide (ch > 0) = false := decide_eq_false e1
                        have f2 : decide (0 < ch) = false := decide_eq_false e1
                        go_wp2_with fail
                        go_meet
                        case rel => exact ⟨by rw [decide_eq_false (show ¬ (i < nc ∧ 0 < ch ∧ ch < 4096) from by omega)], rfl⟩
                    · have ee : ¬ (i : Int) < (nc : Int) := by omega
                      have eb : decide ((i : Int) < (nc : Int)) = false := decide_eq_false ee
                      have ec : decide (i < nc) = false := decide_eq_false en
                      go_wp2_with fail
                      go_meet
                      case rel => exact ⟨by rw [decide_eq_false (show ¬ (i < nc ∧ 0 < ch ∧ ch < 4096) from by omega)], rfl⟩
                  case rest =>
                    obtain ⟨rfl, rfl⟩ := hcut
                    by_cases hcc2 : i < nc ∧ 0 < ch ∧ ch < 4096
                    · have gcc : decide (i < nc ∧ 0 < ch ∧ ch < 4096) = true := decide_eq_true hcc2
                      obtain ⟨d1, d2, d3⟩ := hcc2
                      have d1' : (i : Int) < (nc : Int) := by omega
                      have dg : decide (ch > 0) = true := decide_eq_true d2
                      obtain ⟨bc, oc, ecc, qc⟩ := (H.out.2.2.1.below S.out.1.bl).at i (by rw [← HN.out.2.2]; exact d1)
                      subst ecc
                      rw [← CH.out] at qc
                      have SB : Hid (staB ⟨#[]⟩ ch = true ∧ szE ((k, ⟨#[]⟩), ch) = 2 + k.size + 0 + 4) := Lib.hid ⟨by unfold staB blkB; rw [if_neg (by omega), decide_eq_true (p := 1 ≤ ch) (by omega), decide_eq_true (p := ch < 4096) d3]; rfl, by unfold szE; simp only; rw [if_neg (by omega)]; rfl⟩
                      as_aux_lemma =>
                        have IC : Hid ((Lit.int .i64 ch).wf = true) := Lib.hid (H.out.2.2.2 _ (by rw [CH.out]; exact getD_mem (by rw [← HN.out.2.2]; exact d1)))
                        have k1 : wr.cell? ⟨gn, 1, none⟩ = some (.slice ae nE cE) := (node_cells S.out.1.m).2.1
                        have LE : Hid (es.length ≤ 4000000 ∧ w.heap.size ≤ wr.heap.size) := Lib.hid ⟨by have := S.out.2.2.1; omega, S.out.1.bl.size⟩
                        have M1 : True := trivial
                        go_wp2_with (first
                          | (at_builtin; clear M1; refine app_entB rfl (.tmp 91) (.tmp 95) rfl rfl S.out.1.e LE.out.2 k ⟨#[]⟩ rfl LE.out.1 ?_; intro a3 n3 c3 w7 H7
                             have G7 := Lib.hid (S.out.1.growE H7.out.2)
                             have f7 : w7.frozen? ⟨gn, 1, none⟩ = false := frozen_of_row _ _ _ _ _ G7.out.1
                             have z7 : w7.cell? ⟨gn, 1, none⟩ = some (.slice ae nE cE) := (node_cells G7.out.1).2.1
                             obtain ⟨W8, hW8⟩ : ∃ W8, w7.setCell ⟨gn, 1, none⟩ (.slice a3 n3 c3) = W8 := ⟨_, rfl⟩
                             have S8 := Lib.hid (S.out.1.appE H7.out.1 H7.out.2)
                             rw [hW8] at S8
                             have k8 : W8.cell? ⟨gn, 2, none⟩ = some (.slice ac nC cC) := (node_cells S8.out.m).2.2.1
                             have LC : Hid (cz.length ≤ 4000000 ∧ w.heap.size ≤ W8.heap.size) := Lib.hid ⟨by rw [S.out.2.1.l]; exact LE.out.1, S8.out.bl.size⟩
                             clear k1)
                          | (at_builtin; refine app_intB rfl (.tmp 99) (.tmp 101) rfl rfl S8.out.c LC.out.2 ch rfl LC.out.1 ?_; intro a4 n4 c4 w9 H9
                             have G9 := Lib.hid (S8.out.growC H9.out.2)
                             have f9 : w9.frozen? ⟨gn, 2, none⟩ = false := frozen_of_row _ _ _ _ _ G9.out.1
                             have z9' : w9.cell? ⟨gn, 2, none⟩ = some (.slice ac nC cC) := (node_cells G9.out.1).2.2.1
                             obtain ⟨W10, hW10⟩ : ∃ W10, w9.setCell ⟨gn, 2, none⟩ (.slice a4 n4 c4) = W10 := ⟨_, rfl⟩
                             have S10 := Lib.hid (S8.out.appC H9.out.1 H9.out.2)
                             rw [hW10] at S10
                             clear k8 hW8 f7 z7))
                        obtain ⟨sy, hsy⟩ : ∃ sy, sy = sz + szE ((k, ⟨#[]⟩), ch) := ⟨_, rfl⟩
                        have GD : Hid (Gd k (es ++ [(k, ⟨#[]⟩)]) (cz ++ [ch]) sy) := Lib.hid (by rw [hsy]; exact S.out.2.1.step FO.out SB.out.1)
                        rw [SB.out.2] at hsy
                        go_roundg (nk - (i + 1))
                        case measure => have := GI.out; omega
                        case rel => exact ⟨i + 1, sy, k, es ++ [(k, ⟨#[]⟩)], cz ++ [ch], a3, n3, c3, a4, n4, c4, by omega, rfl, congrArg (Value.int .i64) (by simp only [hsy]; omega), rfl, by go_num, Lib.hid ⟨S10.out, GD.out, by have := S.out.2.2.1; simp; omega, (fun n hn => by rcases List.mem_append.1 hn with z | z; exact S.out.2.2.2 n z; rw [List.mem_singleton.1 z]; exact IC.out)⟩⟩
                    · have gcc : decide (i < nc ∧ 0 < ch ∧ ch < 4096) = false := decide_eq_false hcc2
                      by_cases h64 : 64 < v.size
                      · have g64 : decide ((v.size : Int) > 64) = true := decide_eq_true (by omega)
                        as_aux_lemma =>
                          obtain ⟨u, hu⟩ : ∃ u, u = v.extract 0 64 := ⟨_, rfl⟩
                          have us : u.size = 64 := by rw [hu]; simp [ByteArray.size_extract]; omega
                          have SB : Hid (staB u 0 = true ∧ szE ((k, u), 0) = 2 + k.size + 64 + 0) := Lib.hid ⟨by unfold staB; rw [if_pos rfl, us]; rfl, by simp [szE, us]⟩
                          have hu' := hu.symm
                          have z64 : 64 ≤ v.size := by omega
                          clear hu
                          have IC : Hid ((Lit.int .i64 0).wf = true) := Lib.hid rfl
                          have k1 : wr.cell? ⟨gn, 1, none⟩ = some (.slice ae nE cE) := (node_cells S.out.1.m).2.1
                          have LE : Hid (es.length ≤ 4000000 ∧ w.heap.size ≤ wr.heap.size) := Lib.hid ⟨by have := S.out.2.2.1; omega, S.out.1.bl.size⟩
                          have M1 : True := trivial
                          go_wp2_with (first
                            | (at_builtin; clear M1; refine app_entB rfl (.tmp 91) (.tmp 95) rfl rfl S.out.1.e LE.out.2 k u rfl LE.out.1 ?_; intro a3 n3 c3 w7 H7
                               have G7 := Lib.hid (S.out.1.growE H7.out.2)
                               have f7 : w7.frozen? ⟨gn, 1, none⟩ = false := frozen_of_row _ _ _ _ _ G7.out.1
                               have z7 : w7.cell? ⟨gn, 1, none⟩ = some (.slice ae nE cE) := (node_cells G7.out.1).2.1
                               obtain ⟨W8, hW8⟩ : ∃ W8, w7.setCell ⟨gn, 1, none⟩ (.slice a3 n3 c3) = W8 := ⟨_, rfl⟩
                               have S8 := Lib.hid (S.out.1.appE H7.out.1 H7.out.2)
                               rw [hW8] at S8
                               have k8 : W8.cell? ⟨gn, 2, none⟩ = some (.slice ac nC cC) := (node_cells S8.out.m).2.2.1
                               have LC : Hid (cz.length ≤ 4000000 ∧ w.heap.size ≤ W8.heap.size) := Lib.hid ⟨by rw [S.out.2.1.l]; exact LE.out.1, S8.out.bl.size⟩
                               clear k1)
                            | (at_builtin; refine app_intB rfl (.tmp 99) (.tmp 101) rfl rfl S8.out.c LC.out.2 0 rfl LC.out.1 ?_; intro a4 n4 c4 w9 H9
                               have G9 := Lib.hid (S8.out.growC H9.out.2)
                               have f9 : w9.frozen? ⟨gn, 2, none⟩ = false := frozen_of_row _ _ _ _ _ G9.out.1
                               have z9' : w9.cell? ⟨gn, 2, none⟩ = some (.slice ac nC cC) := (node_cells G9.out.1).2.2.1
                               obtain ⟨W10, hW10⟩ : ∃ W10, w9.setCell ⟨gn, 2, none⟩ (.slice a4 n4 c4) = W10 := ⟨_, rfl⟩
                               have S10 := Lib.hid (S8.out.appC H9.out.1 H9.out.2)
                               rw [hW10] at S10
                               clear k8 hW8 f7 z7))
                          obtain ⟨sy, hsy⟩ : ∃ sy, sy = sz + szE ((k, u), 0) := ⟨_, rfl⟩
                          have GD : Hid (Gd k (es ++ [(k, u)]) (cz ++ [0]) sy) := Lib.hid (by rw [hsy]; exact S.out.2.1.step FO.out SB.out.1)
                          rw [SB.out.2] at hsy
                          go_roundg (nk - (i + 1))
                          case measure => have := GI.out; omega
                          case rel => exact ⟨i + 1, sy, k, es ++ [(k, u)], cz ++ [0], a3, n3, c3, a4, n4, c4, by omega, rfl, congrArg (Value.int .i64) (by simp only [hsy]; omega), rfl, by go_num, Lib.hid ⟨S10.out, GD.out, by have := S.out.2.2.1; simp; omega, (fun n hn => by rcases List.mem_append.1 hn with z | z; exact S.out.2.2.2 n z; rw [List.mem_singleton.1 z]; exact IC.out)⟩⟩
                      · have g64 : decide ((v.size : Int) > 64) = false := decide_eq_false (by omega)
                        have SB : Hid (staB v 0 = true ∧ szE ((k, v), 0) = 2 + k.size + v.size + 0) := Lib.hid ⟨by unfold staB; rw [if_pos rfl, decide_eq_true (p := v.size ≤ 64) (by omega)], by simp [szE]⟩
                        have z9 : v.size ≤ 64 := by omega
                        as_aux_lemma =>
                          have IC : Hid ((Lit.int .i64 0).wf = true) := Lib.hid rfl
                          have k1 : wr.cell? ⟨gn, 1, none⟩ = some (.slice ae nE cE) := (node_cells S.out.1.m).2.1
                          have LE : Hid (es.length ≤ 4000000 ∧ w.heap.size ≤ wr.heap.size) := Lib.hid ⟨by have := S.out.2.2.1; omega, S.out.1.bl.size⟩
                          have M1 : True := trivial
                          go_wp2_with (first
                            | (at_builtin; clear M1; refine app_entB rfl (.tmp 91) (.tmp 95) rfl rfl S.out.1.e LE.out.2 k v rfl LE.out.1 ?_; intro a3 n3 c3 w7 H7
                               have G7 := Lib.hid (S.out.1.growE H7.out.2)
                               have f7 : w7.frozen? ⟨gn, 1, none⟩ = false := frozen_of_row _ _ _ _ _ G7.out.1
                               have z7 : w7.cell? ⟨gn, 1, none⟩ = some (.slice ae nE cE) := (node_cells G7.out.1).2.1
                               obtain ⟨W8, hW8⟩ : ∃ W8, w7.setCell ⟨gn, 1, none⟩ (.slice a3 n3 c3) = W8 := ⟨_, rfl⟩
                               have S8 := Lib.hid (S.out.1.appE H7.out.1 H7.out.2)
                               rw [hW8] at S8
                               have k8 : W8.cell? ⟨gn, 2, none⟩ = some (.slice ac nC cC) := (node_cells S8.out.m).2.2.1
                               have LC : Hid (cz.length ≤ 4000000 ∧ w.heap.size ≤ W8.heap.size) := Lib.hid ⟨by rw [S.out.2.1.l]; exact LE.out.1, S8.out.bl.size⟩
                               clear k1)
                            | (at_builtin; refine app_intB rfl (.tmp 99) (.tmp 101) rfl rfl S8.out.c LC.out.2 0 rfl LC.out.1 ?_; intro a4 n4 c4 w9 H9
                               have G9 := Lib.hid (S8.out.growC H9.out.2)
                               have f9 : w9.frozen? ⟨gn, 2, none⟩ = false := frozen_of_row _ _ _ _ _ G9.out.1
                               have z9' : w9.cell? ⟨gn, 2, none⟩ = some (.slice ac nC cC) := (node_cells G9.out.1).2.2.1
                               obtain ⟨W10, hW10⟩ : ∃ W10, w9.setCell ⟨gn, 2, none⟩ (.slice a4 n4 c4) = W10 := ⟨_, rfl⟩
                               have S10 := Lib.hid (S8.out.appC H9.out.1 H9.out.2)
                               rw [hW10] at S10
                               clear k8 hW8 f7 z7))
                          obtain ⟨sy, hsy⟩ : ∃ sy, sy = sz + szE ((k, v), 0) := ⟨_, rfl⟩
                          have GD : Hid (Gd k (es ++ [(k, v)]) (cz ++ [0]) sy) := Lib.hid (by rw [hsy]; exact S.out.2.1.step FO.out SB.out.1)
                          rw [SB.out.2] at hsy
                          go_roundg (nk - (i + 1))
                          case measure => have := GI.out; omega
                          case rel => exact ⟨i + 1, sy, k, es ++ [(k, v)], cz ++ [0], a3, n3, c3, a4, n4, c4, by omega, rfl, congrArg (Value.int .i64) (by simp only [hsy]; omega), rfl, by go_num, Lib.hid ⟨S10.out, GD.out, by have := S.out.2.2.1; simp; omega, (fun n hn => by rcases List.mem_append.1 hn with z | z; exact S.out.2.2.2 n z; rw [List.mem_singleton.1 z]; exact IC.out)⟩⟩
              · have b4 : decide ((k.size : Int) > 120) = true := decide_eq_true (by omega)
                as_aux_lemma =>
                  go_wp2_with fail
                  go_roundg (nk - (i + 1))
                  case measure => have := GI.out; omega
                  case rel => exact ⟨i + 1, sz, last, es, cz, ae, nE, cE, ac, nC, cC, by omega, rfl, rfl, rfl, by go_num, Lib.hid ⟨S.out.1, S.out.2.1, by have := S.out.2.2.1; omega, S.out.2.2.2⟩⟩
      · have gin : decide (i < nk ∧ i < nv) = false := decide_eq_false hin
        as_aux_lemma =>
          clear GI SL
          have NE : Hid (nE = es.length ∧ nC = cz.length) := Lib.hid (by
            obtain ⟨_, _, q1, _, _⟩ := S.out.1.e.ents.len
            obtain ⟨_, _, q2, _, _⟩ := S.out.1.c.len
            simp only [Value.slice.injEq] at q1 q2
            exact ⟨q1.2.1, q2.2.1⟩)
          have LE : Hid (es.length ≤ 3000000 ∧ cz.length ≤ 3000000 ∧ Sz (lf es cz)) := Lib.hid (by
            have q1 := S.out.2.2.1
            have q2 := S.out.2.1.l
            have hi2 : i ≤ 2000000 := by omega
            exact ⟨by omega, by omega, sz_of (by omega) (by omega) (by simp) S.out.2.2.2⟩)
          clear hi
          have k1 : wr.cell? ⟨gn, 1, none⟩ = some (.slice ae nE cE) := (node_cells S.out.1.m).2.1
          by_cases hz : nE = 0
          · subst hz
            as_aux_lemma =>
              have NO : Hid (sizeN (lf es cz) = -1 ∧ fitB (lf es cz) = false) := Lib.hid (size_no _ rfl (fun q => ((leaf_iff _).1 q).e (by show es.length = 0; exact NE.out.1.symm)))
              have SZ := Lib.hid (Size_any (lf es cz) ⟨.slice ae 0 cE, .slice ac nC cC, .slice none 0 0, .slice none 0 0⟩ wr (S.out.1.ls em_nil em_nil) LE.out.2.2)
              rw [NO.out.1] at SZ
              unfold Nd.arr lf at SZ
              simp only at SZ
              clear k1
              obtain ⟨p0, p1, p2, p3, p4, p5, p6⟩ := node_cells S.out.1.m
              go_wp2_with fail
              refine SZ.out.mono ?_
              rintro e W2 ⟨rfl, hb⟩
              have S2 := Lib.hid (S.out.1.below hb)
              have FT := Lib.hid (Fits_any (lf es cz) ⟨.slice ae 0 cE, .slice ac nC cC, .slice none 0 0, .slice none 0 0⟩ W2 (S2.out.ls em_nil em_nil) LE.out.2.2)
              rw [NO.out.2] at FT
              unfold Nd.arr lf at FT
              simp only at FT
              clear p0 p1 p2 p3 p4 p5 p6
              clear SZ hb
              obtain ⟨p0, p1, p2, p3, p4, p5, p6⟩ := node_cells S2.out.m
              go_wp2_with fail
              refine FT.out.mono ?_
              rintro e W3 ⟨rfl, hb⟩
              have B3 := Lib.hid (S2.out.bl.trans (hb.mono S2.out.bl.size))
              clear p0 p1 p2 p3 p4 p5 p6
              clear FT hb
              go_wp2_with fail
              go_ret
              exact ⟨rfl, B3.out⟩
          · have gz : (nE == 0) = false := by rw [beq_eq_false_iff_ne]; exact hz
            have gz2 : ((nE : Int) == 0) = false := by rw [beq_eq_false_iff_ne]; omega
            have NZ : Hid (es.length ≠ 0) := Lib.hid (by rw [← NE.out.1]; exact hz)
            as_aux_lemma =>
              have SZ0 : Hid (sizeN (lf es cz) = (sz : Int) ∧ fitB (lf es cz) = decide ((sz : Int) ≤ 512)) := Lib.hid (S.out.2.1.leaf NZ.out)
              clear k1
              have CP := Lib.hid (copied_any (lf es cz) ⟨.slice ae nE cE, .slice ac nC cC, .slice none 0 0, .slice none 0 0⟩ wr (S.out.1.ls em_nil em_nil) (by have := LE.out.1; show es.length < _; omega) ⟨by have := LE.out.2.1; show cz.length < _; omega, by simp [lf], by simp [lf]⟩)
              unfold Nd.arr lf at CP
              simp only at CP
              obtain ⟨p0, p1, p2, p3, p4, p5, p6⟩ := node_cells S.out.1.m
              go_wp2_with fail
              refine CP.out.mono ?_
              rintro e W2 ⟨⟨u1, u2, u3, u4⟩, rfl, oe, oc, os, oh, -, hb⟩
              simp only at oe oc os oh
              clear p0 p1 p2 p3 p4 p5 p6
              clear CP
              have S2 := Lib.hid (S.out.1.below hb)
              have SZ := Lib.hid (Size_any (lf es cz) ⟨u1, u2, u3, u4⟩ W2 ⟨oe.ents, oc.ints, os.strs, oh.ints⟩ LE.out.2.2)
              rw [SZ0.out.1] at SZ
              unfold Nd.arr lf at SZ
              simp only at SZ
              clear oe oc os oh hb
              go_wp2_with fail
              refine SZ.out.mono ?_
              rintro e W3 ⟨rfl, hb⟩
              have S3 := Lib.hid (S2.out.below hb)
              clear SZ hb S2
              have CP := Lib.hid (copied_any (lf es cz) ⟨.slice ae nE cE, .slice ac nC cC, .slice none 0 0, .slice none 0 0⟩ W3 (S3.out.ls em_nil em_nil) (by have := LE.out.1; show es.length < _; omega) ⟨by have := LE.out.2.1; show cz.length < _; omega, by simp [lf], by simp [lf]⟩)
              unfold Nd.arr lf at CP
              simp only at CP
              obtain ⟨p0, p1, p2, p3, p4, p5, p6⟩ := node_cells S3.out.m
              go_wp2_with fail
              refine CP.out.mono ?_
              rintro e W4 ⟨⟨u1, u2, u3, u4⟩, rfl, oe, oc, os, oh, -, hb⟩
              simp only at oe oc os oh
              clear p0 p1 p2 p3 p4 p5 p6
              clear CP
              have S4 := Lib.hid (S3.out.below hb)
              have FT := Lib.hid (Fits_any (lf es cz) ⟨u1, u2, u3, u4⟩ W4 ⟨oe.ents, oc.ints, os.strs, oh.ints⟩ LE.out.2.2)
              rw [SZ0.out.2] at FT
              unfold Nd.arr lf at FT
              simp only at FT
              clear oe oc os oh hb S3
              obtain ⟨bb, hbb⟩ : ∃ bb, bb = decide ((sz : Int) ≤ 512) := ⟨_, rfl⟩
              rw [← hbb] at FT
              have hbb' := hbb.symm
              clear hbb
              go_wp2_with fail
              refine FT.out.mono ?_
              rintro e W5 ⟨rfl, hb⟩
              have S5 := Lib.hid (S4.out.below hb)
              clear FT hb S4
              have CP := Lib.hid (copied_any (lf es cz) ⟨.slice ae nE cE, .slice ac nC cC, .slice none 0 0, .slice none 0 0⟩ W5 (S5.out.ls em_nil em_nil) (by have := LE.out.1; show es.length < _; omega) ⟨by have := LE.out.2.1; show cz.length < _; omega, by simp [lf], by simp [lf]⟩)
              unfold Nd.arr lf at CP
              simp only at CP
              obtain ⟨p0, p1, p2, p3, p4, p5, p6⟩ := node_cells S5.out.m
              go_wp2_with fail
              refine CP.out.mono ?_
              rintro e W6 ⟨⟨u1, u2, u3, u4⟩, rfl, oe, oc, os, oh, -, hb⟩
              simp only at oe oc os oh
              clear p0 p1 p2 p3 p4 p5 p6
              clear CP
              have EM : Hid (Em u3 ∧ Em u4) := Lib.hid ⟨em_s os, em_i oh⟩
              obtain ⟨m1, m2, q1, _, _⟩ := oe.ents.len
              obtain ⟨m3, m4, q2, _, _⟩ := oc.len
              obtain ⟨m5, m6, q3, _, _⟩ := os.strs.len
              obtain ⟨m7, m8, q4, _, _⟩ := oh.len
              subst q1 q2 q3 q4
              obtain ⟨ne, hne⟩ : ∃ ne, ne = es.length := ⟨_, rfl⟩
              obtain ⟨ncc, hncc⟩ : ∃ ncc, ncc = cz.length := ⟨_, rfl⟩
              simp only [← hne, ← hncc, List.length_nil] at oe oc EM ⊢
              have LQ : Hid (ne = es.length ∧ ncc = cz.length ∧ es.length ≠ 0 ∧ cz.length = es.length) := Lib.hid ⟨hne, hncc, NZ.out, S.out.2.1.l⟩
              obtain ⟨Z, hZ⟩ : ∃ Z, Z = W6.alloc (.cells #[.int .i64 0, .slice none 0 0, .slice none 0 0, .slice none 0 0, .slice none 0 0, .int .i64 0, .string ⟨#[]⟩] 27) := ⟨_, rfl⟩
              obtain ⟨gm, hgm⟩ : ∃ gm, gm = W6.heap.size := ⟨_, rfl⟩
              have ZR : Hid (Z.heap[gm]? = some (.cells #[.int .i64 0, .slice none 0 0, .slice none 0 0, .slice none 0 0, .slice none 0 0, .int .i64 0, .string ⟨#[]⟩] 27 (0, 0))) := Lib.hid (by rw [hZ, hgm, heap_alloc_new])
              obtain ⟨X, hX⟩ : ∃ X, Z.setRow gm #[.int .i64 1, .slice m1 ne m2, .slice m3 ncc m4, .slice m5 0 m6, .slice m7 0 m8, .int .i64 0, .string ⟨#[]⟩] = X := ⟨_, rfl⟩
              have SM : Hid (Bn w X gm 1 0 (.slice m1 ne m2) (.slice m3 ncc m4) (.slice m5 0 m6) (.slice m7 0 m8) es cz) := Lib.hid (by
                have z5 := S5.out.bl.size
                have z6 := hb.size
                have b2 : Below W6.heap.size W6 Z := by rw [hZ]; exact (Below.refl _ _).alloc (Nat.le_refl _) _
                have b3 : Below w.heap.size w W6 := S5.out.bl.trans (hb.mono S5.out.bl.size)
                have b4 : Below w.heap.size w Z := b3.trans (b2.mono b3.size)
                have ks := kept_setRow Z gm #[.int .i64 1, .slice m1 ne m2, .slice m3 ncc m4, .slice m5 0 m6, .slice m7 0 m8, .int .i64 0, .string ⟨#[]⟩]
                rw [hX] at ks
                refine ⟨by rw [← hX]; exact setRow_heap _ _ _ _ _ _ ZR.out, ((oe.mono z5).below b2).kept ks (fun y hy e => ?_), ((oc.mono z5).below b2).kept ks (fun y hy e => ?_), b4.trans (ks.below b4.size (fun x hx => by omega)), by omega⟩
                · have := (oe.lt y hy).2; omega
                · have := (oc.lt y hy).2; omega)
              have ON : Hid ((#[.int .i64 1, .slice m1 ne m2, .slice m3 ncc m4, .slice m5 0 m6, .slice m7 0 m8, .int .i64 0, .string ⟨#[]⟩] : Array Value).all (·.oneCell') = true) := Lib.hid (by simp [Value.oneCell'])
              have hZ' := hZ.symm
              have hgm' := hgm.symm
              clear hZ hgm hb oe oc os oh S5 hne hncc NE
              go_upto_region 32 with (refine wpList_store_row rfl 27 (.tmp 17) (.tmp 130) rfl gm #[.int .i64 1, .slice m1 ne m2, .slice m3 ncc m4, .slice m5 0 m6, .slice m7 0 m8, .int .i64 0, .string ⟨#[]⟩] rfl rfl 27 #[.int .i64 0, .slice none 0 0, .slice none 0 0, .slice none 0 0, .slice none 0 0, .int .i64 0, .string ⟨#[]⟩] ZR.out size_node rfl ON.out ?_; rw [hX])
              clear hX hZ' hgm' ZR ON hbb' gz gz2
              by_cases o0 : odd = 0
              · subst o0
                as_aux_lemma =>
                  have p1 : X.cell? ⟨gm, 1, none⟩ = some (.slice m1 ne m2) := (node_cells SM.out.m).2.1
                  have f1 : X.frozen? ⟨gm, 1, none⟩ = false := SM.out.wf 1
                  have LX : Hid (w.heap.size ≤ X.heap.size) := Lib.hid SM.out.bl.size
                  have M1 : True := trivial
                  go_upto_region 53 with (first
                    | (at_builtin; clear M1; refine app_entB rfl (.tmp 137) (.tmp 140) rfl rfl SM.out.e LX.out last ⟨#[]⟩ rfl (by have := LE.out.1; omega) ?_; intro a3 n3 c3 w7 H7
                       have G7 := Lib.hid (SM.out.growE H7.out.2)
                       have f7 : w7.frozen? ⟨gm, 1, none⟩ = false := frozen_of_row _ _ _ _ _ G7.out.1
                       have z7 : w7.cell? ⟨gm, 1, none⟩ = some (.slice m1 ne m2) := (node_cells G7.out.1).2.1
                       obtain ⟨W8, hW8⟩ : ∃ W8, w7.setCell ⟨gm, 1, none⟩ (.slice a3 n3 c3) = W8 := ⟨_, rfl⟩
                       have S8 := Lib.hid (SM.out.appE H7.out.1 H7.out.2)
                       rw [hW8] at S8
                       have k8 : W8.cell? ⟨gm, 2, none⟩ = some (.slice m3 ncc m4) := (node_cells S8.out.m).2.2.1
                       have L8 : Hid (w.heap.size ≤ W8.heap.size) := Lib.hid S8.out.bl.size)
                    | (at_builtin; refine app_intB rfl (.tmp 144) (.tmp 145) rfl rfl S8.out.c L8.out 0 rfl (by have := LE.out.2.1; omega) ?_; intro a4 n4 c4 w9 H9
                       have G9 := Lib.hid (S8.out.growC H9.out.2)
                       have f9 : w9.frozen? ⟨gm, 2, none⟩ = false := frozen_of_row _ _ _ _ _ G9.out.1
                       have z9 : w9.cell? ⟨gm, 2, none⟩ = some (.slice m3 ncc m4) := (node_cells G9.out.1).2.2.1
                       obtain ⟨Y, hY⟩ : ∃ Y, w9.setCell ⟨gm, 2, none⟩ (.slice a4 n4 c4) = Y := ⟨_, rfl⟩
                       have SY := Lib.hid (S8.out.appC H9.out.1 H9.out.2)
                       rw [hY] at SY))
                  clear f9 z9 hY p1 f1 f7 z7 hW8 k8
                  have SP : Hid (Sz ⟨1, es ++ [(last, ⟨#[]⟩)], cz ++ [0], [], [], 0, ⟨#[]⟩⟩) := Lib.hid (sz_of (by have := LE.out.1; simp; omega) (by have := LE.out.2.1; simp; omega) (by simp) (fun n hn => by simp at hn; rcases hn with z | z; exact S.out.2.2.2 n z; rw [z]; rfl))
                  have NO : Hid (sizeN ⟨1, es ++ [(last, ⟨#[]⟩)], cz ++ [0], [], [], 0, ⟨#[]⟩⟩ = -1 ∧ fitB ⟨1, es ++ [(last, ⟨#[]⟩)], cz ++ [0], [], [], 0, ⟨#[]⟩⟩ = false) := Lib.hid (size_no _ rfl (no_snoc S.out.2.1 last ⟨#[]⟩ 0 (fol_self last) _ _ _ _ _))
                  have SZ := Lib.hid (Size_any ⟨1, es ++ [(last, ⟨#[]⟩)], cz ++ [0], [], [], 0, ⟨#[]⟩⟩ ⟨.slice a3 n3 c3, .slice a4 n4 c4, .slice m5 0 m6, .slice m7 0 m8⟩ Y (SY.out.ls EM.out.1 EM.out.2) (SP.out))
                  rw [NO.out.1] at SZ
                  unfold Nd.arr at SZ
                  simp only at SZ
                  obtain ⟨t0, t1, t2, t3, t4, t5, t6⟩ := node_cells SY.out.m
                  go_wp2_with fail
                  refine SZ.out.mono ?_
                  rintro e Wg ⟨rfl, hb⟩
                  have BG := Lib.hid (SY.out.below hb)
                  have FT := Lib.hid (Fits_any ⟨1, es ++ [(last, ⟨#[]⟩)], cz ++ [0], [], [], 0, ⟨#[]⟩⟩ ⟨.slice a3 n3 c3, .slice a4 n4 c4, .slice m5 0 m6, .slice m7 0 m8⟩ Wg (BG.out.ls EM.out.1 EM.out.2) (SP.out))
                  rw [NO.out.2] at FT
                  unfold Nd.arr at FT
                  simp only at FT
                  clear t0 t1 t2 t3 t4 t5 t6
                  clear SZ hb
                  obtain ⟨t0, t1, t2, t3, t4, t5, t6⟩ := node_cells BG.out.m
                  go_wp2_with fail
                  refine FT.out.mono ?_
                  rintro e Wh ⟨rfl, hb⟩
                  have B9 := Lib.hid (BG.out.bl.trans (hb.mono BG.out.bl.size))
                  clear t0 t1 t2 t3 t4 t5 t6
                  clear FT hb
                  go_wp2_with fail
                  go_ret
                  exact ⟨rfl, B9.out⟩
              have g0 : (odd == 0) = false := by rw [beq_eq_false_iff_ne]; exact o0
              by_cases o1 : odd = 1
              · subst o1
                as_aux_lemma =>
                  obtain ⟨gb, hgb⟩ : ∃ gb, gb = X.drew.heap.size := ⟨_, rfl⟩
                  obtain ⟨Y0, hY0⟩ : ∃ Y, Y = X.drew.alloc (.cells (madeCells #[.int .u8 0] 121) 5) := ⟨_, rfl⟩
                  have hm : (Instr.makeSlice 33 (.int .i64 121) (.int .i64 121)).run Try.prog X.drew = .ok (.slice (some ⟨gb, 0, none⟩) 121 121) Y0 := by rw [hY0, hgb]; exact make_bytes X.drew 121 121 rfl rfl (by decide) (by decide)
                  obtain ⟨T1, hT1⟩ : ∃ T1, T1 = txt (List.replicate 121 0) := ⟨_, rfl⟩
                  have cv : (convert 33 9 (.slice (some ⟨gb, 0, none⟩) 121 121)).run Try.prog Y0 = .ok (.string T1) Y0 := by rw [hT1, hY0, hgb]; exact convT (zeros_bytes X.drew 121 (by decide))
                  have TS : Hid (T1.size = 121) := Lib.hid (by rw [hT1]; exact zeros_txt 121)
                  have S0 : Hid (Bn w Y0 gm 1 0 (.slice m1 ne m2) (.slice m3 ncc m4) (.slice m5 0 m6) (.slice m7 0 m8) es cz) := Lib.hid (by
                    have b1 : Below X.drew.heap.size X.drew Y0 := by rw [hY0]; exact (Below.refl _ _).alloc (Nat.le_refl _) _
                    exact (SM.out.below (W' := X.drew) ⟨rfl, rfl, rfl, Nat.le_refl _, fun _ _ => rfl⟩).below b1)
                  clear hgb hY0 hT1
                  have d1 : X.drew.cell? ⟨gm, 1, none⟩ = some (.slice m1 ne m2) := (node_cells SM.out.m).2.1
                  have y1 : Y0.cell? ⟨gm, 1, none⟩ = some (.slice m1 ne m2) := (node_cells S0.out.m).2.1
                  have y2 : ∀ ob, (Y0.alloc ob).cell? ⟨gm, 1, none⟩ = some (.slice m1 ne m2) := fun ob => by rw [((Below.refl Y0.heap.size Y0).alloc (Nat.le_refl _) ob).cell (block_lt_of_cell y1)]; exact y1
                  have L0 : Hid (w.heap.size ≤ Y0.heap.size ∧ es.length + 1 ≤ 4398046511104) := Lib.hid ⟨S0.out.bl.size, by have := LE.out.1; omega⟩
                  go_upto_region 36 with fail
                  go_region_law (first | (refine step_ent rfl (.tmp 151) (.tmp 155) rfl (w0 := Y0) rfl S0.out.e L0.out.1 T1 ⟨#[]⟩ rfl L0.out.2 ?_; intro a3 n3 c3 w7 H7; have G7 := Lib.hid (S0.out.growE H7.out.2); have f7 : w7.frozen? ⟨gm, 1, none⟩ = false := frozen_of_row _ _ _ _ _ G7.out.1; have z7 : w7.cell? ⟨gm, 1, none⟩ = some (.slice m1 ne m2) := (node_cells G7.out.1).2.1))
                  all_goals
                    obtain ⟨W8, hW8⟩ : ∃ W8, w7.setCell ⟨gm, 1, none⟩ (.slice a3 n3 c3) = W8 := ⟨_, rfl⟩
                    have S8 := Lib.hid (S0.out.appE H7.out.1 H7.out.2)
                    rw [hW8] at S8
                    rw [hW8]
                    clear hW8 f7 z7 d1 y1 y2 hm cv
                    have k8 : W8.cell? ⟨gm, 2, none⟩ = some (.slice m3 ncc m4) := (node_cells S8.out.m).2.2.1
                    have L8 : Hid (w.heap.size ≤ W8.heap.size) := Lib.hid S8.out.bl.size
                    go_upto_region 53 with (first
                      | (at_builtin; refine app_intB rfl (.tmp 159) (.tmp 160) rfl rfl S8.out.c L8.out 0 rfl (by have := LE.out.2.1; omega) ?_; intro a4 n4 c4 w9 H9
                         have G9 := Lib.hid (S8.out.growC H9.out.2)
                         have f9 : w9.frozen? ⟨gm, 2, none⟩ = false := frozen_of_row _ _ _ _ _ G9.out.1
                         have z9 : w9.cell? ⟨gm, 2, none⟩ = some (.slice m3 ncc m4) := (node_cells G9.out.1).2.2.1
                         obtain ⟨Y, hY⟩ : ∃ Y, w9.setCell ⟨gm, 2, none⟩ (.slice a4 n4 c4) = Y := ⟨_, rfl⟩
                         have SY := Lib.hid (S8.out.appC H9.out.1 H9.out.2)
                         rw [hY] at SY))
                    clear f9 z9 hY k8
                    have SP : Hid (Sz ⟨1, es ++ [(T1, ⟨#[]⟩)], cz ++ [0], [], [], 0, ⟨#[]⟩⟩) := Lib.hid (sz_of (by have := LE.out.1; simp; omega) (by have := LE.out.2.1; simp; omega) (by simp) (fun n hn => by simp at hn; rcases hn with z | z; exact S.out.2.2.2 n z; rw [z]; rfl))
                    have NO : Hid (sizeN ⟨1, es ++ [(T1, ⟨#[]⟩)], cz ++ [0], [], [], 0, ⟨#[]⟩⟩ = -1 ∧ fitB ⟨1, es ++ [(T1, ⟨#[]⟩)], cz ++ [0], [], [], 0, ⟨#[]⟩⟩ = false) := Lib.hid (size_no _ rfl (no_snoc S.out.2.1 T1 ⟨#[]⟩ 0 (fol_long last T1 (by rw [TS.out]; decide)) _ _ _ _ _))
                    have SZ := Lib.hid (Size_any ⟨1, es ++ [(T1, ⟨#[]⟩)], cz ++ [0], [], [], 0, ⟨#[]⟩⟩ ⟨.slice a3 n3 c3, .slice a4 n4 c4, .slice m5 0 m6, .slice m7 0 m8⟩ Y (SY.out.ls EM.out.1 EM.out.2) (SP.out))
                    rw [NO.out.1] at SZ
                    unfold Nd.arr at SZ
                    simp only at SZ
                    obtain ⟨t0, t1, t2, t3, t4, t5, t6⟩ := node_cells SY.out.m
                    go_wp2_with fail
                    refine SZ.out.mono ?_
                    rintro e Wg ⟨rfl, hb⟩
                    have BG := Lib.hid (SY.out.below hb)
                    have FT := Lib.hid (Fits_any ⟨1, es ++ [(T1, ⟨#[]⟩)], cz ++ [0], [], [], 0, ⟨#[]⟩⟩ ⟨.slice a3 n3 c3, .slice a4 n4 c4, .slice m5 0 m6, .slice m7 0 m8⟩ Wg (BG.out.ls EM.out.1 EM.out.2) (SP.out))
                    rw [NO.out.2] at FT
                    unfold Nd.arr at FT
                    simp only at FT
                    clear t0 t1 t2 t3 t4 t5 t6
                    clear SZ hb
                    obtain ⟨t0, t1, t2, t3, t4, t5, t6⟩ := node_cells BG.out.m
                    go_wp2_with fail
                    refine FT.out.mono ?_
                    rintro e Wh ⟨rfl, hb⟩
                    have B9 := Lib.hid (BG.out.bl.trans (hb.mono BG.out.bl.size))
                    clear t0 t1 t2 t3 t4 t5 t6
                    clear FT hb
                    go_wp2_with fail
                    go_ret
                    exact ⟨rfl, B9.out⟩
              have g1 : (odd == 1) = false := by rw [beq_eq_false_iff_ne]; exact o1
              by_cases o2 : odd = 2
              · subst o2
                as_aux_lemma =>
                  obtain ⟨⟨k0, x0⟩, er, rfl⟩ : ∃ e er, es = e :: er := by
                    cases es with
                    | nil => exact absurd rfl NZ.out
                    | cons e er => exact ⟨e, er, rfl⟩
                  obtain ⟨y0, cr, rfl⟩ : ∃ c cr, cz = c :: cr := by
                    cases cz with
                    | nil => have := S.out.2.1.l; simp at this
                    | cons c cr => exact ⟨c, cr, rfl⟩
                  obtain ⟨ge, hge, hn1, ce, fe⟩ := own_atE SM.out.e
                  obtain ⟨gc, hgc, hn2, cc9, fc⟩ := own_atC SM.out.c
                  subst hge hgc
                  simp only at ce
                  have hn1' : (0 : Int) < (ne : Int) := by omega
                  have hn2' : (0 : Int) < (ncc : Int) := by omega
                  have GE : Hid (ge ≠ gc) := Lib.hid (fun e => by
                    obtain ⟨q1, e1⟩ := SM.out.e.row (g := ge) rfl
                    obtain ⟨q2, e2⟩ := SM.out.c.row (g := gc) rfl
                    rw [e] at e1
                    exact row_ne e1 e2 (by decide))
                  have fe1 := fe 1
                  have fc0 := fc 0
                  obtain ⟨gb, hgb⟩ : ∃ gb, gb = X.drew.heap.size := ⟨_, rfl⟩
                  obtain ⟨Y0, hY0⟩ : ∃ Y, Y = X.drew.alloc (.cells (madeCells #[.int .u8 0] 65) 5) := ⟨_, rfl⟩
                  have hm : (Instr.makeSlice 33 (.int .i64 65) (.int .i64 65)).run Try.prog X.drew = .ok (.slice (some ⟨gb, 0, none⟩) 65 65) Y0 := by rw [hY0, hgb]; exact make_bytes X.drew 65 65 rfl rfl (by decide) (by decide)
                  obtain ⟨T1, hT1⟩ : ∃ T1, T1 = txt (List.replicate 65 0) := ⟨_, rfl⟩
                  have cv : (convert 33 9 (.slice (some ⟨gb, 0, none⟩) 65 65)).run Try.prog Y0 = .ok (.string T1) Y0 := by rw [hT1, hY0, hgb]; exact convT (zeros_bytes X.drew 65 (by decide))
                  have TS : Hid (T1.size = 65) := Lib.hid (by rw [hT1]; exact zeros_txt 65)
                  have S0 : Hid (Bn w Y0 gm 1 0 (.slice (some ⟨ge, 0, none⟩) ne m2) (.slice (some ⟨gc, 0, none⟩) ncc m4) (.slice m5 0 m6) (.slice m7 0 m8) ((k0, x0) :: er) (y0 :: cr)) := Lib.hid (by
                    have b1 : Below X.drew.heap.size X.drew Y0 := by rw [hY0]; exact (Below.refl _ _).alloc (Nat.le_refl _) _
                    exact (SM.out.below (W' := X.drew) ⟨rfl, rfl, rfl, Nat.le_refl _, fun _ _ => rfl⟩).below b1)
                  clear hgb hY0 hT1
                  have d1 : X.drew.cell? ⟨gm, 1, none⟩ = some (.slice (some ⟨ge, 0, none⟩) ne m2) := (node_cells SM.out.m).2.1
                  have y1 : Y0.cell? ⟨gm, 1, none⟩ = some (.slice (some ⟨ge, 0, none⟩) ne m2) := (node_cells S0.out.m).2.1
                  obtain ⟨_, hh, _, e1, fe2⟩ := own_atE S0.out.e
                  simp only [Option.some.injEq, Addr.mk.injEq, and_true] at hh
                  subst hh
                  simp only at e1
                  have f21 := fe2 1
                  obtain ⟨Y1, hY1⟩ : ∃ Y1, Y0.setCell ⟨ge, 1, none⟩ (.string T1) = Y1 := ⟨_, rfl⟩
                  have S1 := Lib.hid (S0.out.setE T1)
                  rw [hY1] at S1
                  obtain ⟨_, hh, _, c1', fc2⟩ := own_atC S1.out.c
                  simp only [Option.some.injEq, Addr.mk.injEq, and_true] at hh
                  subst hh
                  have f10 := fc2 0
                  have r2 : Y1.cell? ⟨gm, 2, none⟩ = some (.slice (some ⟨gc, 0, none⟩) ncc m4) := (node_cells S1.out.m).2.2.1
                  obtain ⟨Y, hY⟩ : ∃ Y, Y1.setCell ⟨gc, 0, none⟩ (.int .i64 0) = Y := ⟨_, rfl⟩
                  have SY := Lib.hid (S1.out.setC 0)
                  rw [hY] at SY
                  go_upto_region 39 with fail
                  go_region
                  all_goals
                    clear d1 y1 hm cv e1 f21 hY1
                    have SP : Hid (Sz ⟨1, (k0, T1) :: er, 0 :: cr, [], [], 0, ⟨#[]⟩⟩) := Lib.hid (sz_of (by have := LE.out.1; simp at this ⊢; omega) (by have := LE.out.2.1; simp at this ⊢; omega) (by simp) (fun n hn => by simp at hn; rcases hn with z | z; rw [z]; rfl; exact S.out.2.2.2 n (by simp [z])))
                    have NO : Hid (sizeN ⟨1, (k0, T1) :: er, 0 :: cr, [], [], 0, ⟨#[]⟩⟩ = -1 ∧ fitB ⟨1, (k0, T1) :: er, 0 :: cr, [], [], 0, ⟨#[]⟩⟩ = false) := Lib.hid (size_no _ rfl (no_first (e := (k0, T1)) (c := 0) (by unfold staB; rw [if_pos rfl]; simp only; rw [TS.out]; rfl) _ _ _ _ _))
                    have SZ := Lib.hid (Size_any ⟨1, (k0, T1) :: er, 0 :: cr, [], [], 0, ⟨#[]⟩⟩ ⟨.slice (some ⟨ge, 0, none⟩) ne m2, .slice (some ⟨gc, 0, none⟩) ncc m4, .slice m5 0 m6, .slice m7 0 m8⟩ Y (SY.out.ls EM.out.1 EM.out.2) (SP.out))
                    rw [NO.out.1] at SZ
                    unfold Nd.arr at SZ
                    simp only at SZ
                    obtain ⟨t0, t1, t2, t3, t4, t5, t6⟩ := node_cells SY.out.m
                    go_wp2_with fail
                    refine SZ.out.mono ?_
                    rintro e Wg ⟨rfl, hb⟩
                    have BG := Lib.hid (SY.out.below hb)
                    have FT := Lib.hid (Fits_any ⟨1, (k0, T1) :: er, 0 :: cr, [], [], 0, ⟨#[]⟩⟩ ⟨.slice (some ⟨ge, 0, none⟩) ne m2, .slice (some ⟨gc, 0, none⟩) ncc m4, .slice m5 0 m6, .slice m7 0 m8⟩ Wg (BG.out.ls EM.out.1 EM.out.2) (SP.out))
                    rw [NO.out.2] at FT
                    unfold Nd.arr at FT
                    simp only at FT
                    clear t0 t1 t2 t3 t4 t5 t6
                    clear SZ hb
                    obtain ⟨t0, t1, t2, t3, t4, t5, t6⟩ := node_cells BG.out.m
                    go_wp2_with fail
                    refine FT.out.mono ?_
                    rintro e Wh ⟨rfl, hb⟩
                    have B9 := Lib.hid (BG.out.bl.trans (hb.mono BG.out.bl.size))
                    clear t0 t1 t2 t3 t4 t5 t6
                    clear FT hb
                    go_wp2_with fail
                    go_ret
                    exact ⟨rfl, B9.out⟩
              have g2 : (odd == 2) = false := by rw [beq_eq_false_iff_ne]; exact o2
              by_cases o3 : odd = 3
              · subst o3
                as_aux_lemma =>
                  have p2 : X.cell? ⟨gm, 2, none⟩ = some (.slice m3 ncc m4) := (node_cells SM.out.m).2.2.1
                  have f2 : X.frozen? ⟨gm, 2, none⟩ = false := SM.out.wf 2
                  have LX : Hid (w.heap.size ≤ X.heap.size) := Lib.hid SM.out.bl.size
                  go_upto_region 53 with (first
                    | (at_builtin; refine app_intB rfl (.tmp 177) (.tmp 178) rfl rfl SM.out.c LX.out 0 rfl (by have := LE.out.2.1; omega) ?_; intro a4 n4 c4 w9 H9
                       have G9 := Lib.hid (SM.out.growC H9.out.2)
                       have f9 : w9.frozen? ⟨gm, 2, none⟩ = false := frozen_of_row _ _ _ _ _ G9.out.1
                       have z9 : w9.cell? ⟨gm, 2, none⟩ = some (.slice m3 ncc m4) := (node_cells G9.out.1).2.2.1
                       obtain ⟨Y, hY⟩ : ∃ Y, w9.setCell ⟨gm, 2, none⟩ (.slice a4 n4 c4) = Y := ⟨_, rfl⟩
                       have SY := Lib.hid (SM.out.appC H9.out.1 H9.out.2)
                       rw [hY] at SY))
                  clear f9 z9 hY p2 f2
                  have SP : Hid (Sz ⟨1, es, cz ++ [0], [], [], 0, ⟨#[]⟩⟩) := Lib.hid (sz_of (by have := LE.out.1; simp; omega) (by have := LE.out.2.1; simp; omega) (by simp) (fun n hn => by simp at hn; rcases hn with z | z; exact S.out.2.2.2 n z; rw [z]; rfl))
                  have NO : Hid (sizeN ⟨1, es, cz ++ [0], [], [], 0, ⟨#[]⟩⟩ = -1 ∧ fitB ⟨1, es, cz ++ [0], [], [], 0, ⟨#[]⟩⟩ = false) := Lib.hid (size_no _ rfl (fun q => by have := ((leaf_iff _).1 q).c; simp only [List.length_append, List.length_singleton] at this; have := S.out.2.1.l; omega))
                  have SZ := Lib.hid (Size_any ⟨1, es, cz ++ [0], [], [], 0, ⟨#[]⟩⟩ ⟨.slice m1 ne m2, .slice a4 n4 c4, .slice m5 0 m6, .slice m7 0 m8⟩ Y (SY.out.ls EM.out.1 EM.out.2) (SP.out))
                  rw [NO.out.1] at SZ
                  unfold Nd.arr at SZ
                  simp only at SZ
                  obtain ⟨t0, t1, t2, t3, t4, t5, t6⟩ := node_cells SY.out.m
                  go_wp2_with fail
                  refine SZ.out.mono ?_
                  rintro e Wg ⟨rfl, hb⟩
                  have BG := Lib.hid (SY.out.below hb)
                  have FT := Lib.hid (Fits_any ⟨1, es, cz ++ [0], [], [], 0, ⟨#[]⟩⟩ ⟨.slice m1 ne m2, .slice a4 n4 c4, .slice m5 0 m6, .slice m7 0 m8⟩ Wg (BG.out.ls EM.out.1 EM.out.2) (SP.out))
                  rw [NO.out.2] at FT
                  unfold Nd.arr at FT
                  simp only at FT
                  clear t0 t1 t2 t3 t4 t5 t6
                  clear SZ hb
                  obtain ⟨t0, t1, t2, t3, t4, t5, t6⟩ := node_cells BG.out.m
                  go_wp2_with fail
                  refine FT.out.mono ?_
                  rintro e Wh ⟨rfl, hb⟩
                  have B9 := Lib.hid (BG.out.bl.trans (hb.mono BG.out.bl.size))
                  clear t0 t1 t2 t3 t4 t5 t6
                  clear FT hb
                  go_wp2_with fail
                  go_ret
                  exact ⟨rfl, B9.out⟩
              have g3 : (odd == 3) = false := by rw [beq_eq_false_iff_ne]; exact o3
              by_cases o4 : odd = 4
              · subst o4
                as_aux_lemma =>
                  have p5 : X.cell? ⟨gm, 5, none⟩ = some (.int .i64 0) := (node_cells SM.out.m).2.2.2.2.2.1
                  have f5 : X.frozen? ⟨gm, 5, none⟩ = false := SM.out.wf 5
                  obtain ⟨Y, hY⟩ : ∃ Y, X.setCell ⟨gm, 5, none⟩ (.int .i64 1) = Y := ⟨_, rfl⟩
                  have SY : Hid (Bn w Y gm 1 1 (.slice m1 ne m2) (.slice m3 ncc m4) (.slice m5 0 m6) (.slice m7 0 m8) es cz) := Lib.hid (by rw [← hY]; exact SM.out.box 5 (.int .i64 1) rfl SM.out.e SM.out.c)
                  have SP : Hid (Sz ⟨1, es, cz, [], [], 1, ⟨#[]⟩⟩) := Lib.hid (sz_of (by have := LE.out.1; omega) (by have := LE.out.2.1; omega) (by simp) S.out.2.2.2)
                  have NO : Hid (sizeN ⟨1, es, cz, [], [], 1, ⟨#[]⟩⟩ = -1 ∧ fitB ⟨1, es, cz, [], [], 1, ⟨#[]⟩⟩ = false) := Lib.hid (size_no _ rfl (fun q => absurd ((leaf_iff _).1 q).n0 (show ¬ (1 : Int) = 0 by decide)))
                  have SZ := Lib.hid (Size_any ⟨1, es, cz, [], [], 1, ⟨#[]⟩⟩ ⟨.slice m1 ne m2, .slice m3 ncc m4, .slice m5 0 m6, .slice m7 0 m8⟩ Y (SY.out.ls EM.out.1 EM.out.2) (SP.out))
                  rw [NO.out.1] at SZ
                  unfold Nd.arr at SZ
                  simp only at SZ
                  obtain ⟨t0, t1, t2, t3, t4, t5, t6⟩ := node_cells SY.out.m
                  go_wp2_with fail
                  refine SZ.out.mono ?_
                  rintro e Wg ⟨rfl, hb⟩
                  have BG := Lib.hid (SY.out.below hb)
                  have FT := Lib.hid (Fits_any ⟨1, es, cz, [], [], 1, ⟨#[]⟩⟩ ⟨.slice m1 ne m2, .slice m3 ncc m4, .slice m5 0 m6, .slice m7 0 m8⟩ Wg (BG.out.ls EM.out.1 EM.out.2) (SP.out))
                  rw [NO.out.2] at FT
                  unfold Nd.arr at FT
                  simp only at FT
                  clear t0 t1 t2 t3 t4 t5 t6
                  clear SZ hb
                  obtain ⟨t0, t1, t2, t3, t4, t5, t6⟩ := node_cells BG.out.m
                  go_wp2_with fail
                  refine FT.out.mono ?_
                  rintro e Wh ⟨rfl, hb⟩
                  have B9 := Lib.hid (BG.out.bl.trans (hb.mono BG.out.bl.size))
                  clear t0 t1 t2 t3 t4 t5 t6
                  clear FT hb
                  go_wp2_with fail
                  go_ret
                  exact ⟨rfl, B9.out⟩
              have g4 : (odd == 4) = false := by rw [beq_eq_false_iff_ne]; exact o4
              by_cases o5 : odd = 5
              · subst o5
                as_aux_lemma =>
                  obtain ⟨⟨k0, x0⟩, er, rfl⟩ : ∃ e er, es = e :: er := by
                    cases es with
                    | nil => exact absurd rfl NZ.out
                    | cons e er => exact ⟨e, er, rfl⟩
                  obtain ⟨y0, cr, rfl⟩ : ∃ c cr, cz = c :: cr := by
                    cases cz with
                    | nil => have := S.out.2.1.l; simp at this
                    | cons c cr => exact ⟨c, cr, rfl⟩
                  obtain ⟨ge, hge, hn1, ce, fe⟩ := own_atE SM.out.e
                  obtain ⟨gc, hgc, hn2, cc9, fc⟩ := own_atC SM.out.c
                  subst hge hgc
                  simp only at ce
                  have hn1' : (0 : Int) < (ne : Int) := by omega
                  have hn2' : (0 : Int) < (ncc : Int) := by omega
                  have GE : Hid (ge ≠ gc) := Lib.hid (fun e => by
                    obtain ⟨q1, e1⟩ := SM.out.e.row (g := ge) rfl
                    obtain ⟨q2, e2⟩ := SM.out.c.row (g := gc) rfl
                    rw [e] at e1
                    exact row_ne e1 e2 (by decide))
                  have p1 : X.cell? ⟨gm, 1, none⟩ = some (.slice (some ⟨ge, 0, none⟩) ne m2) := (node_cells SM.out.m).2.1
                  have f1 : X.frozen? ⟨gm, 1, none⟩ = false := SM.out.wf 1
                  have p2 : X.cell? ⟨gm, 2, none⟩ = some (.slice (some ⟨gc, 0, none⟩) ncc m4) := (node_cells SM.out.m).2.2.1
                  have f2 : X.frozen? ⟨gm, 2, none⟩ = false := SM.out.wf 2
                  have fe1 := fe 1
                  have fc0 := fc 0
                  obtain ⟨Y1, hY1⟩ : ∃ Y1, X.setCell ⟨ge, 1, none⟩ (.string ⟨#[118]⟩) = Y1 := ⟨_, rfl⟩
                  have S1 : Hid (Bn w Y1 gm 1 0 (.slice (some ⟨ge, 0, none⟩) ne m2) (.slice (some ⟨gc, 0, none⟩) ncc m4) (.slice m5 0 m6) (.slice m7 0 m8) ((k0, ⟨#[118]⟩) :: er) (y0 :: cr)) := Lib.hid (by rw [← hY1]; exact SM.out.setE ⟨#[118]⟩)
                  obtain ⟨Y, hY⟩ : ∃ Y, Y1.setCell ⟨gc, 0, none⟩ (.int .i64 9) = Y := ⟨_, rfl⟩
                  have SY := Lib.hid (S1.out.setC 9)
                  rw [hY] at SY
                  obtain ⟨_, hh, _, c1, f1'⟩ := own_atC S1.out.c
                  simp only [Option.some.injEq, Addr.mk.injEq, and_true] at hh
                  subst hh
                  have f10 := f1' 0
                  have r2 : Y1.cell? ⟨gm, 2, none⟩ = some (.slice (some ⟨gc, 0, none⟩) ncc m4) := (node_cells S1.out.m).2.2.1
                  have SP : Hid (Sz ⟨1, (k0, ⟨#[118]⟩) :: er, 9 :: cr, [], [], 0, ⟨#[]⟩⟩) := Lib.hid (sz_of (by have := LE.out.1; simp at this ⊢; omega) (by have := LE.out.2.1; simp at this ⊢; omega) (by simp) (fun n hn => by simp at hn; rcases hn with z | z; rw [z]; rfl; exact S.out.2.2.2 n (by simp [z])))
                  have NO : Hid (sizeN ⟨1, (k0, ⟨#[118]⟩) :: er, 9 :: cr, [], [], 0, ⟨#[]⟩⟩ = -1 ∧ fitB ⟨1, (k0, ⟨#[118]⟩) :: er, 9 :: cr, [], [], 0, ⟨#[]⟩⟩ = false) := Lib.hid (size_no _ rfl (no_first (e := (k0, ⟨#[118]⟩)) (c := 9) (show staB ⟨#[118]⟩ 9 = false by decide) _ _ _ _ _))
                  have SZ := Lib.hid (Size_any ⟨1, (k0, ⟨#[118]⟩) :: er, 9 :: cr, [], [], 0, ⟨#[]⟩⟩ ⟨.slice (some ⟨ge, 0, none⟩) ne m2, .slice (some ⟨gc, 0, none⟩) ncc m4, .slice m5 0 m6, .slice m7 0 m8⟩ Y (SY.out.ls EM.out.1 EM.out.2) (SP.out))
                  rw [NO.out.1] at SZ
                  unfold Nd.arr at SZ
                  simp only at SZ
                  obtain ⟨t0, t1, t2, t3, t4, t5, t6⟩ := node_cells SY.out.m
                  go_wp2_with fail
                  refine SZ.out.mono ?_
                  rintro e Wg ⟨rfl, hb⟩
                  have BG := Lib.hid (SY.out.below hb)
                  have FT := Lib.hid (Fits_any ⟨1, (k0, ⟨#[118]⟩) :: er, 9 :: cr, [], [], 0, ⟨#[]⟩⟩ ⟨.slice (some ⟨ge, 0, none⟩) ne m2, .slice (some ⟨gc, 0, none⟩) ncc m4, .slice m5 0 m6, .slice m7 0 m8⟩ Wg (BG.out.ls EM.out.1 EM.out.2) (SP.out))
                  rw [NO.out.2] at FT
                  unfold Nd.arr at FT
                  simp only at FT
                  clear t0 t1 t2 t3 t4 t5 t6
                  clear SZ hb
                  obtain ⟨t0, t1, t2, t3, t4, t5, t6⟩ := node_cells BG.out.m
                  go_wp2_with fail
                  refine FT.out.mono ?_
                  rintro e Wh ⟨rfl, hb⟩
                  have B9 := Lib.hid (BG.out.bl.trans (hb.mono BG.out.bl.size))
                  clear t0 t1 t2 t3 t4 t5 t6
                  clear FT hb
                  go_wp2_with fail
                  go_ret
                  exact ⟨rfl, B9.out⟩
              have g5 : (odd == 5) = false := by rw [beq_eq_false_iff_ne]; exact o5
              by_cases o6 : odd = 6
              · subst o6
                as_aux_lemma =>
                  obtain ⟨⟨k0, x0⟩, er, rfl⟩ : ∃ e er, es = e :: er := by
                    cases es with
                    | nil => exact absurd rfl NZ.out
                    | cons e er => exact ⟨e, er, rfl⟩
                  obtain ⟨y0, cr, rfl⟩ : ∃ c cr, cz = c :: cr := by
                    cases cz with
                    | nil => have := S.out.2.1.l; simp at this
                    | cons c cr => exact ⟨c, cr, rfl⟩
                  obtain ⟨ge, hge, hn1, ce, fe⟩ := own_atE SM.out.e
                  obtain ⟨gc, hgc, hn2, cc9, fc⟩ := own_atC SM.out.c
                  subst hge hgc
                  simp only at ce
                  have hn1' : (0 : Int) < (ne : Int) := by omega
                  have hn2' : (0 : Int) < (ncc : Int) := by omega
                  have GE : Hid (ge ≠ gc) := Lib.hid (fun e => by
                    obtain ⟨q1, e1⟩ := SM.out.e.row (g := ge) rfl
                    obtain ⟨q2, e2⟩ := SM.out.c.row (g := gc) rfl
                    rw [e] at e1
                    exact row_ne e1 e2 (by decide))
                  have p1 : X.cell? ⟨gm, 1, none⟩ = some (.slice (some ⟨ge, 0, none⟩) ne m2) := (node_cells SM.out.m).2.1
                  have f1 : X.frozen? ⟨gm, 1, none⟩ = false := SM.out.wf 1
                  have p2 : X.cell? ⟨gm, 2, none⟩ = some (.slice (some ⟨gc, 0, none⟩) ncc m4) := (node_cells SM.out.m).2.2.1
                  have f2 : X.frozen? ⟨gm, 2, none⟩ = false := SM.out.wf 2
                  have fe1 := fe 1
                  have fc0 := fc 0
                  obtain ⟨Y1, hY1⟩ : ∃ Y1, X.setCell ⟨gc, 0, none⟩ (.int .i64 4096) = Y1 := ⟨_, rfl⟩
                  have S1 : Hid (Bn w Y1 gm 1 0 (.slice (some ⟨ge, 0, none⟩) ne m2) (.slice (some ⟨gc, 0, none⟩) ncc m4) (.slice m5 0 m6) (.slice m7 0 m8) ((k0, x0) :: er) (4096 :: cr)) := Lib.hid (by rw [← hY1]; exact SM.out.setC 4096)
                  obtain ⟨Y, hY⟩ : ∃ Y, Y1.setCell ⟨ge, 1, none⟩ (.string ⟨#[]⟩) = Y := ⟨_, rfl⟩
                  have SY := Lib.hid (S1.out.setE ⟨#[]⟩)
                  rw [hY] at SY
                  obtain ⟨_, hh, _, c1, f1'⟩ := own_atE S1.out.e
                  simp only [Option.some.injEq, Addr.mk.injEq, and_true] at hh
                  subst hh
                  simp only at c1
                  have f10 := f1' 1
                  have r2 : Y1.cell? ⟨gm, 1, none⟩ = some (.slice (some ⟨ge, 0, none⟩) ne m2) := (node_cells S1.out.m).2.1
                  have SP : Hid (Sz ⟨1, (k0, ⟨#[]⟩) :: er, 4096 :: cr, [], [], 0, ⟨#[]⟩⟩) := Lib.hid (sz_of (by have := LE.out.1; simp at this ⊢; omega) (by have := LE.out.2.1; simp at this ⊢; omega) (by simp) (fun n hn => by simp at hn; rcases hn with z | z; rw [z]; rfl; exact S.out.2.2.2 n (by simp [z])))
                  have NO : Hid (sizeN ⟨1, (k0, ⟨#[]⟩) :: er, 4096 :: cr, [], [], 0, ⟨#[]⟩⟩ = -1 ∧ fitB ⟨1, (k0, ⟨#[]⟩) :: er, 4096 :: cr, [], [], 0, ⟨#[]⟩⟩ = false) := Lib.hid (size_no _ rfl (no_first (e := (k0, ⟨#[]⟩)) (c := 4096) (show staB ⟨#[]⟩ 4096 = false by decide) _ _ _ _ _))
                  have SZ := Lib.hid (Size_any ⟨1, (k0, ⟨#[]⟩) :: er, 4096 :: cr, [], [], 0, ⟨#[]⟩⟩ ⟨.slice (some ⟨ge, 0, none⟩) ne m2, .slice (some ⟨gc, 0, none⟩) ncc m4, .slice m5 0 m6, .slice m7 0 m8⟩ Y (SY.out.ls EM.out.1 EM.out.2) (SP.out))
                  rw [NO.out.1] at SZ
                  unfold Nd.arr at SZ
                  simp only at SZ
                  obtain ⟨t0, t1, t2, t3, t4, t5, t6⟩ := node_cells SY.out.m
                  go_wp2_with fail
                  refine SZ.out.mono ?_
                  rintro e Wg ⟨rfl, hb⟩
                  have BG := Lib.hid (SY.out.below hb)
                  have FT := Lib.hid (Fits_any ⟨1, (k0, ⟨#[]⟩) :: er, 4096 :: cr, [], [], 0, ⟨#[]⟩⟩ ⟨.slice (some ⟨ge, 0, none⟩) ne m2, .slice (some ⟨gc, 0, none⟩) ncc m4, .slice m5 0 m6, .slice m7 0 m8⟩ Wg (BG.out.ls EM.out.1 EM.out.2) (SP.out))
                  rw [NO.out.2] at FT
                  unfold Nd.arr at FT
                  simp only at FT
                  clear t0 t1 t2 t3 t4 t5 t6
                  clear SZ hb
                  obtain ⟨t0, t1, t2, t3, t4, t5, t6⟩ := node_cells BG.out.m
                  go_wp2_with fail
                  refine FT.out.mono ?_
                  rintro e Wh ⟨rfl, hb⟩
                  have B9 := Lib.hid (BG.out.bl.trans (hb.mono BG.out.bl.size))
                  clear t0 t1 t2 t3 t4 t5 t6
                  clear FT hb
                  go_wp2_with fail
                  go_ret
                  exact ⟨rfl, B9.out⟩
              have g6 : (odd == 6) = false := by rw [beq_eq_false_iff_ne]; exact o6
              by_cases o7 : odd = 7
              · subst o7
                as_aux_lemma =>
                  have p0 : X.cell? ⟨gm, 0, none⟩ = some (.int .i64 1) := (node_cells SM.out.m).1
                  have f0 : X.frozen? ⟨gm, 0, none⟩ = false := SM.out.wf 0
                  obtain ⟨Y, hY⟩ : ∃ Y, X.setCell ⟨gm, 0, none⟩ (.int .i64 2) = Y := ⟨_, rfl⟩
                  have SY : Hid (Bn w Y gm 2 0 (.slice m1 ne m2) (.slice m3 ncc m4) (.slice m5 0 m6) (.slice m7 0 m8) es cz) := Lib.hid (by rw [← hY]; exact SM.out.box 0 (.int .i64 2) rfl SM.out.e SM.out.c)
                  have SP : Hid (Sz ⟨2, es, cz, [], [], 0, ⟨#[]⟩⟩) := Lib.hid (sz_of (by have := LE.out.1; omega) (by have := LE.out.2.1; omega) (by simp) S.out.2.2.2)
                  have NO : Hid (sizeN ⟨2, es, cz, [], [], 0, ⟨#[]⟩⟩ = -1 ∧ fitB ⟨2, es, cz, [], [], 0, ⟨#[]⟩⟩ = false) := Lib.hid (size_two _ rfl rfl)
                  have SZ := Lib.hid (Size_any ⟨2, es, cz, [], [], 0, ⟨#[]⟩⟩ ⟨.slice m1 ne m2, .slice m3 ncc m4, .slice m5 0 m6, .slice m7 0 m8⟩ Y (SY.out.ls EM.out.1 EM.out.2) (SP.out))
                  rw [NO.out.1] at SZ
                  unfold Nd.arr at SZ
                  simp only at SZ
                  obtain ⟨t0, t1, t2, t3, t4, t5, t6⟩ := node_cells SY.out.m
                  go_wp2_with fail
                  refine SZ.out.mono ?_
                  rintro e Wg ⟨rfl, hb⟩
                  have BG := Lib.hid (SY.out.below hb)
                  have FT := Lib.hid (Fits_any ⟨2, es, cz, [], [], 0, ⟨#[]⟩⟩ ⟨.slice m1 ne m2, .slice m3 ncc m4, .slice m5 0 m6, .slice m7 0 m8⟩ Wg (BG.out.ls EM.out.1 EM.out.2) (SP.out))
                  rw [NO.out.2] at FT
                  unfold Nd.arr at FT
                  simp only at FT
                  clear t0 t1 t2 t3 t4 t5 t6
                  clear SZ hb
                  obtain ⟨t0, t1, t2, t3, t4, t5, t6⟩ := node_cells BG.out.m
                  go_wp2_with fail
                  refine FT.out.mono ?_
                  rintro e Wh ⟨rfl, hb⟩
                  have B9 := Lib.hid (BG.out.bl.trans (hb.mono BG.out.bl.size))
                  clear t0 t1 t2 t3 t4 t5 t6
                  clear FT hb
                  go_wp2_with fail
                  go_ret
                  exact ⟨rfl, B9.out⟩
              have g7 : (odd == 7) = false := by rw [beq_eq_false_iff_ne]; exact o7
              as_aux_lemma =>
                have p3 : X.cell? ⟨gm, 3, none⟩ = some (.slice m5 0 m6) := (node_cells SM.out.m).2.2.2.1
                have f3 : X.frozen? ⟨gm, 3, none⟩ = false := SM.out.wf 3
                obtain ⟨gk, hgk⟩ : ∃ gk, gk = X.heap.size := ⟨_, rfl⟩
                obtain ⟨Y0, hY0⟩ : ∃ Y0, Y0 = X.alloc (.cells #[.string ⟨#[107]⟩] 9) := ⟨_, rfl⟩
                have B0 : Hid (Below X.heap.size X Y0 ∧ Y0.heap[gk]? = some (.cells #[.string ⟨#[107]⟩] 9 (0, 0)) ∧ gk ≠ gm) := Lib.hid (by
                  have := lt_of_heap SM.out.m
                  rw [hY0, hgk]; exact ⟨(Below.refl _ _).alloc (Nat.le_refl _) _, heap_alloc_new _ _, by omega⟩)
                have S0 := Lib.hid (SM.out.below B0.out.1)
                have y3 : Y0.cell? ⟨gm, 3, none⟩ = some (.slice m5 0 m6) := (node_cells S0.out.m).2.2.2.1
                have yf : Y0.frozen? ⟨gm, 3, none⟩ = false := S0.out.wf 3
                obtain ⟨Y, hY⟩ : ∃ Y, Y0.setCell ⟨gm, 3, none⟩ (.slice (some ⟨gk, 0, none⟩) 1 1) = Y := ⟨_, rfl⟩
                have SY : Hid (Bn w Y gm 1 0 (.slice m1 ne m2) (.slice m3 ncc m4) (.slice (some ⟨gk, 0, none⟩) 1 1) (.slice m7 0 m8) es cz) := Lib.hid (by rw [← hY]; exact S0.out.box 3 (.slice (some ⟨gk, 0, none⟩) 1 1) rfl S0.out.e S0.out.c)
                have KY : Hid (Strs Y (.slice (some ⟨gk, 0, none⟩) 1 1) [⟨#[107]⟩]) := Lib.hid (by
                  have r : Y.heap[gk]? = some (.cells #[.string ⟨#[107]⟩] 9 (0, 0)) := by
                    rw [← hY, (kept_set (F := fun y => y = gm) Y0 ⟨gm, 3, none⟩ _ rfl).block gk (lt_of_heap B0.out.2.1) B0.out.2.2]; exact B0.out.2.1
                  refine ⟨some ⟨gk, 0, none⟩, 1, rfl, Nat.le_refl _, by decide, fun h => by simp at h, fun k hk => ⟨gk, 0, rfl, ?_⟩⟩
                  have hk0 : k = 0 := by simp at hk; omega
                  subst hk0
                  rw [cell_of_row _ _ _ _ _ _ r]; rfl)
                have hgk' := hgk.symm
                have hY0' := hY0.symm
                clear hgk hY0
                have SP : Hid (Sz ⟨1, es, cz, [⟨#[107]⟩], [], 0, ⟨#[]⟩⟩) := Lib.hid (sz_of (by have := LE.out.1; omega) (by have := LE.out.2.1; omega) (by simp) S.out.2.2.2)
                have NO : Hid (sizeN ⟨1, es, cz, [⟨#[107]⟩], [], 0, ⟨#[]⟩⟩ = -1 ∧ fitB ⟨1, es, cz, [⟨#[107]⟩], [], 0, ⟨#[]⟩⟩ = false) := Lib.hid (size_no _ rfl (fun q => absurd ((leaf_iff _).1 q).y (by simp)))
                have SZ := Lib.hid (Size_any ⟨1, es, cz, [⟨#[107]⟩], [], 0, ⟨#[]⟩⟩ ⟨.slice m1 ne m2, .slice m3 ncc m4, .slice (some ⟨gk, 0, none⟩) 1 1, .slice m7 0 m8⟩ Y (⟨SY.out.e.ents, SY.out.c.ints, KY.out, EM.out.2.ints _⟩) (SP.out))
                rw [NO.out.1] at SZ
                unfold Nd.arr at SZ
                simp only at SZ
                obtain ⟨t0, t1, t2, t3, t4, t5, t6⟩ := node_cells SY.out.m
                go_wp2_with fail
                refine SZ.out.mono ?_
                rintro e Wg ⟨rfl, hb⟩
                have BG := Lib.hid (SY.out.below hb)
                have FT := Lib.hid (Fits_any ⟨1, es, cz, [⟨#[107]⟩], [], 0, ⟨#[]⟩⟩ ⟨.slice m1 ne m2, .slice m3 ncc m4, .slice (some ⟨gk, 0, none⟩) 1 1, .slice m7 0 m8⟩ Wg (⟨BG.out.e.ents, BG.out.c.ints, KY.out.below hb, EM.out.2.ints _⟩) (SP.out))
                rw [NO.out.2] at FT
                unfold Nd.arr at FT
                simp only at FT
                clear t0 t1 t2 t3 t4 t5 t6
                clear SZ hb
                obtain ⟨t0, t1, t2, t3, t4, t5, t6⟩ := node_cells BG.out.m
                go_wp2_with fail
                refine FT.out.mono ?_
                rintro e Wh ⟨rfl, hb⟩
                have B9 := Lib.hid (BG.out.bl.trans (hb.mono BG.out.bl.size))
                clear t0 t1 t2 t3 t4 t5 t6
                clear FT hb
                go_wp2_with fail
                go_ret
                exact ⟨rfl, B9.out⟩
end Go.Proofs.Ytkcogjfhdlpobaa
