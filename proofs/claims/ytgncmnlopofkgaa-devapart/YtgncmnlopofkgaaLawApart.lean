/-
  DevApart.
-/
import Derived.Test.YtgncmnlopofkgaaPkC
namespace Go.Proofs.Ytgncmnlopofkgaa
open Go.RowKit Go.Maps
/-- The first k bytes are c, the others of l. -/
def filF (c : UInt8) (k : Nat) (l : List UInt8) : List UInt8 := List.replicate k c ++ l.drop k
theorem filF_zero (c : UInt8) (l : List UInt8) : filF c 0 l = l := by simp [filF]
theorem filF_length (c : UInt8) (k : Nat) (l : List UInt8) (h : k ≤ l.length) : (filF c k l).length = l.length := by simp [filF]; omega
theorem filF_set (c : UInt8) (k : Nat) (l : List UInt8) (h : k < l.length) : (filF c k l).set k c = filF c (k + 1) l := by
  apply List.ext_getElem?
  intro j
  unfold filF
  by_cases e : k = j
  · subst e
    rw [List.getElem?_set_self (by simp; omega), List.getElem?_append_left (by simp), List.getElem?_replicate, if_pos (by omega)]
  · rw [List.getElem?_set_ne e]
    rcases Nat.lt_or_ge j k with q | q
    · rw [List.getElem?_append_left (by simpa using q), List.getElem?_append_left (by simp; omega), List.getElem?_replicate, List.getElem?_replicate, if_pos q, if_pos (by omega)]
    · rw [List.getElem?_append_right (by simpa using q), List.getElem?_append_right (by simp; omega), List.getElem?_drop, List.getElem?_drop]
      simp only [List.length_replicate]
      congr 1
      omega
theorem filF_at (c : UInt8) (k i : Nat) (l : List UInt8) (h : i < k) : (filF c k l)[i]? = some c := by
  unfold filF
  rw [List.getElem?_append_left (by simpa using h), List.getElem?_replicate, if_pos h]
theorem pk_at {b : Nat} {w W : World} {s : DS} {L : List (Value × List UInt8)} {I : List (Value × List Int)} (h : Pk b w W s L I) {i g n cap : Nat} {l : List UInt8} (hi : L[i]? = some (.slice (some ⟨g, 0, none⟩) n cap, l)) (k : Nat) (c : UInt8) (hc : l[k]? = some c) : W.cell? ⟨g, k, none⟩ = some (.int .u8 (c8 c)) := by
  have hb := (h.rows _ (List.mem_of_getElem? hi)).bytes
  obtain ⟨a, cap2, e, _, _, _, hcell⟩ := hb
  simp only [Value.slice.injEq] at e
  obtain ⟨b', off, ea, h2⟩ := hcell k (List.getElem?_eq_some_iff.1 hc).1
  rw [← e.1] at ea
  simp only [Option.some.injEq, Addr.mk.injEq, and_true] at ea
  obtain ⟨rfl, rfl⟩ := ea
  rw [Nat.zero_add] at h2
  rw [h2, List.getD_eq_getElem?_getD, hc]
  rfl
theorem pk_int {b : Nat} {w W : World} {s : DS} {L : List (Value × List UInt8)} {I : List (Value × List Int)} (h : Pk b w W s L I) {i g n cap : Nat} {l : List Int} (hi : I[i]? = some (.slice (some ⟨g, 0, none⟩) n cap, l)) (k : Nat) (c : Int) (hc : l[k]? = some c) : W.cell? ⟨g, k, none⟩ = some (.int .i64 c) := by
  have hb := OwnI.ints (h.ints _ (List.mem_of_getElem? hi))
  obtain ⟨a, cap2, e, _, _, hcell⟩ := hb
  simp only [Value.slice.injEq] at e
  obtain ⟨b', off, ea, h2⟩ := hcell k (List.getElem?_eq_some_iff.1 hc).1
  rw [← e.1] at ea
  simp only [Option.some.injEq, Addr.mk.injEq, and_true] at ea
  obtain ⟨rfl, rfl⟩ := ea
  rw [Nat.zero_add] at h2
  rw [h2, List.getD_eq_getElem?_getD, hc]
  rfl
theorem c8_add (c d : UInt8) : (c8 c + c8 d) % 256 = c8 (c + d) := by
  unfold c8
  rw [UInt8.toNat_add]
  omega
theorem replicate_take (n : Nat) (c : UInt8) (l : List UInt8) : (List.replicate n c ++ l).take n = List.replicate n c := by
  rw [List.take_append_of_le_length (by simp)]
  simp
theorem pk_fill {b : Nat} {w W : World} {s : DS} {L : List (Value × List UInt8)} {I : List (Value × List Int)} {i g n cap k : Nat} {c : UInt8} {l : List UInt8} {m : Int} (h : Pk b w W s L I) (hi : L[i]? = some (.slice (some ⟨g, 0, none⟩) n cap, filF c k l)) (hk : k < l.length) (hm : m = c8 c) :
    (∃ u, W.cell? ⟨g, k, none⟩ = some u) ∧ W.frozen? ⟨g, k, none⟩ = false ∧ Pk b w (W.setCell ⟨g, k, none⟩ (.int .u8 m)) s (L.set i (.slice (some ⟨g, 0, none⟩) n cap, filF c (k + 1) l)) I := by
  rw [hm, ← filF_set c k l hk]
  exact h.set hi k c (by rw [filF_length c k l (by omega)]; exact hk)
theorem filF_all (c : UInt8) (n : Nat) (l : List UInt8) (h : l.length = n) : filF c n l = List.replicate n c := by
  unfold filF
  rw [List.drop_eq_nil_of_le (by omega), List.append_nil]
set_option maxHeartbeats 8000000 in
set_option maxRecDepth 100000 in
theorem devApart_walk0 (c : UInt8) (a : Int) (w : World) :
    Calls Try.prog 3 #[.int .u8 (c8 c), .int .i64 a] w fun e w' => e = .returned (.bool true) ∧ Below w.heap.size w w' := by
  have LV := Lib.hid (lives_any w)
  obtain ⟨k, hk⟩ : ∃ k : Nat, k = (a % 64).toNat := ⟨_, rfl⟩
  have hk64 : k < 64 := by omega
  have ha : bits .and .i64 a 63 = (k : Int) := by rw [hk]; exact and_63 a
  obtain ⟨j, hj⟩ : ∃ j : Nat, j = (((k : Int) + 1) % 64).toNat := ⟨_, rfl⟩
  have hj64 : j < 64 := by omega
  have hjk : j ≠ k := by omega
  have hja : bits .and .i64 ((k : Int) + 1) 63 = (j : Int) := by rw [hj]; exact and_63 _
  obtain ⟨F, hF⟩ : ∃ F, F = List.replicate 512 c := ⟨_, rfl⟩
  obtain ⟨s1, s2, s3, s4, s5, s6, Z, hR⟩ := road c k j hk64 hj64 hjk F (by rw [hF, List.length_replicate])
  have RD := Lib.hid hR
  have FF := Lib.hid hF
  have FL : Hid (F.length = 512) := Lib.hid (by rw [hF, List.length_replicate])
  obtain ⟨n0, hn0⟩ : ∃ n0, n0 = c8 c := ⟨_, rfl⟩
  obtain ⟨n1, hn1⟩ : ∃ n1, n1 = c8 (c + 1) := ⟨_, rfl⟩
  obtain ⟨n2, hn2⟩ : ∃ n2, n2 = c8 (c + 2) := ⟨_, rfl⟩
  obtain ⟨n3, hn3⟩ : ∃ n3, n3 = c8 (c + 3) := ⟨_, rfl⟩
  obtain ⟨n4, hn4⟩ : ∃ n4, n4 = c8 (c + 4) := ⟨_, rfl⟩
  have e1 : (n0 + 1) % 256 = n1 := by rw [hn0, hn1]; exact c8_add c 1
  have e2 : (n0 + 2) % 256 = n2 := by rw [hn0, hn2]; exact c8_add c 2
  have e3 : (n0 + 3) % 256 = n3 := by rw [hn0, hn3]; exact c8_add c 3
  have e4 : (n0 + 4) % 256 = n4 := by rw [hn0, hn4]; exact c8_add c 4
  rw [← hn0]
  have NN := Lib.hid (And.intro hn0 (And.intro hn1 (And.intro hn2 (And.intro hn3 hn4))))
  obtain ⟨b, hb⟩ : ∃ b, b = w.heap.size := ⟨_, rfl⟩
  rw [← hb] at LV ⊢
  have BB := Lib.hid hb
  have FU : Hid (∀ {W : World} {s : DS} {L : List (Value × List UInt8)} {I : List (Value × List Int)}, Pk b w W s L I → Calls Try.prog 6 #[.int .u8 n0] W fun e w' => ∃ g, e = .returned (.slice (some ⟨g, 0, none⟩) 512 512) ∧ Pk b w w' s ((.slice (some ⟨g, 0, none⟩) 512 512, F) :: L) I) := Lib.hid (fun h => by rw [hn0, hF]; exact pk_full h c)
  clear hF hR hn0 hn1 hn2 hn3 hn4 hb hk hj
  go_enter Try.func3, Try.ntmps3
  go_wp2_with fail
  refine LV.out.mono ?_
  rintro e w1 ⟨cv1, rfl, hd1, hb1⟩
  have P1 : Hid (Pk b w w1 liveS [] []) := Lib.hid ⟨⟨cv1, hd1⟩, hb1, by rw [BB.out]; exact hb1.size, fun _ h => by simp at h, fun _ h => by simp at h, List.Pairwise.nil, List.Pairwise.nil⟩
  clear hd1 hb1 LV
  go_wp2_with fail
  refine (FU.out P1.out).mono ?_
  rintro e w2 ⟨g2, rfl, h2⟩
  have P2 := Lib.hid h2
  clear h2 P1
  obtain ⟨X2, hX2⟩ : ∃ X2, X2 = w2.alloc (.cells #[.int .u8 171, .int .u8 172] 5) := ⟨_, rfl⟩
  have PX : Hid (Pk b w X2 liveS [(.slice (some ⟨g2, 0, none⟩) 512 512, F)] []) := Lib.hid (by rw [hX2]; exact P2.out.below ((Below.refl _ _).alloc (Nat.le_refl _) _))
  have BX : Hid (Bytes X2 (.slice (some ⟨w2.heap.size, 0, none⟩) 2 2) [171, 172]) := Lib.hid (by rw [hX2]; exact (two_at w2 171 172).bytes)
  have hX2' := hX2.symm
  clear hX2
  go_wp2_with (refine app_bytes rfl (.tmp 39) (.tmp 40) rfl (B := b) (l := F) (m := [171, 172]) rfl (PX.out.rows _ (List.mem_of_getElem? (i := 0) rfl)) PX.out.sz rfl BX.out (by rw [FL.out]; decide) ?_)
  intro v3 w3 ho3 hg3 ha3
  obtain ⟨G, hG⟩ : ∃ G, G = F ++ [171, 172] := ⟨_, rfl⟩
  rw [← hG] at ho3
  have GL : Hid (G.length = 514) := Lib.hid (by rw [hG, List.length_append, FL.out]; rfl)
  have GT : Hid (G.take 512 = F) := Lib.hid (by rw [hG, List.take_append_of_le_length (by rw [FL.out]; omega), List.take_of_length_le (by rw [FL.out]; omega)])
  have G2 : Hid (G[512]? = some 171 ∧ G[513]? = some 172) := Lib.hid (by rw [hG, List.getElem?_append_right (by rw [FL.out]; omega), List.getElem?_append_right (by rw [FL.out]; omega), FL.out]; exact ⟨rfl, rfl⟩)
  obtain ⟨g3, c3, rfl, hc3, hm3, _⟩ := own_shape ho3 (by rw [GL.out]; omega)
  rw [GL.out] at ho3 hc3 ha3 ⊢
  unfold maxLen at hm3
  have P3 : Hid (Pk b w w3 liveS [(.slice (some ⟨g3, 0, none⟩) 514 c3, G)] []) := Lib.hid (PX.out.app (grown_kept hg3) ho3 ha3)
  clear ho3 hg3 ha3 hG PX BX P2 hX2'
  have PD : Hid (Pk b w w3.drew liveS [(.slice (some ⟨g3, 0, none⟩) 514 c3, G)] []) := Lib.hid (P3.out.below ⟨rfl, rfl, rfl, Nat.le_refl _, fun _ _ => rfl⟩)
  have WRT : Hid (Calls Try.prog 7 #[.pointer (some ⟨b + 2, 0, none⟩), .int .i64 (k : Int), .slice (some ⟨g3, 0, none⟩) 512 c3] w3.drew fun e w' => e = .returned (.int .i64 0) ∧ Pk b w w' s1 [(.slice (some ⟨g3, 0, none⟩) 514 c3, G)] []) := Lib.hid (pk_write PD.out (i := 0) rfl k 512 (by rw [GL.out]; omega) (by rw [GT.out]; exact RD.out.wr) RD.out.w0)
  have SAM : Hid (∀ (W : World) (g : Nat), Pk b w W s1 [(.slice (some ⟨g, 0, none⟩) 512 512, F), (.slice (some ⟨g3, 0, none⟩) 514 c3, G)] [] → Calls Try.prog 8 #[.slice (some ⟨g3, 0, none⟩) 512 c3, .slice (some ⟨g, 0, none⟩) 512 512] W fun e w' => e = .returned (.bool true) ∧ Pk b w w' s1 [(.slice (some ⟨g, 0, none⟩) 512 512, F), (.slice (some ⟨g3, 0, none⟩) 514 c3, G)] []) := Lib.hid (fun W g h => by
    have h1 := pk_bytes h (i := 1) rfl 512 (by rw [GL.out]; omega)
    rw [GT.out] at h1
    refine (same_any _ _ F F W h1 (h.rows _ (List.mem_of_getElem? (i := 0) rfl)).bytes).mono ?_
    rintro e w' ⟨rfl, rfl⟩
    exact ⟨by rw [decide_eq_true rfl], h⟩)
  have KS : Hid (∀ {W : World} {s : DS} {L : List (Value × List UInt8)} {I : List (Value × List Int)} (i : Nat), L[i]? = some (.slice (some ⟨g3, 0, none⟩) 514 c3, G) → Pk b w W s L I → W.cell? ⟨g3, 512, none⟩ = some (.int .u8 171) ∧ W.cell? ⟨g3, 513, none⟩ = some (.int .u8 172)) := Lib.hid (fun i hi h => ⟨pk_at h hi 512 171 G2.out.1, pk_at h hi 513 172 G2.out.2⟩)
  go_wp2_with fail
  go_region_held (fun W : World => W.cell? ⟨g3, 512, none⟩ = some (.int .u8 171) ∧ W.cell? ⟨g3, 513, none⟩ = some (.int .u8 172)) (first | exact KS.out 1 rfl hP8 | exact KS.out 1 rfl hP7 | exact KS.out 0 rfl hP6 | exact KS.out 0 rfl PD.out) (first | (go_at_call 7; refine WRT.out.mono ?_; rintro e w6 ⟨rfl, hP6⟩) | (go_at_call 6; refine (FU.out hP6).mono ?_; rintro e w7 ⟨g7, rfl, hP7⟩) | (go_at_call 8; refine (SAM.out _ _ hP7).mono ?_; rintro e w8 ⟨rfl, hP8⟩))
  have P8 := Lib.hid hP8
  clear hP8 hP7 hP6 PD P3 WRT SAM KS
  have Q8 : Hid (Pk b w (w8.alloc (.cells #[.int .u8 n0, .int .u8 n0] 5)) s1 [(.slice (some ⟨w8.heap.size, 0, none⟩) 2 2, [c, c]), (.slice (some ⟨g7, 0, none⟩) 512 512, F), (.slice (some ⟨g3, 0, none⟩) 514 c3, G)] []) := Lib.hid (by rw [NN.out.1]; exact P8.out.new ((Below.refl _ _).alloc (Nat.le_refl _) _) (two_at w8 c c))
  have Q9 : Hid (Pk b w ((w8.alloc (.cells #[.int .u8 n0, .int .u8 n0] 5)).alloc (.cells #[.int .u8 173] 5)) s1 [(.slice (some ⟨w8.heap.size, 0, none⟩) 2 2, [c, c]), (.slice (some ⟨g7, 0, none⟩) 512 512, F), (.slice (some ⟨g3, 0, none⟩) 514 c3, G)] []) := Lib.hid (Q8.out.below ((Below.refl _ _).alloc (Nat.le_refl _) _))
  have B9 : Hid (∀ g, g = (w8.alloc (.cells #[.int .u8 n0, .int .u8 n0] 5)).heap.size → Bytes ((w8.alloc (.cells #[.int .u8 n0, .int .u8 n0] 5)).alloc (.cells #[.int .u8 173] 5)) (.slice (some ⟨g, 0, none⟩) 1 1) [173]) := Lib.hid (fun g hg => by rw [hg]; exact (one_at (w8.alloc (.cells #[.int .u8 n0, .int .u8 n0] 5)) 173).bytes)
  go_wp2_with (refine app_bytes rfl (.tmp 70) (.tmp 71) rfl (B := b) (v := .slice (some ⟨w8.heap.size, 0, none⟩) 2 2) (l := [c, c]) (m := [173]) rfl (Q9.out.rows (.slice (some ⟨w8.heap.size, 0, none⟩) 2 2, [c, c]) (List.mem_of_getElem? (i := 0) rfl)) Q9.out.sz rfl (B9.out _ (by first | rfl | simp)) (show 2 + 1 ≤ 140737488355328 by decide) ?_)
  intro v9 w9 ho9 hg9 ha9
  obtain ⟨E, hE⟩ : ∃ E : List UInt8, E = [c, c, 173] := ⟨_, rfl⟩
  rw [← hE] at ho9
  have EE := Lib.hid hE
  obtain ⟨g9, c9, rfl, hc9, hm9, _⟩ := own_shape ho9 (by rw [hE]; exact Nat.zero_lt_succ _)
  have eE : E.length = 3 := by rw [hE]; rfl
  rw [eE] at ho9 hc9 ha9 ⊢
  unfold maxLen at hm9
  have P9 : Hid (Pk b w w9 s1 [(.slice (some ⟨g9, 0, none⟩) 3 c9, E), (.slice (some ⟨g7, 0, none⟩) 512 512, F), (.slice (some ⟨g3, 0, none⟩) 514 c3, G)] []) := Lib.hid (Q9.out.app (grown_kept hg9) ho9 ha9)
  clear ho9 hg9 ha9 hE eE Q8 Q9 B9 P8
  have ED : Hid (Calls Try.prog 9 #[.pointer (some ⟨b + 2, 0, none⟩), .int .i64 (j : Int), .int .i64 510, .slice (some ⟨g9, 0, none⟩) 2 c9] w9 fun e w' => e = .returned (.int .i64 0) ∧ Pk b w w' s2 [(.slice (some ⟨g9, 0, none⟩) 3 c9, E), (.slice (some ⟨g7, 0, none⟩) 512 512, F), (.slice (some ⟨g3, 0, none⟩) 514 c3, G)] []) := Lib.hid (pk_edit P9.out (i := 0) rfl (j : Int) 510 2 (by rw [EE.out]; exact (by decide : 2 ≤ 3)) (by rw [EE.out]; exact RD.out.ed))
  go_wp2_with fail
  refine ED.out.mono ?_
  rintro e w10 ⟨rfl, h10⟩
  have P10 := Lib.hid h10
  have q2 : w10.cell? ⟨g9, 2, none⟩ = some (.int .u8 173) := pk_at h10 (i := 0) rfl 2 173 (by rw [EE.out]; rfl)
  have q0 : w10.cell? ⟨g9, 0, none⟩ = some (.int .u8 n0) := by rw [NN.out.1]; exact pk_at h10 (i := 0) rfl 0 c (by rw [EE.out]; rfl)
  have hnn : (n0 != n0) = false := by simp
  clear h10 ED P9
  go_wp2_with fail
  clear q2 q0
  skip
  go_loopg [8] 512 (fun g si wr => ∃ (kk : Nat), kk ≤ 512 ∧ g = 512 - kk ∧ si = .int .i64 kk ∧ Pk b w wr s2 [(.slice (some ⟨g9, 0, none⟩) 3 c9, E), (.slice (some ⟨g7, 0, none⟩) 512 512, F), (.slice (some ⟨g3, 0, none⟩) 514 c3, filF (c + 1) kk G)] [])
  case atStart => exact ⟨0, Nat.zero_le _, rfl, rfl, by rw [filF_zero]; exact P10.out⟩
  case round =>
  obtain ⟨kk, hkk, hgk, rfl, hp⟩ := hrel
  by_cases hlt : kk < 512
  · have R : Aside (gk = 512 - kk) := hgk
    have hlt' : (kk : Int) < 512 := by omega
    obtain ⟨⟨u, c1⟩, c2, hp'⟩ := pk_fill hp (i := 2) rfl (by rw [GL.out]; omega) NN.out.2.1
    have PP := Lib.hid hp'
    clear hp hp' hgk
    go_wp2_with fail
    go_roundg (512 - (kk + 1))
    case measure => have := R.out; omega
    case rel => exact ⟨kk + 1, by omega, rfl, by go_num, PP.out⟩
  have ek : kk = 512 := by omega
  subst ek
  have P11 := Lib.hid hp
  clear hp hgk hkk hlt P10
  skip
  obtain ⟨⟨u0, q0⟩, q1, h12⟩ := P11.out.set (i := 0) (g := g9) (n := 3) (cap := c9) (l := E) rfl 0 (c + 1) (by rw [EE.out]; exact Nat.zero_lt_succ _)
  rw [← NN.out.2.1] at h12
  obtain ⟨w12, hw12⟩ : ∃ w12, w12 = wr.setCell ⟨g9, 0, none⟩ (.int .u8 n1) := ⟨_, rfl⟩
  rw [← hw12] at h12
  have hw12' := hw12.symm
  have P12 : Hid (Pk b w w12 s2 [(.slice (some ⟨g9, 0, none⟩) 3 c9, E.set 0 (c + 1)), (.slice (some ⟨g7, 0, none⟩) 512 512, F), (.slice (some ⟨g3, 0, none⟩) 514 c3, filF (c + 1) 512 G)] []) := Lib.hid h12
  clear h12 hw12 P11
  have R3 := Lib.hid (pk_read P12.out (k : Int) F RD.out.r3 FL.out)
  go_wp2_with fail
  refine R3.out.mono ?_
  rintro e w13 ⟨g13, c13, rfl, hc13, hm13, h13⟩
  unfold maxLen at hm13
  have P13 : Hid (Pk b w w13 s3 [(.slice (some ⟨g13, 0, none⟩) 512 c13, F), (.slice (some ⟨g9, 0, none⟩) 3 c9, E.set 0 (c + 1)), (.slice (some ⟨g7, 0, none⟩) 512 512, F), (.slice (some ⟨g3, 0, none⟩) 514 c3, filF (c + 1) 512 G)] []) := Lib.hid h13
  clear h13 R3 P12 hw12' q0 q1
  have R4 := Lib.hid (pk_read P13.out (k : Int) F RD.out.r4 FL.out)
  go_wp2_with fail
  refine R4.out.mono ?_
  rintro e w14 ⟨g14, c14, rfl, hc14, hm14, h14⟩
  unfold maxLen at hm14
  have P14 : Hid (Pk b w w14 s4 [(.slice (some ⟨g14, 0, none⟩) 512 c14, F), (.slice (some ⟨g13, 0, none⟩) 512 c13, F), (.slice (some ⟨g9, 0, none⟩) 3 c9, E.set 0 (c + 1)), (.slice (some ⟨g7, 0, none⟩) 512 512, F), (.slice (some ⟨g3, 0, none⟩) 514 c3, filF (c + 1) 512 G)] []) := Lib.hid h14
  clear h14 R4 P13
  have N5 := Lib.hid (pk_pending P14.out (k : Int) RD.out.pn RD.out.w4)
  go_wp2_with fail
  refine N5.out.mono ?_
  rintro e w15 ⟨g15, rfl, h15⟩
  have P15 : Hid (Pk b w w15 s4 [(.slice (some ⟨g14, 0, none⟩) 512 c14, F), (.slice (some ⟨g13, 0, none⟩) 512 c13, F), (.slice (some ⟨g9, 0, none⟩) 3 c9, E.set 0 (c + 1)), (.slice (some ⟨g7, 0, none⟩) 512 512, F), (.slice (some ⟨g3, 0, none⟩) 514 c3, filF (c + 1) 512 G)] [(.slice (some ⟨g15, 0, none⟩) 1 1, [(k : Int)])]) := Lib.hid h15
  clear h15 N5 P14
  have N6 := Lib.hid (pk_pending P15.out (k : Int) RD.out.pn RD.out.w4)
  go_wp2_with fail
  refine N6.out.mono ?_
  rintro e w16 ⟨g16, rfl, h16⟩
  have P16 : Hid (Pk b w w16 s4 [(.slice (some ⟨g14, 0, none⟩) 512 c14, F), (.slice (some ⟨g13, 0, none⟩) 512 c13, F), (.slice (some ⟨g9, 0, none⟩) 3 c9, E.set 0 (c + 1)), (.slice (some ⟨g7, 0, none⟩) 512 512, F), (.slice (some ⟨g3, 0, none⟩) 514 c3, filF (c + 1) 512 G)] [(.slice (some ⟨g16, 0, none⟩) 1 1, [(k : Int)]), (.slice (some ⟨g15, 0, none⟩) 1 1, [(k : Int)])]) := Lib.hid h16
  clear h16 N6 P15
  go_wp2_with fail
  go_loopg [15] 512 (fun g si wr => ∃ (kk : Nat), kk ≤ 512 ∧ g = 512 - kk ∧ si = .int .i64 kk ∧ Pk b w wr s4 [(.slice (some ⟨g14, 0, none⟩) 512 c14, F), (.slice (some ⟨g13, 0, none⟩) 512 c13, filF (c + 2) kk F), (.slice (some ⟨g9, 0, none⟩) 3 c9, E.set 0 (c + 1)), (.slice (some ⟨g7, 0, none⟩) 512 512, F), (.slice (some ⟨g3, 0, none⟩) 514 c3, filF (c + 1) 512 G)] [(.slice (some ⟨g16, 0, none⟩) 1 1, [(k : Int)]), (.slice (some ⟨g15, 0, none⟩) 1 1, [(k : Int)])])
  case atStart => exact ⟨0, Nat.zero_le _, rfl, rfl, by rw [filF_zero]; exact P16.out⟩
  case round =>
  obtain ⟨kk, hkk, hgk, rfl, hp⟩ := hrel
  by_cases hlt : kk < 512
  · have R : Aside (gk = 512 - kk) := hgk
    have hlt' : (kk : Int) < 512 := by omega
    obtain ⟨⟨u, c1⟩, c2, hp'⟩ := pk_fill hp (i := 1) rfl (by rw [FL.out]; omega) NN.out.2.2.1
    have PP := Lib.hid hp'
    clear hp hp' hgk
    go_wp2_with fail
    go_roundg (512 - (kk + 1))
    case measure => have := R.out; omega
    case rel => exact ⟨kk + 1, by omega, rfl, by go_num, PP.out⟩
  have ek : kk = 512 := by omega
  subst ek
  have P17 := Lib.hid hp
  clear hp hgk hkk hlt P16
  obtain ⟨⟨u0, q0⟩, q1, h18⟩ := pk_setI P17.out (i := 1) (g := g15) (n := 1) (cap := 1) (l := [(k : Int)]) rfl 0 99 (Nat.zero_lt_succ _)
  obtain ⟨w18, hw18⟩ : ∃ w18, w18 = wr.setCell ⟨g15, 0, none⟩ (.int .i64 99) := ⟨_, rfl⟩
  rw [← hw18] at h18
  have hw18' := hw18.symm
  have P18 : Hid (Pk b w w18 s4 [(.slice (some ⟨g14, 0, none⟩) 512 c14, F), (.slice (some ⟨g13, 0, none⟩) 512 c13, filF (c + 2) 512 F), (.slice (some ⟨g9, 0, none⟩) 3 c9, E.set 0 (c + 1)), (.slice (some ⟨g7, 0, none⟩) 512 512, F), (.slice (some ⟨g3, 0, none⟩) 514 c3, filF (c + 1) 512 G)] [(.slice (some ⟨g16, 0, none⟩) 1 1, [(k : Int)]), (.slice (some ⟨g15, 0, none⟩) 1 1, [99])]) := Lib.hid h18
  clear h18 hw18 P17
  have OA : Hid (w18.ownsRow b 5 1 (.slice (some ⟨g13, 0, none⟩) 512 c13) 512 (cells8 (filF (c + 2) 512 F))) := Lib.hid (by
    have q := P18.out.rows (.slice (some ⟨g13, 0, none⟩) 512 c13, filF (c + 2) 512 F) (List.mem_of_getElem? (i := 1) rfl)
    have e : (filF (c + 2) 512 F).length = 512 := by rw [filF_length _ _ _ (by rw [FL.out]; omega)]; exact FL.out
    unfold Own at q
    rw [e] at q
    exact q)
  obtain ⟨i0, hi0, hz0, hz1, hz2⟩ := info_parts info_byte
  have IB := Lib.hid (And.intro hi0 (And.intro hz0 (And.intro hz1 hz2)))
  clear hi0 hz0 hz1 hz2
  go_wp2_with (refine app_more rfl (.tmp 147) (.tmp 148) 24 5 i0 (.int .u8 0) 1 rfl Try.underlying24 IB.out.1 IB.out.2.1 IB.out.2.2.1 IB.out.2.2.2 rfl (by decide) (B := b) (g := g13) (n := 512) (cap := c13) (W0 := w18) (xs := cells8 (filF (c + 2) 512 F)) rfl OA.out (.int .u8 1) rfl rfl (by decide) ?_)
  intro a19 c19 w19 ho19 hk19 _
  have P19 : Hid (Pk b w w19 s4 [(.slice (some ⟨g14, 0, none⟩) 512 c14, F), (.slice (some ⟨g13, 0, none⟩) 512 c13, filF (c + 2) 512 F), (.slice (some ⟨g9, 0, none⟩) 3 c9, E.set 0 (c + 1)), (.slice (some ⟨g7, 0, none⟩) 512 512, F), (.slice (some ⟨g3, 0, none⟩) 514 c3, filF (c + 1) 512 G)] [(.slice (some ⟨g16, 0, none⟩) 1 1, [(k : Int)]), (.slice (some ⟨g15, 0, none⟩) 1 1, [99])]) := Lib.hid (P18.out.same (i := 1) (v := .slice (some ⟨g13, 0, none⟩) 512 c13) (l := filF (c + 2) 512 F) rfl hk19 (by
    have e : (filF (c + 2) 512 F).length = 512 := by rw [filF_length _ _ _ (by rw [FL.out]; omega)]; exact FL.out
    unfold Own
    rw [e]
    exact ho19))
  clear ho19 hk19 OA IB P18
  clear q0 q1 hw18'
  have OI : Hid (OwnI b w19 (.slice (some ⟨g15, 0, none⟩) 1 1) [99]) := Lib.hid (P19.out.ints (.slice (some ⟨g15, 0, none⟩) 1 1, [99]) (List.mem_of_getElem? (i := 1) rfl))
  go_wp2_with (refine app_int rfl (.tmp 150) (.tmp 151) rfl (B := b) (g := g15) (W0 := w19) (x := 99) (y := 98) rfl OI.out rfl ?_)
  intro g20 c20 w20 ho20 hb20 hc20 hm20
  unfold maxLen at hm20
  have P20 : Hid (Pk b w w20 s4 [(.slice (some ⟨g14, 0, none⟩) 512 c14, F), (.slice (some ⟨g13, 0, none⟩) 512 c13, filF (c + 2) 512 F), (.slice (some ⟨g9, 0, none⟩) 3 c9, E.set 0 (c + 1)), (.slice (some ⟨g7, 0, none⟩) 512 512, F), (.slice (some ⟨g3, 0, none⟩) 514 c3, filF (c + 1) 512 G)] [(.slice (some ⟨g20, 0, none⟩) 2 c20, [99, 98]), (.slice (some ⟨g16, 0, none⟩) 1 1, [(k : Int)]), (.slice (some ⟨g15, 0, none⟩) 1 1, [99])]) := Lib.hid (P19.out.newI hb20 ho20)
  clear ho20 hb20 OI P19
  have N21 := Lib.hid (pk_pending P20.out (k : Int) RD.out.pn RD.out.w4)
  go_wp2_with fail
  refine N21.out.mono ?_
  rintro e w21 ⟨g21, rfl, h21⟩
  have P21 : Hid (Pk b w w21 s4 [(.slice (some ⟨g14, 0, none⟩) 512 c14, F), (.slice (some ⟨g13, 0, none⟩) 512 c13, filF (c + 2) 512 F), (.slice (some ⟨g9, 0, none⟩) 3 c9, E.set 0 (c + 1)), (.slice (some ⟨g7, 0, none⟩) 512 512, F), (.slice (some ⟨g3, 0, none⟩) 514 c3, filF (c + 1) 512 G)] [(.slice (some ⟨g21, 0, none⟩) 1 1, [(k : Int)]), (.slice (some ⟨g20, 0, none⟩) 2 c20, [99, 98]), (.slice (some ⟨g16, 0, none⟩) 1 1, [(k : Int)]), (.slice (some ⟨g15, 0, none⟩) 1 1, [99])]) := Lib.hid h21
  clear h21 N21 P20
  have qr : w21.cell? ⟨g21, 0, none⟩ = some (.int .i64 (k : Int)) := pk_int P21.out (i := 0) rfl 0 (k : Int) rfl
  have qp : w21.cell? ⟨g15, 0, none⟩ = some (.int .i64 99) := pk_int P21.out (i := 3) rfl 0 99 rfl
  have hkb : ((k : Int) != (k : Int)) = false := by simp
  go_wp2_with fail
  refine (FU.out P21.out).mono ?_
  rintro e w22 ⟨g22, rfl, h22⟩
  have P22 : Hid (Pk b w w22 s4 [(.slice (some ⟨g22, 0, none⟩) 512 512, F), (.slice (some ⟨g14, 0, none⟩) 512 c14, F), (.slice (some ⟨g13, 0, none⟩) 512 c13, filF (c + 2) 512 F), (.slice (some ⟨g9, 0, none⟩) 3 c9, E.set 0 (c + 1)), (.slice (some ⟨g7, 0, none⟩) 512 512, F), (.slice (some ⟨g3, 0, none⟩) 514 c3, filF (c + 1) 512 G)] [(.slice (some ⟨g21, 0, none⟩) 1 1, [(k : Int)]), (.slice (some ⟨g20, 0, none⟩) 2 c20, [99, 98]), (.slice (some ⟨g16, 0, none⟩) 1 1, [(k : Int)]), (.slice (some ⟨g15, 0, none⟩) 1 1, [99])]) := Lib.hid h22
  clear h22 P21 qr qp
  have S22 : Hid (Calls Try.prog 8 #[.slice (some ⟨g14, 0, none⟩) 512 c14, .slice (some ⟨g22, 0, none⟩) 512 512] w22 fun e w' => e = .returned (.bool true) ∧ w' = w22) := Lib.hid (by
    refine (same_any _ _ F F w22 (P22.out.rows (.slice (some ⟨g14, 0, none⟩) 512 c14, F) (List.mem_of_getElem? (i := 1) rfl)).bytes (P22.out.rows (.slice (some ⟨g22, 0, none⟩) 512 512, F) (List.mem_of_getElem? (i := 0) rfl)).bytes).mono ?_
    rintro e w' ⟨rfl, rfl⟩
    exact ⟨by rw [decide_eq_true rfl], rfl⟩)
  go_wp2_with fail
  refine S22.out.mono ?_
  rintro e w23 ⟨rfl, rfl⟩
  have qq : w23.cell? ⟨g16, 0, none⟩ = some (.int .i64 (k : Int)) := pk_int P22.out (i := 2) rfl 0 (k : Int) rfl
  clear S22
  have F24 := Lib.hid (pk_flush P22.out RD.out.fl RD.out.w4)
  go_wp2_with fail
  refine F24.out.mono ?_
  rintro e w24 ⟨rfl, h24⟩
  have P24 : Hid (Pk b w w24 s5 [(.slice (some ⟨g22, 0, none⟩) 512 512, F), (.slice (some ⟨g14, 0, none⟩) 512 c14, F), (.slice (some ⟨g13, 0, none⟩) 512 c13, filF (c + 2) 512 F), (.slice (some ⟨g9, 0, none⟩) 3 c9, E.set 0 (c + 1)), (.slice (some ⟨g7, 0, none⟩) 512 512, F), (.slice (some ⟨g3, 0, none⟩) 514 c3, filF (c + 1) 512 G)] [(.slice (some ⟨g21, 0, none⟩) 1 1, [(k : Int)]), (.slice (some ⟨g20, 0, none⟩) 2 c20, [99, 98]), (.slice (some ⟨g16, 0, none⟩) 1 1, [(k : Int)]), (.slice (some ⟨g15, 0, none⟩) 1 1, [99])]) := Lib.hid h24
  clear h24 F24 P22 qq
  have R25 := Lib.hid (pk_raw P24.out (k : Int) F RD.out.rk FL.out)
  go_wp2_with fail
  refine R25.out.mono ?_
  rintro e w25 ⟨g25, c25, rfl, hc25, hm25, h25⟩
  unfold maxLen at hm25
  have P25 : Hid (Pk b w w25 s5 [(.slice (some ⟨g25, 0, none⟩) 512 c25, F), (.slice (some ⟨g22, 0, none⟩) 512 512, F), (.slice (some ⟨g14, 0, none⟩) 512 c14, F), (.slice (some ⟨g13, 0, none⟩) 512 c13, filF (c + 2) 512 F), (.slice (some ⟨g9, 0, none⟩) 3 c9, E.set 0 (c + 1)), (.slice (some ⟨g7, 0, none⟩) 512 512, F), (.slice (some ⟨g3, 0, none⟩) 514 c3, filF (c + 1) 512 G)] [(.slice (some ⟨g21, 0, none⟩) 1 1, [(k : Int)]), (.slice (some ⟨g20, 0, none⟩) 2 c20, [99, 98]), (.slice (some ⟨g16, 0, none⟩) 1 1, [(k : Int)]), (.slice (some ⟨g15, 0, none⟩) 1 1, [99])]) := Lib.hid h25
  clear h25 R25 P24
  have R26 := Lib.hid (pk_raw P25.out (k : Int) F RD.out.rk FL.out)
  go_wp2_with fail
  refine R26.out.mono ?_
  rintro e w26 ⟨g26, c26, rfl, hc26, hm26, h26⟩
  unfold maxLen at hm26
  have P26 : Hid (Pk b w w26 s5 [(.slice (some ⟨g26, 0, none⟩) 512 c26, F), (.slice (some ⟨g25, 0, none⟩) 512 c25, F), (.slice (some ⟨g22, 0, none⟩) 512 512, F), (.slice (some ⟨g14, 0, none⟩) 512 c14, F), (.slice (some ⟨g13, 0, none⟩) 512 c13, filF (c + 2) 512 F), (.slice (some ⟨g9, 0, none⟩) 3 c9, E.set 0 (c + 1)), (.slice (some ⟨g7, 0, none⟩) 512 512, F), (.slice (some ⟨g3, 0, none⟩) 514 c3, filF (c + 1) 512 G)] [(.slice (some ⟨g21, 0, none⟩) 1 1, [(k : Int)]), (.slice (some ⟨g20, 0, none⟩) 2 c20, [99, 98]), (.slice (some ⟨g16, 0, none⟩) 1 1, [(k : Int)]), (.slice (some ⟨g15, 0, none⟩) 1 1, [99])]) := Lib.hid h26
  clear h26 R26 P25
  have R27 := Lib.hid (pk_raw P26.out (j : Int) Z RD.out.rj RD.out.zl)
  go_wp2_with fail
  refine R27.out.mono ?_
  rintro e w27 ⟨g27, c27, rfl, hc27, hm27, h27⟩
  unfold maxLen at hm27
  have P27 : Hid (Pk b w w27 s5 [(.slice (some ⟨g27, 0, none⟩) 512 c27, Z), (.slice (some ⟨g26, 0, none⟩) 512 c26, F), (.slice (some ⟨g25, 0, none⟩) 512 c25, F), (.slice (some ⟨g22, 0, none⟩) 512 512, F), (.slice (some ⟨g14, 0, none⟩) 512 c14, F), (.slice (some ⟨g13, 0, none⟩) 512 c13, filF (c + 2) 512 F), (.slice (some ⟨g9, 0, none⟩) 3 c9, E.set 0 (c + 1)), (.slice (some ⟨g7, 0, none⟩) 512 512, F), (.slice (some ⟨g3, 0, none⟩) 514 c3, filF (c + 1) 512 G)] [(.slice (some ⟨g21, 0, none⟩) 1 1, [(k : Int)]), (.slice (some ⟨g20, 0, none⟩) 2 c20, [99, 98]), (.slice (some ⟨g16, 0, none⟩) 1 1, [(k : Int)]), (.slice (some ⟨g15, 0, none⟩) 1 1, [99])]) := Lib.hid h27
  clear h27 R27 P26
  go_wp2_with fail
  go_loopg [25] 512 (fun g si wr => ∃ (kk : Nat), kk ≤ 512 ∧ g = 512 - kk ∧ si = .int .i64 kk ∧ Pk b w wr s5 [(.slice (some ⟨g27, 0, none⟩) 512 c27, Z), (.slice (some ⟨g26, 0, none⟩) 512 c26, F), (.slice (some ⟨g25, 0, none⟩) 512 c25, filF (c + 3) kk F), (.slice (some ⟨g22, 0, none⟩) 512 512, F), (.slice (some ⟨g14, 0, none⟩) 512 c14, F), (.slice (some ⟨g13, 0, none⟩) 512 c13, filF (c + 2) 512 F), (.slice (some ⟨g9, 0, none⟩) 3 c9, E.set 0 (c + 1)), (.slice (some ⟨g7, 0, none⟩) 512 512, F), (.slice (some ⟨g3, 0, none⟩) 514 c3, filF (c + 1) 512 G)] [(.slice (some ⟨g21, 0, none⟩) 1 1, [(k : Int)]), (.slice (some ⟨g20, 0, none⟩) 2 c20, [99, 98]), (.slice (some ⟨g16, 0, none⟩) 1 1, [(k : Int)]), (.slice (some ⟨g15, 0, none⟩) 1 1, [99])])
  case atStart => exact ⟨0, Nat.zero_le _, rfl, rfl, by rw [filF_zero]; exact P27.out⟩
  case round =>
  obtain ⟨kk, hkk, hgk, rfl, hp⟩ := hrel
  by_cases hlt : kk < 512
  · have R : Aside (gk = 512 - kk) := hgk
    have hlt' : (kk : Int) < 512 := by omega
    obtain ⟨⟨u, c1⟩, c2, hp'⟩ := pk_fill hp (i := 2) rfl (by rw [FL.out]; omega) NN.out.2.2.2.1
    have PP := Lib.hid hp'
    clear hp hp' hgk
    go_wp2_with fail
    go_roundg (512 - (kk + 1))
    case measure => have := R.out; omega
    case rel => exact ⟨kk + 1, by omega, rfl, by go_num, PP.out⟩
  have ek : kk = 512 := by omega
  subst ek
  have P28 := Lib.hid hp
  clear hp hgk hkk hlt P27
  obtain ⟨w28, hw28⟩ : ∃ w28, w28 = wr := ⟨_, rfl⟩
  subst hw28
  have OA : Hid (w28.ownsRow b 5 1 (.slice (some ⟨g25, 0, none⟩) 512 c25) 512 (cells8 (filF (c + 3) 512 F))) := Lib.hid (by
    have q := P28.out.rows (.slice (some ⟨g25, 0, none⟩) 512 c25, filF (c + 3) 512 F) (List.mem_of_getElem? (i := 2) rfl)
    have e : (filF (c + 3) 512 F).length = 512 := by rw [filF_length _ _ _ (by rw [FL.out]; omega)]; exact FL.out
    unfold Own at q
    rw [e] at q
    exact q)
  obtain ⟨i0, hi0, hz0, hz1, hz2⟩ := info_parts info_byte
  have IB := Lib.hid (And.intro hi0 (And.intro hz0 (And.intro hz1 hz2)))
  clear hi0 hz0 hz1 hz2
  go_wp2_with (refine app_more rfl (.tmp 222) (.tmp 223) 24 5 i0 (.int .u8 0) 1 rfl Try.underlying24 IB.out.1 IB.out.2.1 IB.out.2.2.1 IB.out.2.2.2 rfl (by decide) (B := b) (g := g25) (n := 512) (cap := c25) (W0 := w28) (xs := cells8 (filF (c + 3) 512 F)) rfl OA.out (.int .u8 2) rfl rfl (by decide) ?_)
  intro a29 c29 w29 ho29 hk29 _
  have P29 : Hid (Pk b w w29 s5 [(.slice (some ⟨g27, 0, none⟩) 512 c27, Z), (.slice (some ⟨g26, 0, none⟩) 512 c26, F), (.slice (some ⟨g25, 0, none⟩) 512 c25, filF (c + 3) 512 F), (.slice (some ⟨g22, 0, none⟩) 512 512, F), (.slice (some ⟨g14, 0, none⟩) 512 c14, F), (.slice (some ⟨g13, 0, none⟩) 512 c13, filF (c + 2) 512 F), (.slice (some ⟨g9, 0, none⟩) 3 c9, E.set 0 (c + 1)), (.slice (some ⟨g7, 0, none⟩) 512 512, F), (.slice (some ⟨g3, 0, none⟩) 514 c3, filF (c + 1) 512 G)] [(.slice (some ⟨g21, 0, none⟩) 1 1, [(k : Int)]), (.slice (some ⟨g20, 0, none⟩) 2 c20, [99, 98]), (.slice (some ⟨g16, 0, none⟩) 1 1, [(k : Int)]), (.slice (some ⟨g15, 0, none⟩) 1 1, [99])]) := Lib.hid (P28.out.same (i := 2) (v := .slice (some ⟨g25, 0, none⟩) 512 c25) (l := filF (c + 3) 512 F) rfl hk29 (by
    have e : (filF (c + 3) 512 F).length = 512 := by rw [filF_length _ _ _ (by rw [FL.out]; omega)]; exact FL.out
    unfold Own
    rw [e]
    exact ho29))
  clear ho29 hk29 OA IB P28
  have M30 := Lib.hid (pk_medium P29.out RD.out.n5)
  go_wp2_with fail
  refine M30.out.mono ?_
  rintro e w30 ⟨g30, rfl, h30⟩
  have P30 : Hid (Pk b w w30 s5 [(.slice (some ⟨g30, 0, none⟩) 32768 32768, s5.med), (.slice (some ⟨g27, 0, none⟩) 512 c27, Z), (.slice (some ⟨g26, 0, none⟩) 512 c26, F), (.slice (some ⟨g25, 0, none⟩) 512 c25, filF (c + 3) 512 F), (.slice (some ⟨g22, 0, none⟩) 512 512, F), (.slice (some ⟨g14, 0, none⟩) 512 c14, F), (.slice (some ⟨g13, 0, none⟩) 512 c13, filF (c + 2) 512 F), (.slice (some ⟨g9, 0, none⟩) 3 c9, E.set 0 (c + 1)), (.slice (some ⟨g7, 0, none⟩) 512 512, F), (.slice (some ⟨g3, 0, none⟩) 514 c3, filF (c + 1) 512 G)] [(.slice (some ⟨g21, 0, none⟩) 1 1, [(k : Int)]), (.slice (some ⟨g20, 0, none⟩) 2 c20, [99, 98]), (.slice (some ⟨g16, 0, none⟩) 1 1, [(k : Int)]), (.slice (some ⟨g15, 0, none⟩) 1 1, [99])]) := Lib.hid h30
  clear h30 M30 P29
  have M31 := Lib.hid (pk_medium P30.out RD.out.n5)
  go_wp2_with fail
  refine M31.out.mono ?_
  rintro e w31 ⟨g31, rfl, h31⟩
  have P31 : Hid (Pk b w w31 s5 [(.slice (some ⟨g31, 0, none⟩) 32768 32768, s5.med), (.slice (some ⟨g30, 0, none⟩) 32768 32768, s5.med), (.slice (some ⟨g27, 0, none⟩) 512 c27, Z), (.slice (some ⟨g26, 0, none⟩) 512 c26, F), (.slice (some ⟨g25, 0, none⟩) 512 c25, filF (c + 3) 512 F), (.slice (some ⟨g22, 0, none⟩) 512 512, F), (.slice (some ⟨g14, 0, none⟩) 512 c14, F), (.slice (some ⟨g13, 0, none⟩) 512 c13, filF (c + 2) 512 F), (.slice (some ⟨g9, 0, none⟩) 3 c9, E.set 0 (c + 1)), (.slice (some ⟨g7, 0, none⟩) 512 512, F), (.slice (some ⟨g3, 0, none⟩) 514 c3, filF (c + 1) 512 G)] [(.slice (some ⟨g21, 0, none⟩) 1 1, [(k : Int)]), (.slice (some ⟨g20, 0, none⟩) 2 c20, [99, 98]), (.slice (some ⟨g16, 0, none⟩) 1 1, [(k : Int)]), (.slice (some ⟨g15, 0, none⟩) 1 1, [99])]) := Lib.hid h31
  clear h31 M31 P30
  go_wp2_with fail
  go_loopg [29] 32768 (fun g si wr => ∃ (kk : Nat), kk ≤ 32768 ∧ g = 32768 - kk ∧ si = .int .i64 kk ∧ Pk b w wr s5 [(.slice (some ⟨g31, 0, none⟩) 32768 32768, s5.med), (.slice (some ⟨g30, 0, none⟩) 32768 32768, filF (c + 4) kk s5.med), (.slice (some ⟨g27, 0, none⟩) 512 c27, Z), (.slice (some ⟨g26, 0, none⟩) 512 c26, F), (.slice (some ⟨g25, 0, none⟩) 512 c25, filF (c + 3) 512 F), (.slice (some ⟨g22, 0, none⟩) 512 512, F), (.slice (some ⟨g14, 0, none⟩) 512 c14, F), (.slice (some ⟨g13, 0, none⟩) 512 c13, filF (c + 2) 512 F), (.slice (some ⟨g9, 0, none⟩) 3 c9, E.set 0 (c + 1)), (.slice (some ⟨g7, 0, none⟩) 512 512, F), (.slice (some ⟨g3, 0, none⟩) 514 c3, filF (c + 1) 512 G)] [(.slice (some ⟨g21, 0, none⟩) 1 1, [(k : Int)]), (.slice (some ⟨g20, 0, none⟩) 2 c20, [99, 98]), (.slice (some ⟨g16, 0, none⟩) 1 1, [(k : Int)]), (.slice (some ⟨g15, 0, none⟩) 1 1, [99])])
  case atStart => exact ⟨0, Nat.zero_le _, rfl, rfl, by rw [filF_zero]; exact P31.out⟩
  case round =>
  obtain ⟨kk, hkk, hgk, rfl, hp⟩ := hrel
  by_cases hlt : kk < 32768
  · have R : Aside (gk = 32768 - kk) := hgk
    have hlt' : (kk : Int) < 32768 := by omega
    obtain ⟨⟨u, c1⟩, c2, hp'⟩ := pk_fill hp (i := 1) rfl (by rw [RD.out.ml]; omega) NN.out.2.2.2.2
    have PP := Lib.hid hp'
    clear hp hp' hgk
    go_wp2_with fail
    go_roundg (32768 - (kk + 1))
    case measure => have := R.out; omega
    case rel => exact ⟨kk + 1, by omega, rfl, by go_num, PP.out⟩
  have ek : kk = 32768 := by omega
  subst ek
  have P32 := Lib.hid hp
  clear hp hgk hkk hlt P31
  have R33 := Lib.hid (pk_read P32.out (k : Int) F RD.out.r6 FL.out)
  go_wp2_with fail
  refine R33.out.mono ?_
  rintro e w33 ⟨g33, c33, rfl, hc33, hm33, h33⟩
  unfold maxLen at hm33
  have P33 : Hid (Pk b w w33 s6 [(.slice (some ⟨g33, 0, none⟩) 512 c33, F), (.slice (some ⟨g31, 0, none⟩) 32768 32768, s5.med), (.slice (some ⟨g30, 0, none⟩) 32768 32768, filF (c + 4) 32768 s5.med), (.slice (some ⟨g27, 0, none⟩) 512 c27, Z), (.slice (some ⟨g26, 0, none⟩) 512 c26, F), (.slice (some ⟨g25, 0, none⟩) 512 c25, filF (c + 3) 512 F), (.slice (some ⟨g22, 0, none⟩) 512 512, F), (.slice (some ⟨g14, 0, none⟩) 512 c14, F), (.slice (some ⟨g13, 0, none⟩) 512 c13, filF (c + 2) 512 F), (.slice (some ⟨g9, 0, none⟩) 3 c9, E.set 0 (c + 1)), (.slice (some ⟨g7, 0, none⟩) 512 512, F), (.slice (some ⟨g3, 0, none⟩) 514 c3, filF (c + 1) 512 G)] [(.slice (some ⟨g21, 0, none⟩) 1 1, [(k : Int)]), (.slice (some ⟨g20, 0, none⟩) 2 c20, [99, 98]), (.slice (some ⟨g16, 0, none⟩) 1 1, [(k : Int)]), (.slice (some ⟨g15, 0, none⟩) 1 1, [99])]) := Lib.hid h33
  clear h33 R33 P32
  have R34 := Lib.hid (pk_raw P33.out (k : Int) F RD.out.r7 FL.out)
  go_wp2_with fail
  refine R34.out.mono ?_
  rintro e w34 ⟨g34, c34, rfl, hc34, hm34, h34⟩
  have P34 : Hid (Pk b w w34 s6 [(.slice (some ⟨g34, 0, none⟩) 512 c34, F), (.slice (some ⟨g33, 0, none⟩) 512 c33, F), (.slice (some ⟨g31, 0, none⟩) 32768 32768, s5.med), (.slice (some ⟨g30, 0, none⟩) 32768 32768, filF (c + 4) 32768 s5.med), (.slice (some ⟨g27, 0, none⟩) 512 c27, Z), (.slice (some ⟨g26, 0, none⟩) 512 c26, F), (.slice (some ⟨g25, 0, none⟩) 512 c25, filF (c + 3) 512 F), (.slice (some ⟨g22, 0, none⟩) 512 512, F), (.slice (some ⟨g14, 0, none⟩) 512 c14, F), (.slice (some ⟨g13, 0, none⟩) 512 c13, filF (c + 2) 512 F), (.slice (some ⟨g9, 0, none⟩) 3 c9, E.set 0 (c + 1)), (.slice (some ⟨g7, 0, none⟩) 512 512, F), (.slice (some ⟨g3, 0, none⟩) 514 c3, filF (c + 1) 512 G)] [(.slice (some ⟨g21, 0, none⟩) 1 1, [(k : Int)]), (.slice (some ⟨g20, 0, none⟩) 2 c20, [99, 98]), (.slice (some ⟨g16, 0, none⟩) 1 1, [(k : Int)]), (.slice (some ⟨g15, 0, none⟩) 1 1, [99])]) := Lib.hid h34
  clear h34 R34 P33 hc34 hm34
  go_wp2_with fail
  have hb2 : (n2 != n2) = false := by simp
  have hb3 : (n3 != n3) = false := by simp
  have hb4 : (n4 != n4) = false := by simp
  go_loopg [32] 512 (fun g si wr => ∃ (kk : Nat), kk ≤ 512 ∧ g = 512 - kk ∧ si = .int .i64 kk ∧ Pk b w wr s6 [(.slice (some ⟨g34, 0, none⟩) 512 c34, F), (.slice (some ⟨g33, 0, none⟩) 512 c33, F), (.slice (some ⟨g31, 0, none⟩) 32768 32768, s5.med), (.slice (some ⟨g30, 0, none⟩) 32768 32768, filF (c + 4) 32768 s5.med), (.slice (some ⟨g27, 0, none⟩) 512 c27, Z), (.slice (some ⟨g26, 0, none⟩) 512 c26, F), (.slice (some ⟨g25, 0, none⟩) 512 c25, filF (c + 3) 512 F), (.slice (some ⟨g22, 0, none⟩) 512 512, F), (.slice (some ⟨g14, 0, none⟩) 512 c14, F), (.slice (some ⟨g13, 0, none⟩) 512 c13, filF (c + 2) 512 F), (.slice (some ⟨g9, 0, none⟩) 3 c9, E.set 0 (c + 1)), (.slice (some ⟨g7, 0, none⟩) 512 512, F), (.slice (some ⟨g3, 0, none⟩) 514 c3, filF (c + 1) 512 G)] [(.slice (some ⟨g21, 0, none⟩) 1 1, [(k : Int)]), (.slice (some ⟨g20, 0, none⟩) 2 c20, [99, 98]), (.slice (some ⟨g16, 0, none⟩) 1 1, [(k : Int)]), (.slice (some ⟨g15, 0, none⟩) 1 1, [99])])
  case atStart => exact ⟨0, Nat.zero_le _, rfl, rfl, P34.out⟩
  case round =>
  obtain ⟨kk, hkk, hgk, rfl, hp⟩ := hrel
  by_cases hlt : kk < 512
  · have R : Aside (gk = 512 - kk) := hgk
    have hlt' : (kk : Int) < 512 := by omega
    have hq : 512 * k + kk < 32768 := by omega
    have qa : wr.cell? ⟨g13, kk, none⟩ = some (.int .u8 n2) := by rw [NN.out.2.2.1]; exact pk_at hp (i := 9) rfl kk (c + 2) (filF_at _ _ _ _ hlt)
    have qx : wr.cell? ⟨g25, kk, none⟩ = some (.int .u8 n3) := by rw [NN.out.2.2.2.1]; exact pk_at hp (i := 6) rfl kk (c + 3) (filF_at _ _ _ _ hlt)
    have qm : wr.cell? ⟨g30, 512 * k + kk, none⟩ = some (.int .u8 n4) := by rw [NN.out.2.2.2.2]; exact pk_at hp (i := 3) rfl (512 * k + kk) (c + 4) (filF_at _ _ _ _ hq)
    have PP := Lib.hid hp
    clear hp hgk
    go_wp2_with fail
    go_roundg (512 - (kk + 1))
    case measure => have := R.out; omega
    case rel => exact ⟨kk + 1, by omega, rfl, by go_num, PP.out⟩
  have ek : kk = 512 := by omega
  subst ek
  have P35 := Lib.hid hp
  clear hp hgk hkk hlt P34
  have qp : wr.cell? ⟨g15, 0, none⟩ = some (.int .i64 99) := pk_int P35.out (i := 3) rfl 0 99 rfl
  go_wp2_with fail
  refine (FU.out P35.out).mono ?_
  rintro e w36 ⟨g36, rfl, h36⟩
  have P36 : Hid (Pk b w w36 s6 [(.slice (some ⟨g36, 0, none⟩) 512 512, F), (.slice (some ⟨g34, 0, none⟩) 512 c34, F), (.slice (some ⟨g33, 0, none⟩) 512 c33, F), (.slice (some ⟨g31, 0, none⟩) 32768 32768, s5.med), (.slice (some ⟨g30, 0, none⟩) 32768 32768, filF (c + 4) 32768 s5.med), (.slice (some ⟨g27, 0, none⟩) 512 c27, Z), (.slice (some ⟨g26, 0, none⟩) 512 c26, F), (.slice (some ⟨g25, 0, none⟩) 512 c25, filF (c + 3) 512 F), (.slice (some ⟨g22, 0, none⟩) 512 512, F), (.slice (some ⟨g14, 0, none⟩) 512 c14, F), (.slice (some ⟨g13, 0, none⟩) 512 c13, filF (c + 2) 512 F), (.slice (some ⟨g9, 0, none⟩) 3 c9, E.set 0 (c + 1)), (.slice (some ⟨g7, 0, none⟩) 512 512, F), (.slice (some ⟨g3, 0, none⟩) 514 c3, filF (c + 1) 512 G)] [(.slice (some ⟨g21, 0, none⟩) 1 1, [(k : Int)]), (.slice (some ⟨g20, 0, none⟩) 2 c20, [99, 98]), (.slice (some ⟨g16, 0, none⟩) 1 1, [(k : Int)]), (.slice (some ⟨g15, 0, none⟩) 1 1, [99])]) := Lib.hid h36
  clear h36 P35
  clear qp
  have S37 : Hid (Calls Try.prog 8 #[.slice (some ⟨g26, 0, none⟩) 512 c26, .slice (some ⟨g36, 0, none⟩) 512 512] w36 fun e w' => e = .returned (.bool true) ∧ w' = w36) := Lib.hid (by
    refine (same_any _ _ F F w36 (P36.out.rows (.slice (some ⟨g26, 0, none⟩) 512 c26, F) (List.mem_of_getElem? (i := 6) rfl)).bytes (P36.out.rows (.slice (some ⟨g36, 0, none⟩) 512 512, F) (List.mem_of_getElem? (i := 0) rfl)).bytes).mono ?_
    rintro e w' ⟨rfl, rfl⟩
    exact ⟨by rw [decide_eq_true rfl], rfl⟩)
  go_wp2_with fail
  refine S37.out.mono ?_
  rintro e w37 ⟨rfl, rfl⟩
  clear S37
  go_wp2_with fail
  refine (FU.out P36.out).mono ?_
  rintro e w38 ⟨g38, rfl, h38⟩
  have P38 : Hid (Pk b w w38 s6 [(.slice (some ⟨g38, 0, none⟩) 512 512, F), (.slice (some ⟨g36, 0, none⟩) 512 512, F), (.slice (some ⟨g34, 0, none⟩) 512 c34, F), (.slice (some ⟨g33, 0, none⟩) 512 c33, F), (.slice (some ⟨g31, 0, none⟩) 32768 32768, s5.med), (.slice (some ⟨g30, 0, none⟩) 32768 32768, filF (c + 4) 32768 s5.med), (.slice (some ⟨g27, 0, none⟩) 512 c27, Z), (.slice (some ⟨g26, 0, none⟩) 512 c26, F), (.slice (some ⟨g25, 0, none⟩) 512 c25, filF (c + 3) 512 F), (.slice (some ⟨g22, 0, none⟩) 512 512, F), (.slice (some ⟨g14, 0, none⟩) 512 c14, F), (.slice (some ⟨g13, 0, none⟩) 512 c13, filF (c + 2) 512 F), (.slice (some ⟨g9, 0, none⟩) 3 c9, E.set 0 (c + 1)), (.slice (some ⟨g7, 0, none⟩) 512 512, F), (.slice (some ⟨g3, 0, none⟩) 514 c3, filF (c + 1) 512 G)] [(.slice (some ⟨g21, 0, none⟩) 1 1, [(k : Int)]), (.slice (some ⟨g20, 0, none⟩) 2 c20, [99, 98]), (.slice (some ⟨g16, 0, none⟩) 1 1, [(k : Int)]), (.slice (some ⟨g15, 0, none⟩) 1 1, [99])]) := Lib.hid h38
  clear h38 P36
  have S39 : Hid (Calls Try.prog 8 #[.slice (some ⟨g33, 0, none⟩) 512 c33, .slice (some ⟨g38, 0, none⟩) 512 512] w38 fun e w' => e = .returned (.bool true) ∧ w' = w38) := Lib.hid (by
    refine (same_any _ _ F F w38 (P38.out.rows (.slice (some ⟨g33, 0, none⟩) 512 c33, F) (List.mem_of_getElem? (i := 3) rfl)).bytes (P38.out.rows (.slice (some ⟨g38, 0, none⟩) 512 512, F) (List.mem_of_getElem? (i := 0) rfl)).bytes).mono ?_
    rintro e w' ⟨rfl, rfl⟩
    exact ⟨by rw [decide_eq_true rfl], rfl⟩)
  go_wp2_with fail
  refine S39.out.mono ?_
  rintro e w39 ⟨rfl, rfl⟩
  clear S39
  have hk2 : (512 : Int) * (k : Int) + 512 ≤ 32768 := by omega
  go_wp2_with fail
  have BN : Bytes w39 (.slice (some ⟨g31, 512 * k, none⟩) 512 (32768 - 512 * k)) F := by
    have hb := (P38.out.rows (.slice (some ⟨g31, 0, none⟩) 32768 32768, s5.med) (List.mem_of_getElem? (i := 4) rfl)).bytes
    have hb' : Bytes w39 (.slice (some ⟨g31, 0, none⟩) s5.med.length 32768) s5.med := by rw [RD.out.ml]; exact hb
    have hd := hb'.drop (512 * k) (by rw [RD.out.ml]; omega)
    rw [← List.length_drop] at hd
    have ht := hd.take 512 (by rw [List.length_drop, RD.out.ml]; omega)
    rw [RD.out.mkk] at ht
    simp only [Option.map_some, add_plain, Nat.zero_add] at ht
    exact ht
  have S40 : Hid (Calls Try.prog 8 #[.slice (some ⟨g31, 512 * k, none⟩) 512 (32768 - 512 * k), .slice (some ⟨g33, 0, none⟩) 512 c33] w39 fun e w' => e = .returned (.bool true) ∧ w' = w39) := Lib.hid (by
    refine (same_any _ _ F F w39 BN (P38.out.rows (.slice (some ⟨g33, 0, none⟩) 512 c33, F) (List.mem_of_getElem? (i := 3) rfl)).bytes).mono ?_
    rintro e w' ⟨rfl, rfl⟩
    exact ⟨by rw [decide_eq_true rfl], rfl⟩)
  refine S40.out.mono ?_
  rintro e w40 ⟨rfl, rfl⟩
  clear S40 BN
  have z0 : w40.cell? ⟨g27, 510, none⟩ = some (.int .u8 n0) := by rw [NN.out.1]; exact pk_at P38.out (i := 6) rfl 510 c RD.out.z0
  have z1 : w40.cell? ⟨g27, 511, none⟩ = some (.int .u8 n0) := by rw [NN.out.1]; exact pk_at P38.out (i := 6) rfl 511 c RD.out.z1
  have z2 : w40.cell? ⟨g20, 1, none⟩ = some (.int .i64 98) := pk_int P38.out (i := 1) rfl 1 98 rfl
  have hnb : (n0 == n0) = true := by simp
  go_wp2_with fail
  go_ret
  refine ⟨rfl, ?_⟩
  exact P38.out.bel
theorem devApart_walk (c : UInt8) (a : Int) (w : World) (_ha : -9223372036854775808 ≤ a ∧ a ≤ 9223372036854775807) :
    Calls Try.prog 3 #[.int .u8 (c8 c), .int .i64 a] w fun e w' => e = .returned (.bool true) ∧ Below w.heap.size w w' := devApart_walk0 c a w
end Go.Proofs.Ytgncmnlopofkgaa
