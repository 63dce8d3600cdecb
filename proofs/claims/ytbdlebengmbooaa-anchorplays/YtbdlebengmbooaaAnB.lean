/-
  There and back; what a device at rest tells.
-/
import Derived.Test.YtbdlebengmbooaaAnWm
import Derived.Test.YtbdlebengmbooaaAnR
namespace Go.Proofs.Ytbdlebengmbooaa
open Go.RowKit Go.Maps
theorem dropA (X Y : List UInt8) (n k : Nat) (h : n = X.length + k) : (X ++ Y).drop n = Y.drop k := by
  subst h
  rw [List.drop_length_add_append]
theorem lay_chain (s : Sup) : layA s = [66, 83, 65, 82] ++ (leB 4 1 ++ (leB 8 s.gen.toNat ++ (leB 8 s.ep.toNat ++ (leB 4 s.blk.toNat ++ (leB 4 s.log.toNat ++ (leB 8 s.st.toNat ++ (leB 4 s.pl.toNat ++ (leB 4 s.rt.toNat ++ (leB 8 s.cnt.toNat ++ (leB 8 s.ver.toNat ++ (zs 436 ++ (leB 4 (crc (hdA s ++ bdA s)) ++ (leB 8 s.gen.toNat))))))))))))) := by
  unfold layA bdA
  conv => lhs; lhs; unfold hdA
  simp only [List.append_assoc]
theorem sub_gen (s : Sup) : sub (layA s) 8 8 = leB 8 s.gen.toNat := by
  unfold sub
  rw [lay_chain, dropA _ _ 8 4 (by first | rfl | rw [leB_length]), dropA _ _ 4 0 (by first | rfl | rw [leB_length]), List.drop_zero, List.take_left' (leB_length _ _)]
theorem sub_ep (s : Sup) : sub (layA s) 16 8 = leB 8 s.ep.toNat := by
  unfold sub
  rw [lay_chain, dropA _ _ 16 12 (by first | rfl | rw [leB_length]), dropA _ _ 12 8 (by first | rfl | rw [leB_length]), dropA _ _ 8 0 (by first | rfl | rw [leB_length]), List.drop_zero, List.take_left' (leB_length _ _)]
theorem sub_blk (s : Sup) : sub (layA s) 24 4 = leB 4 s.blk.toNat := by
  unfold sub
  rw [lay_chain, dropA _ _ 24 20 (by first | rfl | rw [leB_length]), dropA _ _ 20 16 (by first | rfl | rw [leB_length]), dropA _ _ 16 8 (by first | rfl | rw [leB_length]), dropA _ _ 8 0 (by first | rfl | rw [leB_length]), List.drop_zero, List.take_left' (leB_length _ _)]
theorem sub_log (s : Sup) : sub (layA s) 28 4 = leB 4 s.log.toNat := by
  unfold sub
  rw [lay_chain, dropA _ _ 28 24 (by first | rfl | rw [leB_length]), dropA _ _ 24 20 (by first | rfl | rw [leB_length]), dropA _ _ 20 12 (by first | rfl | rw [leB_length]), dropA _ _ 12 4 (by first | rfl | rw [leB_length]), dropA _ _ 4 0 (by first | rfl | rw [leB_length]), List.drop_zero, List.take_left' (leB_length _ _)]
theorem sub_st (s : Sup) : sub (layA s) 32 8 = leB 8 s.st.toNat := by
  unfold sub
  rw [lay_chain, dropA _ _ 32 28 (by first | rfl | rw [leB_length]), dropA _ _ 28 24 (by first | rfl | rw [leB_length]), dropA _ _ 24 16 (by first | rfl | rw [leB_length]), dropA _ _ 16 8 (by first | rfl | rw [leB_length]), dropA _ _ 8 4 (by first | rfl | rw [leB_length]), dropA _ _ 4 0 (by first | rfl | rw [leB_length]), List.drop_zero, List.take_left' (leB_length _ _)]
theorem sub_pl (s : Sup) : sub (layA s) 40 4 = leB 4 s.pl.toNat := by
  unfold sub
  rw [lay_chain, dropA _ _ 40 36 (by first | rfl | rw [leB_length]), dropA _ _ 36 32 (by first | rfl | rw [leB_length]), dropA _ _ 32 24 (by first | rfl | rw [leB_length]), dropA _ _ 24 16 (by first | rfl | rw [leB_length]), dropA _ _ 16 12 (by first | rfl | rw [leB_length]), dropA _ _ 12 8 (by first | rfl | rw [leB_length]), dropA _ _ 8 0 (by first | rfl | rw [leB_length]), List.drop_zero, List.take_left' (leB_length _ _)]
theorem sub_rt (s : Sup) : sub (layA s) 44 4 = leB 4 s.rt.toNat := by
  unfold sub
  rw [lay_chain, dropA _ _ 44 40 (by first | rfl | rw [leB_length]), dropA _ _ 40 36 (by first | rfl | rw [leB_length]), dropA _ _ 36 28 (by first | rfl | rw [leB_length]), dropA _ _ 28 20 (by first | rfl | rw [leB_length]), dropA _ _ 20 16 (by first | rfl | rw [leB_length]), dropA _ _ 16 12 (by first | rfl | rw [leB_length]), dropA _ _ 12 4 (by first | rfl | rw [leB_length]), dropA _ _ 4 0 (by first | rfl | rw [leB_length]), List.drop_zero, List.take_left' (leB_length _ _)]
theorem sub_cnt (s : Sup) : sub (layA s) 48 8 = leB 8 s.cnt.toNat := by
  unfold sub
  rw [lay_chain, dropA _ _ 48 44 (by first | rfl | rw [leB_length]), dropA _ _ 44 40 (by first | rfl | rw [leB_length]), dropA _ _ 40 32 (by first | rfl | rw [leB_length]), dropA _ _ 32 24 (by first | rfl | rw [leB_length]), dropA _ _ 24 20 (by first | rfl | rw [leB_length]), dropA _ _ 20 16 (by first | rfl | rw [leB_length]), dropA _ _ 16 8 (by first | rfl | rw [leB_length]), dropA _ _ 8 4 (by first | rfl | rw [leB_length]), dropA _ _ 4 0 (by first | rfl | rw [leB_length]), List.drop_zero, List.take_left' (leB_length _ _)]
theorem sub_ver (s : Sup) : sub (layA s) 56 8 = leB 8 s.ver.toNat := by
  unfold sub
  rw [lay_chain, dropA _ _ 56 52 (by first | rfl | rw [leB_length]), dropA _ _ 52 48 (by first | rfl | rw [leB_length]), dropA _ _ 48 40 (by first | rfl | rw [leB_length]), dropA _ _ 40 32 (by first | rfl | rw [leB_length]), dropA _ _ 32 28 (by first | rfl | rw [leB_length]), dropA _ _ 28 24 (by first | rfl | rw [leB_length]), dropA _ _ 24 16 (by first | rfl | rw [leB_length]), dropA _ _ 16 12 (by first | rfl | rw [leB_length]), dropA _ _ 12 8 (by first | rfl | rw [leB_length]), dropA _ _ 8 0 (by first | rfl | rw [leB_length]), List.drop_zero, List.take_left' (leB_length _ _)]
theorem wrap_in {x : Int} (h1 : -9223372036854775808 ≤ x) (h2 : x ≤ 9223372036854775807) : IntKind.i64.wrap x = x := by
  first | exact IntKind.wrap_of_inRange (by simp [IntKind.inRange]; omega) | (unfold IntKind.wrap; simp [IntKind.bits, IntKind.signed]; omega) | (simp [IntKind.wrap]; omega)
theorem wrap_le {n : Nat} {x : Int} (h0 : 0 ≤ x) (h1 : x.toNat < 256 ^ n) (h2 : x ≤ 9223372036854775807) : IntKind.i64.wrap ((leN (leB n x.toNat) : Nat) : Int) = x := by
  rw [leN_leB n _ h1, Int.toNat_of_nonneg h0]
  exact wrap_in (by omega) h2
theorem se_lay (s : Sup) (h : Vd s) : seA (layA s) = s := by
  obtain ⟨b1, b2, l1, l2, lb, g1, g2, e1, e2, s1, s2, p1, v1, v2, r1⟩ := h
  have p2 : 0 ≤ s.pl := by rw [p1]; exact Int.emod_nonneg _ (by omega)
  have p3 : s.pl < s.log := by rw [p1]; exact Int.emod_lt_of_pos _ (by omega)
  have e8 : (256 : Nat) ^ 8 = 18446744073709551616 := by decide
  have e4 : (256 : Nat) ^ 4 = 4294967296 := by decide
  unfold seA
  rw [sub_gen, wrap_le (x := s.gen) (by omega) (by omega) (by omega)]
  rw [sub_ep, wrap_le (x := s.ep) (by omega) (by omega) (by omega)]
  rw [sub_blk, wrap_le (x := s.blk) (by omega) (by omega) (by omega)]
  rw [sub_log, wrap_le (x := s.log) (by omega) (by omega) (by omega)]
  rw [sub_st, wrap_le (x := s.st) (by omega) (by omega) (by omega)]
  rw [sub_pl, wrap_le (x := s.pl) (by omega) (by omega) (by omega)]
  rw [sub_rt, wrap_le (x := s.rt) (by omega) (by omega) (by omega)]
  rw [sub_cnt, wrap_le (x := s.cnt) (by omega) (by omega) (by omega)]
  rw [sub_ver, wrap_le (x := s.ver) (by omega) (by omega) (by omega)]
theorem vd_va {s : Sup} (h : Vd s) : vaB s s.blk = true := (vd_iff s).2 h
theorem dec_lay (s : Sup) (h : Vd s) : decR (layA s) = (s, 0) := by
  unfold decR
  rw [if_neg (by rw [layA_length]; simp), se_lay s h, if_pos ⟨vd_va h, rfl⟩]
theorem se_zero : seA (zs 512) = zeroS := by kernel_rfl
theorem dec_zero : decR (zs 512) = (zeroS, 2) := by
  unfold decR
  rw [if_neg (by rw [List.length_replicate]; simp), se_zero, if_neg]
  rintro ⟨h, _⟩
  exact absurd h (by decide)
theorem rdB_none {ds : DS} (h : ds.cache = []) (b : Nat) : rdB ds b = raw ds.med b := by
  unfold rdB
  rw [h]
  rfl
theorem raw_zs (n b : Nat) (h : b < n) : raw (List.replicate (512 * n) 0) b = zs 512 := by
  unfold raw
  rw [List.drop_replicate, List.take_replicate]
  congr 1
  omega
/-- What Write leaves of a device at rest. -/
def wrS (ds : DS) (s : Sup) : DS := { ds with med := lay ds.med (s.gen % 2).toNat (layA s), cache := [], cw := up ds.cw, cf := up ds.cf, ws := ds.ws + 1 }
theorem gen2 (s : Sup) : ∃ k : Nat, s.gen % 2 = (k : Int) ∧ k < 2 ∧ (s.gen % 2).toNat = k := ⟨(s.gen % 2).toNat, by omega, by omega, rfl⟩
theorem wrA_idle {ds : DS} (ha : ds.armed = false) (hd : ds.down = false) (hc : ds.cache = []) (hn : 64 ≤ ds.n) (s : Sup) (hv : vaB s (ds.n : Int) = true) : wrA ds s = (wrS ds s, 0) := by
  obtain ⟨k, hk, hk2, hk3⟩ := gen2 s
  have h1 : actD ds = (ds, 0) := by unfold actD; rw [ha, hd]; rfl
  have hb : hasB ds (k : Int) = true := by unfold hasB; rw [Bool.and_eq_true, decide_eq_true_iff, decide_eq_true_iff]; omega
  have h2 : wrE ds (s.gen % 2) (layA s) = (addW ds k (layA s), 0) := by
    unfold wrE
    rw [hk, if_neg (by rw [hb]; simp), if_neg (by rw [layA_length]; simp), if_neg (by rw [h1]; simp), h1, Int.toNat_natCast]
  have h3 : actD (addW ds k (layA s)) = (addW ds k (layA s), 0) := by unfold actD addW; simp only [ha, hd]; rfl
  unfold wrA
  rw [if_neg (by rw [hv]; simp), if_neg (by rw [h2]; simp), h2]
  unfold flD
  rw [if_neg (by rw [h3]; simp), h3]
  unfold wrS addW
  simp only [hc, List.nil_append, sets, hk3]
  have e : (keptN ((1 : Int), (0 : Int))).1 = 512 := rfl
  rw [e, List.take_of_length_le (by rw [layA_length]; exact Nat.le_refl _), ha, hd]
def firstS : Sup := ⟨1, 1, 64, 8, 1, 0, 0, 0, 0⟩
theorem first_va : vaB firstS 64 = true := by decide
theorem first_vd : Vd firstS := (vd_iff _).1 first_va
theorem wrS_raw {ds : DS} {s : Sup} (hl : 1024 ≤ ds.med.length) (k : Nat) (hk : (s.gen % 2).toNat = k) (hk2 : k < 2) : rdB (wrS ds s) k = layA s ∧ ∀ j, j ≠ k → rdB (wrS ds s) j = raw ds.med j := by
  refine ⟨?_, fun j hj => ?_⟩
  · rw [rdB_none rfl]
    show raw (lay ds.med (s.gen % 2).toNat (layA s)) k = _
    rw [hk, raw_lay_same _ k _ (by rw [layA_length]; exact Nat.le_refl _) (by omega), splice_all _ _ (by rw [layA_length, raw_length _ _ (by omega)])]
  · rw [rdB_none rfl]
    show raw (lay ds.med (s.gen % 2).toNat (layA s)) j = _
    rw [hk, raw_lay_other _ k j _ (by rw [layA_length]; exact Nat.le_refl _) (by omega) hj]
/-- A medium of 64 blocks of zeros. -/
structure Zm (z : List UInt8) : Prop where
  len : z.length = 512 * 64
  raw : ∀ b, b < 64 → raw z b = zs 512
theorem zm_zs : Zm (List.replicate (512 * 64) 0) := ⟨List.length_replicate, fun b hb => raw_zs 64 b hb⟩
theorem fx0_bst {z : List UInt8} (hz : Zm z) : ∀ k, k ≤ 2 → bst (newD 64 z) k = zeroS
  | 0, _ => rfl
  | k + 1, h => by
    have e : rdB (newD 64 z) k = zs 512 := by rw [rdB_none rfl]; exact hz.raw k (by omega)
    rw [bst, e, dec_zero, fx0_bst hz k (by omega), pickA, if_neg]
    rintro ⟨h, _⟩
    exact absurd h (by decide)
theorem fx0_read {z : List UInt8} (hz : Zm z) : readU (newD 64 z) = (zeroS, 0, 5) := by
  unfold readU
  rw [fx0_bst hz 2 (by omega), if_pos (show zeroS.gen = 0 from rfl)]
theorem fx0_write (z : List UInt8) : wrA (rdk (newD 64 z) 2) firstS = (wrS (rdk (newD 64 z) 2) firstS, 0) := wrA_idle rfl rfl rfl (Nat.le_refl _) _ first_va
theorem pick_no {n k : Nat} {r : Sup × Int} {best : Sup} (h : r.2 ≠ 0) : pickA n k r best = best := by
  unfold pickA
  rw [if_neg (fun q => h q.1)]
theorem fx1_read {z : List UInt8} (hz : Zm z) : readU (wrS (rdk (newD 64 z) 2) firstS) = (firstS, 1, 0) := by
  have hm : (rdk (newD 64 z) 2).med = z := rfl
  obtain ⟨e1, h0⟩ := wrS_raw (ds := rdk (newD 64 z) 2) (s := firstS) (by rw [hm, hz.len]; decide) 1 rfl (by decide)
  have e0 := h0 0 (by decide)
  rw [hm, hz.raw 0 (by decide)] at e0
  have b2 : bst (wrS (rdk (newD 64 z) 2) firstS) 2 = firstS := by
    rw [bst, bst, e0, e1, dec_lay _ first_vd, dec_zero, pick_no (r := (zeroS, 2)) (show (2 : Int) ≠ 0 by decide)]
    unfold pickA
    rw [if_pos ⟨rfl, first_va, rfl, (show (0 : Int) < 1 by decide)⟩]
  unfold readU
  rw [b2, if_neg (show ¬ firstS.gen = 0 from (by decide : ¬ (1 : Int) = 0))]
  rfl
theorem first_nine : ((layA firstS).drop 0).take 9 = [66, 83, 65, 82, 1, 0, 0, 0, 1] := by
  rw [List.drop_zero]
  unfold layA
  rw [List.take_append_of_le_length (by rw [hdA_length]; decide)]
  kernel_rfl
end Go.Proofs.Ytbdlebengmbooaa
