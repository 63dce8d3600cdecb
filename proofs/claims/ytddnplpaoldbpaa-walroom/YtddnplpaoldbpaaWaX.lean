/-
  bring over a device that is neither armed nor down.
-/
import Derived.Test.YtddnplpaoldbpaaOpsW
namespace Go.Proofs.Ytddnplpaoldbpaa
open Go.RowKit Go.Maps
def Idle (ds : DS) : Prop := ds.armed = false ∧ ds.down = false
theorem act_idle {ds : DS} (h : Idle ds) : actD ds = (ds, 0) := by
  unfold actD
  rw [if_neg (by rw [h.1]; simp), if_neg (by rw [h.2]; simp), if_neg (by rw [h.1]; simp)]
theorem wr_idle {ds : DS} (h : Idle ds) (i : Nat) (hi : i < ds.n) (p : List UInt8) (hp : p.length = 512) : wrE ds (i : Int) p = (addW ds i p, 0) := by
  have hb : hasB ds (i : Int) = true := by unfold hasB; rw [Bool.and_eq_true, decide_eq_true_iff, decide_eq_true_iff]; omega
  unfold wrE
  rw [if_neg (by rw [hb]; simp), if_neg (by rw [hp]; exact fun h => h rfl), act_idle h, if_neg (fun h => h rfl), Int.toNat_natCast]
theorem up_nat (c : Nat) (h : c < 9223372036854775807) : up (c : Int) = ((c + 1 : Nat) : Int) := by unfold up wrap64; omega
theorem chk_len (s : LS) (i : Nat) : (chk s i).length ≤ 464 := by unfold chk; rw [List.length_take]; omega
theorem brD_ok (s : LS) : ∀ (r : Nat) (ds : DS) (c f : Nat), Idle ds → (∀ i, s.at i < ds.n) → ds.cw = (c : Int) → ds.cf = (f : Int) → c + r < 9223372036854775807 → f < 9223372036854775807 →
    ∃ ds', brD s r ds = (ds', 0) ∧ Idle ds' ∧ ds'.cache = [] ∧ ds'.n = ds.n ∧ ds'.cw = ((c + r : Nat) : Int) ∧ ds'.cf = ((f + 1 : Nat) : Int) ∧ ds'.ws = ds.ws + r
  | 0, ds, c, f, hi, hn, hc, hf, _, hf2 => by
    refine ⟨{ ds with med := sets (fun _ => (1, 0)) 0 ds.cache ds.med, cache := [], cf := up ds.cf }, ?_, hi, rfl, rfl, hc, ?_, rfl⟩
    · show flD ds = _
      unfold flD
      rw [act_idle hi, if_neg (fun h => h rfl)]
    · show up ds.cf = _
      rw [hf, up_nat f hf2]
  | r + 1, ds, c, f, hi, hn, hc, hf, hc2, hf2 => by
    have hl : (layB (gAt s (s.T - (r + 1))) (chk s (s.T - (r + 1)))).length = 512 := layB_length _ _ (chk_len _ _)
    have hw := wr_idle hi (s.at (s.T - (r + 1))) (hn _) _ hl
    obtain ⟨ds', h1, h2, h3, h4, h5, h6, h7⟩ := brD_ok s r (addW ds (s.at (s.T - (r + 1))) (layB (gAt s (s.T - (r + 1))) (chk s (s.T - (r + 1))))) (c + 1) f hi hn (by show up ds.cw = _; rw [hc, up_nat c (by omega)]) hf (by omega) hf2
    refine ⟨ds', ?_, h2, h3, h4, by rw [h5]; congr 1; omega, h6, by rw [h7]; show ds.ws + 1 + r = _; omega⟩
    rw [brD, hw, if_neg (fun h => h rfl)]
    exact h1
theorem at_lt {s : LS} {n : Nat} (h : LFit s) (hn : s.fst + s.n ≤ n) (i : Nat) : s.at i < n := by
  unfold LS.at
  have := Nat.mod_lt (s.ea + i) (show 0 < s.n by have := h.lo; omega)
  omega
end Go.Proofs.Ytddnplpaoldbpaa
