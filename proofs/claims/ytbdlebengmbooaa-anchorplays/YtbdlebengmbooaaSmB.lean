/-
  THE WALKS of package sum: byteTable.
-/
import Derived.Test.YtbdlebengmbooaaSmA
import Derived.Laws.CopyOwn
namespace Go.Proofs.Ytbdlebengmbooaa.Sm
open Go.RowKit

def tt (i : Nat) : Value := .int .u32 (u (shN 8 (BitVec.ofNat 32 i)))
def zt : Array Value := Array.replicate 256 (.int .u32 0)
theorem zero_tab (w : World) : (zeroValue 103).run Try.prog w = .ok (.agg zt) w := by kernel_rfl
theorem zt_size : zt.size = 256 := by simp [zt]
theorem zt_at (i : Nat) (h : i < 256) : zt[i]? = some (.int .u32 0) := by simp [zt, h]
theorem tt_join (h m : Nat) (hh : h < 256) (hm : m < 8) (hd : h % (2 * 2 ^ m) = 0) : BitVec.ofNat 32 (h + 2 ^ m) = BitVec.ofNat 32 h ^^^ BitVec.ofNat 32 (2 ^ m) := by
  have key : ∀ h : Fin 256, ∀ m : Fin 8, h.val % (2 * 2 ^ m.val) = 0 → BitVec.ofNat 32 (h.val + 2 ^ m.val) = BitVec.ofNat 32 h.val ^^^ BitVec.ofNat 32 (2 ^ m.val) := by decide +kernel
  exact key ⟨h, hh⟩ ⟨m, hm⟩ hd
theorem tt_bit (m : Nat) (hm : m < 8) : shN 8 (BitVec.ofNat 32 (2 ^ m)) = shN (8 - m) 1#32 := by
  have key : ∀ m : Fin 8, shN 8 (BitVec.ofNat 32 (2 ^ m.val)) = shN (8 - m.val) 1#32 := by decide +kernel
  exact key ⟨m, hm⟩
theorem tt_pow (m : Nat) (hm : m < 8) : 1 ≤ 2 ^ m ∧ 2 ^ m ≤ 128 ∧ 256 % (2 * 2 ^ m) = 0 := by
  have key : ∀ m : Fin 8, 1 ≤ 2 ^ m.val ∧ 2 ^ m.val ≤ 128 ∧ 256 % (2 * 2 ^ m.val) = 0 := by decide
  exact key ⟨m, hm⟩
theorem room {h b : Nat} (hh : h < 256) (hb : 256 % b = 0) (hd : h % b = 0) : h + b ≤ 256 := by
  have h1 : b ∣ 256 - h := (Nat.dvd_sub (Nat.dvd_of_mod_eq_zero hb) (Nat.dvd_of_mod_eq_zero hd))
  have := Nat.le_of_dvd (by omega) h1
  omega
/-- What the inner loop has laid: every multiple of 2b, and every multiple of b below h. -/
def Laid (cs : Array Value) (b h : Nat) : Prop := cs.size = 256 ∧ ∀ i, i < 256 → (i % (2 * b) = 0 ∨ (i % b = 0 ∧ i < h)) → cs[i]? = some (tt i)
theorem laid_step {cs : Array Value} {b h : Nat} (H : Laid cs b h) (v : Value) (hb : 1 ≤ b) (hd : h % (2 * b) = 0) (hr : h + 2 * b ≤ 256) (hv : v = tt (h + b)) : Laid (cs.setIfInBounds (h + b) v) b (h + 2 * b) := by
  refine ⟨by simp [H.1], fun i hi hc => ?_⟩
  rw [Array.getElem?_setIfInBounds]
  by_cases e : h + b = i
  · subst e; rw [if_pos rfl, if_pos (by rw [H.1]; omega), hv]
  · rw [if_neg e]
    refine H.2 i hi ?_
    rcases hc with hc | ⟨hc, hl⟩
    · exact Or.inl hc
    · by_cases q : i < h
      · exact Or.inr ⟨hc, q⟩
      · refine Or.inl ?_
        obtain ⟨c, hc'⟩ := Nat.dvd_of_mod_eq_zero hc
        obtain ⟨d, hd'⟩ := Nat.dvd_of_mod_eq_zero hd
        subst hc' hd'
        have h1 : 2 * b * d = b * (2 * d) := by rw [Nat.mul_comm 2 b, Nat.mul_assoc]
        have h2 : b * (2 * d) ≤ b * c := by omega
        have h3 : b * c < b * (2 * d + 2) := by rw [Nat.mul_add]; omega
        have h4 : 2 * d ≤ c := Nat.le_of_mul_le_mul_left h2 (by omega)
        have h5 : c < 2 * d + 2 := Nat.lt_of_mul_lt_mul_left h3
        have h6 : c ≠ 2 * d + 1 := fun q => e (by rw [h1, q, Nat.mul_add]; omega)
        obtain rfl : c = 2 * d := by omega
        rw [← h1]; exact Nat.mul_mod_right _ _

def Done (cs : Array Value) (k : Nat) : Prop := cs.size = 256 ∧ ∀ i, i < 256 → i % 2 ^ k = 0 → cs[i]? = some (tt i)
theorem done_zero : Done zt 8 := by
  refine ⟨zt_size, fun i hi h => ?_⟩
  obtain rfl : i = 0 := by omega
  rw [zt_at 0 (by omega)]; rfl
theorem laid_of_done {cs : Array Value} {m : Nat} (H : Done cs (m + 1)) : Laid cs (2 ^ m) 0 :=
  ⟨H.1, fun i hi hc => by
    rcases hc with hc | ⟨_, hl⟩
    · exact H.2 i hi (by rw [Nat.pow_succ, Nat.mul_comm]; exact hc)
    · omega⟩
theorem done_of_laid {cs : Array Value} {m h : Nat} (H : Laid cs (2 ^ m) h) (hh : 256 ≤ h) : Done cs m :=
  ⟨H.1, fun i hi hc => H.2 i hi (Or.inr ⟨hc, by omega⟩)⟩
theorem tt_xor (h m : Nat) (hh : h < 256) (hm : m < 8) (hd : h % (2 * 2 ^ m) = 0) : Value.int .u32 (bits .xor .u32 (u (shN 8 (BitVec.ofNat 32 h))) (u (shN (8 - m) 1#32))) = tt (h + 2 ^ m) := by
  unfold tt; rw [tt_join h m hh hm hd, shN_xor, tt_bit m hm, bits_xor_u]

theorem info_tab : (Try.prog.info? 103).map (·.size) = some 256 := by kernel_rfl
theorem all_tab {cs : Array Value} (H : Done cs 0) : cs.all (·.oneCell') = true := by
  rw [Array.all_eq_true]
  intro i hi
  have h := H.2 i (by rw [← H.1]; exact hi) (by omega)
  rw [Array.getElem?_eq_getElem hi] at h
  have e : cs[i] = tt i := by simpa using h
  rw [e]; rfl

set_option maxHeartbeats 1000000 in
set_option maxRecDepth 100000 in
theorem table_any (w : World) :
    Calls Try.prog 65 #[] w fun e w' => ∃ cs, e = .returned (.agg cs) ∧ Done cs 0 ∧ Below w.heap.size w w' := by
  have hz := zero_tab
  go_enter Try.func65, Try.ntmps65
  go_wp2
  go_loopg [2, 3, 4] 8 (fun k sw sb s4 wr => ∃ (cs : Array Value) (b : Nat) (v4 : Value), k ≤ 8 ∧ sw = .int .u32 (u (shN (8 - k) 1#32)) ∧ sb = .int .i64 b ∧ b = 2 ^ k / 2 ∧ s4 = v4 ∧ Done cs k ∧ wr = (w.alloc (.cells zt 103)).alloc (.cells cs 103))
  case atStart => exact ⟨zt, 128, _, Nat.le_refl _, rfl, rfl, rfl, rfl, done_zero, rfl⟩
  case round =>
    obtain ⟨cs, b, v4, hk, rfl, rfl, hb, rfl, hd, rfl⟩ := hrel
    have hd' : Aside (Done cs gk) := hd
    have hb' : Aside (b = 2 ^ gk / 2) := hb
    clear hd hb
    obtain rfl | ⟨m, rfl⟩ : gk = 0 ∨ ∃ m, gk = m + 1 := by cases gk with | zero => exact Or.inl rfl | succ m => exact Or.inr ⟨m, rfl⟩
    · obtain rfl : b = 0 := hb'.out
      clear hb'
      have hi : (Try.prog.info? 103).map (·.size) = some cs.size := by rw [hd'.out.1]; exact info_tab
      have g1 := heap_alloc2_new w (.cells zt 103) (.cells cs 103)
      have g0 := heap_alloc2_old w (.cells zt 103) (.cells cs 103)
      have hs : zt.size = cs.size := by rw [zt_size, hd'.out.1]
      have h1 := all_tab hd'.out
      have H : Hid (zt.size = cs.size) := hs
      have H1 : Hid (cs.all (·.oneCell') = true) := h1
      have H2 : Hid ((Try.prog.info? 103).map (·.size) = some cs.size) := hi
      clear hs h1 hi
      go_wp2_with (first | (refine wpList_load_row rfl 103 _ rfl (w.heap.size + 1) rfl 103 cs (0, 0) _ g1 Try.underlying103 rfl H2.out ?_) | (refine wpList_store_row rfl 103 _ _ rfl w.heap.size cs rfl rfl 103 zt g0 H2.out H.out H1.out ?_))
      refine bodyPost_ret (v := .agg cs) (results_cell_row Try.results65 _ _ w.heap.size 103 cs (0, 0) _ rfl (setRow_heap _ _ _ _ _ _ g0) Try.underlying103 rfl H2.out) rfl ⟨cs, rfl, hd'.out, ?_⟩
      exact below_setRow (((Below.refl _ _).alloc (Nat.le_refl _) _).alloc (by simp) _) (Nat.le_refl _) _
    · obtain ⟨p1, p2, p3⟩ := tt_pow m (by omega)
      have hb : b = 2 ^ m := by rw [hb'.out, Nat.pow_succ]; omega
      have hl := laid_of_done hd'.out
      rw [← hb] at p1 p2 p3 hl
      have A : Aside (b = 2 ^ m ∧ Laid cs b 0 ∧ 256 % (2 * b) = 0) := ⟨hb, hl, p3⟩
      clear hb hl p3 hd' hb'
      go_wp2_with (go_at_call 70; refine (shift_any _ _).mono ?_; rintro e w' ⟨rfl, rfl⟩)
      obtain ⟨x, hx⟩ : ∃ x, x = sh (shN (7 - m) 1#32) := ⟨_, rfl⟩
      rw [← hx]
      have B : Aside (x = sh (shN (7 - m) 1#32)) := hx
      clear hx
      go_loopg [4] 256 (fun k s4 wr => ∃ (cs : Array Value) (h : Nat), h ≤ 256 ∧ k = 256 - h ∧ s4 = .int .i64 h ∧ h % (2 * b) = 0 ∧ Laid cs b h ∧ wr = (w.alloc (.cells zt 103)).alloc (.cells cs 103))
      case atStart => exact ⟨cs, 0, by omega, rfl, rfl, Nat.zero_mod _, A.out.2.1, rfl⟩
      case round =>
        obtain ⟨cs, h, hh, hgk, rfl, hm, hl, rfl⟩ := hrel
        have C : Aside (gk = 256 - h ∧ h % (2 * b) = 0 ∧ Laid cs b h) := ⟨hgk, hm, hl⟩
        clear hgk hm hl
        by_cases hlt : h < 256
        · have hr : h + 2 * b ≤ 256 := room hlt A.out.2.2 C.out.2.1
          have hc : cs[h]? = some (.int .u32 (u (shN 8 (BitVec.ofNat 32 h)))) := C.out.2.2.2 h hlt (Or.inl C.out.2.1)
          have hz : cs.size = 256 := C.out.2.2.1
          have hp : h < cs.size := by omega
          have hc' : cs[h] = .int .u32 (u (shN 8 (BitVec.ofNat 32 h))) := by rw [Array.getElem?_eq_getElem hp] at hc; simpa using hc
          clear hc
          have hq : h + b < 256 := by omega
          have hq' : h + b < cs.size := by omega
          have hv : cs[h + b]? = some cs[h + b] := Array.getElem?_eq_getElem hq'
          go_wp2
          go_roundg (256 - (h + 2 * b))
          case measure => have := C.out.1; omega
          case rel =>
            refine ⟨_, h + 2 * b, hr, rfl, by go_num, ?_, laid_step C.out.2.2 _ p1 C.out.2.1 hr ?_, rfl⟩
            · rw [Nat.add_mod, C.out.2.1]; simp
            · obtain ⟨hb, _, _⟩ := A.out
              have e : x = shN (8 - m) 1#32 := by rw [B.out, ← shN_succ']; congr 1; omega
              rw [hb, e, tt_xor h m hlt (by omega) (by rw [← hb]; exact C.out.2.1)]
        · go_wp2
          go_roundg m
          case measure => omega
          case rel =>
            obtain ⟨hb, _, _⟩ := A.out
            refine ⟨cs, b / 2, _, by omega, ?_, by go_num, by rw [hb], rfl, done_of_laid (by rw [← hb]; exact C.out.2.2) (by omega), rfl⟩
            rw [B.out, ← shN_succ']; congr 3; omega
end Go.Proofs.Ytbdlebengmbooaa.Sm
