/-
  factorOf at every suffix.
-/
import Derived.Test.YtjegjpdeclgegaaDoorBackM
namespace Go.Proofs.YtjegjpdeclgegaaDoor
open Go.RowKit Go.Lib
set_option maxHeartbeats 4000000 in
set_option maxRecDepth 100000 in
theorem factor_any (i : Nat) (hi : i < 12) (w : World) (h : Suf w) : Calls Tryd.prog 18 #[.string (sufT i)] w fun e w' => e = .returned (.int .u64 (sufN i)) ∧ Below w.heap.size w w' := by
  have H : Hid (Suf w) := h
  clear h
  obtain ⟨x, hx⟩ : ∃ x, x = sufT i := ⟨_, rfl⟩
  obtain ⟨m, hm⟩ : ∃ m, m = sufN i := ⟨_, rfl⟩
  have NI : Aside (x = sufT i ∧ m = sufN i ∧ i < 12) := ⟨hx, hm, hi⟩
  rw [← hx, ← hm]
  clear hx hm hi
  go_enter Tryd.func18, Tryd.ntmps18
  go_wp2_with (refine load_suf rfl rfl H.out ?_)
  go_loopg [6] (i + 1) (fun g si wr => ∃ (k : Nat), k ≤ i ∧ g = i + 1 - k ∧ si = .int .i64 k ∧ Below w.heap.size w wr)
  case atStart => exact ⟨0, by omega, rfl, rfl, Below.refl _ _⟩
  case round =>
    obtain ⟨k, hk, hg, rfl, hb⟩ := hrel
    have R : Aside (gk = i + 1 - k ∧ Below w.heap.size w wr) := ⟨hg, hb⟩
    clear hg hb
    have hi := NI.out.2.2
    have hlt : k < 12 := by omega
    have hlt' : (k : Int) < 12 := by omega
    have hix := fun w => suf_idx w k hlt
    by_cases e : k = i
    · subst e
      rw [← NI.out.1, ← NI.out.2.1] at hix
      have b1 : Aside (Below w.heap.size w (wr.alloc (.cells #[.string x, .int .u64 m] 35))) := R.out.2.trans (((Below.refl _ _).alloc (Nat.le_refl _) _).mono R.out.2.size)
      clear hi hk hlt
      go_wp2_with fail
      go_ret
      exact ⟨rfl, b1.out⟩
    · obtain ⟨t, ht⟩ : ∃ t, t = sufT k := ⟨_, rfl⟩
      obtain ⟨n, hn⟩ : ∃ n, n = sufN k := ⟨_, rfl⟩
      have ne : (t.toList == x.toList) = false := by
        have h := suf_apart k hlt i hi e
        rw [← ht, ← NI.out.1] at h
        rw [ByteArray.toList_eq, ByteArray.toList_eq]
        exact h
      rw [← ht, ← hn] at hix
      have b1 : Aside (Below w.heap.size w (wr.alloc (.cells #[.string t, .int .u64 n] 35))) := R.out.2.trans (((Below.refl _ _).alloc (Nat.le_refl _) _).mono R.out.2.size)
      have K : Aside (k < i) := by show k < i; omega
      clear ht hn hi hk hlt
      go_wp2_with fail
      go_roundg (i + 1 - (k + 1))
      case measure => have := R.out.1; have := K.out; omega
      case rel => exact ⟨k + 1, K.out, rfl, by go_num, b1.out⟩
end Go.Proofs.YtjegjpdeclgegaaDoor
