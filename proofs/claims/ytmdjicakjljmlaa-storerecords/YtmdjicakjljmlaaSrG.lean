/-
  The document's wrong, Record. (tools/gsrg.py writes it.)
-/
import Derived.Test.YtmdjicakjljmlaaSrF
import Derived.Test.YtmdjicakjljmlaaRefW3
namespace Go.Proofs.Ytmdjicakjljmlaa
open Go.RowKit
/-- What wrong tells. -/
def wrN (l : List Ch) : Nat := if stB l = true then (if shB l = true then 0 else 23) else 1
theorem wrN_no {l : List Ch} (h : stB l = false) : wrN l = 1 := by unfold wrN; rw [h]; rfl
theorem wrN_long {l : List Ch} (h : stB l = true) (h2 : shB l = false) : wrN l = 23 := by unfold wrN; rw [h, h2]; rfl
theorem wrN_ok {l : List Ch} (h : stB l = true) (h2 : shB l = true) : wrN l = 0 := by unfold wrN; rw [h, h2]; rfl
set_option maxHeartbeats 8000000 in
set_option maxRecDepth 100000 in
theorem wrong_any (v : Value) (l : List Ch) (w : World) (hv : Chs w v l) :
    Calls Try.prog 13 #[v] w fun e w' => e = .returned (.int .i64 (wrN l)) ∧ Below w.heap.size w w' := by
  have V : Aside (Chs w v l) := hv
  obtain ⟨a, cap, rfl, hlc, hcm⟩ := hv.len
  unfold maxLen at hcm
  clear hv
  by_cases h0 : l.length = 0
  · have S : Aside (wrN l = 1) := wrN_no (by unfold stB; rw [decide_eq_false (show ¬ 0 < l.length by omega), Bool.and_false, Bool.and_false])
    have h0' : (l.length : Int) = 0 := by omega
    go_enter Try.func13, Try.ntmps13
    rw [h0] at *
    go_wp2_with fail
    go_ret
    exact ⟨by rw [S.out]; rfl, Below.refl _ _⟩
  have h0' : ((l.length : Int) == 0) = false := by rw [beq_eq_false_iff_ne]; omega
  have HP : Aside (0 < l.length) := by show 0 < _; omega
  clear h0
  go_enter Try.func13, Try.ntmps13
  go_wp2_with fail
  go_loopg [3] l.length (fun g si wr => ∃ (k : Nat), k ≤ l.length ∧ g = l.length - k ∧ si = .int .i64 k ∧ ((l.take k).all Ch.stB = true ∧ ((l.take k).map Ch.k).Nodup) ∧ Below w.heap.size w wr)
  case atStart => exact ⟨0, Nat.zero_le _, rfl, rfl, ⟨rfl, by simp⟩, Below.refl _ _⟩
  case round =>
    obtain ⟨k, hk, hg, rfl, ha, hb⟩ := hrel
    have R : Aside (gk = l.length - k ∧ ((l.take k).all Ch.stB = true ∧ ((l.take k).map Ch.k).Nodup) ∧ Below w.heap.size w wr) := ⟨hg, ha, hb⟩
    clear hg ha hb
    by_cases hlt : k < l.length
    · obtain ⟨b, off, rfl, p0, p1, p2⟩ := (V.out.below R.out.2.2).at k hlt
      obtain ⟨x, hx⟩ : ∃ x, x = l.getD k Ch.z := ⟨_, rfl⟩
      rw [← hx] at p0 p1 p2
      have X : Aside (x = l.getD k Ch.z) := hx
      clear hx
      obtain ⟨xk, xv, xg⟩ := x
      simp only at p0 p1 p2
      have hlt' : (k : Int) < (l.length : Int) := by omega
      by_cases hk0 : xk.size = 0
      · have e0 := empty_yes hk0
        have S : Aside (wrN l = 1) := wrN_no (all_no hlt (by rw [← X.out]; unfold Ch.stB; rw [decide_eq_false (show ¬ ¬ xk.size = 0 from fun h => h hk0), Bool.false_and]))
        clear hk0
        go_wp2_with fail
        go_ret
        exact ⟨by rw [S.out]; rfl, R.out.2.2⟩
      have e0 := empty_no hk0
      cases xg with
      | false =>
        have S1 : Aside (Ch.stB ⟨xk, xv, false⟩ = true) := by show _ = true; unfold Ch.stB; rw [decide_eq_true hk0]; rfl
        clear hk0
        go_wp2_with fail
        go_loopg [4] k (fun g sj wx => ∃ (j : Nat), j ≤ k ∧ g = k - j ∧ sj = .int .i64 j ∧ ¬ xk ∈ (l.take j).map Ch.k ∧ Below w.heap.size w wx)
        case atStart => exact ⟨0, Nat.zero_le _, rfl, rfl, by simp, R.out.2.2⟩
        case round =>
          obtain ⟨j, hj, hgj, rfl, hnj, hbj⟩ := hrel
          have RJ : Aside (gk = k - j ∧ ¬ xk ∈ (l.take j).map Ch.k ∧ Below w.heap.size w wr) := ⟨hgj, hnj, hbj⟩
          clear hgj hnj hbj p0 p1 p2
          obtain ⟨b2, off2, e2, p0, p1, p2⟩ := (V.out.below RJ.out.2.2).at k hlt
          simp only [Option.some.injEq, Addr.mk.injEq, and_true] at e2
          obtain ⟨rfl, rfl⟩ := e2
          rw [← X.out] at p0
          simp only at p0
          clear p1 p2
          by_cases hjk : j < k
          · obtain ⟨b2, off2, e2, q0, q1, q2⟩ := (V.out.below RJ.out.2.2).at j (by omega)
            simp only [Option.some.injEq, Addr.mk.injEq, and_true] at e2
            obtain ⟨rfl, rfl⟩ := e2
            clear q1 q2
            obtain ⟨yk, hy⟩ : ∃ yk, yk = (l.getD j Ch.z).k := ⟨_, rfl⟩
            rw [← hy] at q0
            have Y : Aside (yk = (l.getD j Ch.z).k) := hy
            clear hy
            have hjk' : (j : Int) < (k : Int) := by omega
            have hjl : (j : Int) < (l.length : Int) := by omega
            by_cases heq : yk = xk
            · have hE : (yk.toList == xk.toList) = true := by rw [same_list, decide_eq_true heq]
              have S : Aside (wrN l = 1) := by
                have hin : xk ∈ (l.take k).map Ch.k := by
                  rw [← heq, Y.out]
                  refine List.mem_map.2 ⟨l.getD j Ch.z, ?_, rfl⟩
                  have : l.getD j Ch.z = (l.take k).getD j Ch.z := by simp [List.getD, List.getElem?_take_of_lt hjk]
                  rw [this]
                  exact getC_mem (by rw [List.length_take]; omega)
                have h2 := not_nodup (ms := (l.drop (k + 1)).map Ch.k) hin
                have h3 : l.map Ch.k = (l.take k).map Ch.k ++ xk :: (l.drop (k + 1)).map Ch.k := by
                  conv => lhs; rw [splitC l k hlt, ← X.out]
                  rw [List.map_append, List.map_cons]
                have h4 : stB l = false := by
                  unfold stB; rw [decide_eq_false (by rw [h3]; exact h2), Bool.false_and, Bool.and_false]
                show _ = 1
                unfold wrN; rw [h4]; rfl
              clear heq
              go_wp2_with fail
              go_quiet (fail)
              go_wp2_with fail
              go_ret
              exact ⟨by rw [S.out]; rfl, RJ.out.2.2.trans ((below_drawn wr _).mono RJ.out.2.2.size)⟩
            · have hE : (yk.toList == xk.toList) = false := by rw [same_list, decide_eq_false heq]
              have NE : Aside (¬ yk = xk) := heq
              clear heq
              go_wp2_with fail
              go_quiet (fail)
              go_wp2_with fail
              go_roundg (k - (j + 1))
              case measure => have := RJ.out.1; omega
              case rel =>
                refine ⟨j + 1, by omega, rfl, by go_num, ?_, RJ.out.2.2.trans ((below_drawn wr _).mono RJ.out.2.2.size)⟩
                rw [take_one l j Ch.z (by omega), List.map_append, List.mem_append]
                rintro (q | q)
                · exact RJ.out.2.1 q
                · simp only [List.map_cons, List.map_nil, List.mem_singleton] at q
                  exact NE.out (by rw [Y.out, q])
          · have NI : Aside (¬ xk ∈ (l.take k).map Ch.k) := by
              have := RJ.out.2.1
              rw [show j = k by omega] at this
              exact this
            have hjk' : ¬ (j : Int) < (k : Int) := by omega
            go_wp2_with fail
            go_roundg (l.length - (k + 1))
            case measure => have := R.out.1; omega
            case rel =>
              refine ⟨k + 1, by omega, rfl, by go_num, ?_, RJ.out.2.2⟩
              rw [take_one l k Ch.z hlt, ← X.out, List.all_append, R.out.2.1.1, List.map_append]
              exact ⟨by simp [S1.out], nodup_snoc R.out.2.1.2 NI.out⟩

      | true =>
        by_cases h1 : xv.size = 0
        · have e1 := empty_yes h1
          have S1 : Aside (Ch.stB ⟨xk, xv, true⟩ = true) := by show _ = true; unfold Ch.stB; rw [decide_eq_true hk0, decide_eq_true (fun _ => h1)]; rfl
          clear hk0 h1
          go_wp2_with fail
          go_loopg [4] k (fun g sj wx => ∃ (j : Nat), j ≤ k ∧ g = k - j ∧ sj = .int .i64 j ∧ ¬ xk ∈ (l.take j).map Ch.k ∧ Below w.heap.size w wx)
          case atStart => exact ⟨0, Nat.zero_le _, rfl, rfl, by simp, R.out.2.2⟩
          case round =>
            obtain ⟨j, hj, hgj, rfl, hnj, hbj⟩ := hrel
            have RJ : Aside (gk = k - j ∧ ¬ xk ∈ (l.take j).map Ch.k ∧ Below w.heap.size w wr) := ⟨hgj, hnj, hbj⟩
            clear hgj hnj hbj p0 p1 p2
            obtain ⟨b2, off2, e2, p0, p1, p2⟩ := (V.out.below RJ.out.2.2).at k hlt
            simp only [Option.some.injEq, Addr.mk.injEq, and_true] at e2
            obtain ⟨rfl, rfl⟩ := e2
            rw [← X.out] at p0
            simp only at p0
            clear p1 p2
            by_cases hjk : j < k
            · obtain ⟨b2, off2, e2, q0, q1, q2⟩ := (V.out.below RJ.out.2.2).at j (by omega)
              simp only [Option.some.injEq, Addr.mk.injEq, and_true] at e2
              obtain ⟨rfl, rfl⟩ := e2
              clear q1 q2
              obtain ⟨yk, hy⟩ : ∃ yk, yk = (l.getD j Ch.z).k := ⟨_, rfl⟩
              rw [← hy] at q0
              have Y : Aside (yk = (l.getD j Ch.z).k) := hy
              clear hy
              have hjk' : (j : Int) < (k : Int) := by omega
              have hjl : (j : Int) < (l.length : Int) := by omega
              by_cases heq : yk = xk
              · have hE : (yk.toList == xk.toList) = true := by rw [same_list, decide_eq_true heq]
                have S : Aside (wrN l = 1) := by
                  have hin : xk ∈ (l.take k).map Ch.k := by
                    rw [← heq, Y.out]
                    refine List.mem_map.2 ⟨l.getD j Ch.z, ?_, rfl⟩
                    have : l.getD j Ch.z = (l.take k).getD j Ch.z := by simp [List.getD, List.getElem?_take_of_lt hjk]
                    rw [this]
                    exact getC_mem (by rw [List.length_take]; omega)
                  have h2 := not_nodup (ms := (l.drop (k + 1)).map Ch.k) hin
                  have h3 : l.map Ch.k = (l.take k).map Ch.k ++ xk :: (l.drop (k + 1)).map Ch.k := by
                    conv => lhs; rw [splitC l k hlt, ← X.out]
                    rw [List.map_append, List.map_cons]
                  have h4 : stB l = false := by
                    unfold stB; rw [decide_eq_false (by rw [h3]; exact h2), Bool.false_and, Bool.and_false]
                  show _ = 1
                  unfold wrN; rw [h4]; rfl
                clear heq
                go_wp2_with fail
                go_quiet (fail)
                go_wp2_with fail
                go_ret
                exact ⟨by rw [S.out]; rfl, RJ.out.2.2.trans ((below_drawn wr _).mono RJ.out.2.2.size)⟩
              · have hE : (yk.toList == xk.toList) = false := by rw [same_list, decide_eq_false heq]
                have NE : Aside (¬ yk = xk) := heq
                clear heq
                go_wp2_with fail
                go_quiet (fail)
                go_wp2_with fail
                go_roundg (k - (j + 1))
                case measure => have := RJ.out.1; omega
                case rel =>
                  refine ⟨j + 1, by omega, rfl, by go_num, ?_, RJ.out.2.2.trans ((below_drawn wr _).mono RJ.out.2.2.size)⟩
                  rw [take_one l j Ch.z (by omega), List.map_append, List.mem_append]
                  rintro (q | q)
                  · exact RJ.out.2.1 q
                  · simp only [List.map_cons, List.map_nil, List.mem_singleton] at q
                    exact NE.out (by rw [Y.out, q])
            · have NI : Aside (¬ xk ∈ (l.take k).map Ch.k) := by
                have := RJ.out.2.1
                rw [show j = k by omega] at this
                exact this
              have hjk' : ¬ (j : Int) < (k : Int) := by omega
              go_wp2_with fail
              go_roundg (l.length - (k + 1))
              case measure => have := R.out.1; omega
              case rel =>
                refine ⟨k + 1, by omega, rfl, by go_num, ?_, RJ.out.2.2⟩
                rw [take_one l k Ch.z hlt, ← X.out, List.all_append, R.out.2.1.1, List.map_append]
                exact ⟨by simp [S1.out], nodup_snoc R.out.2.1.2 NI.out⟩

        · have e1 := empty_no h1
          have S : Aside (wrN l = 1) := wrN_no (all_no hlt (by rw [← X.out]; unfold Ch.stB; rw [decide_eq_false (show ¬ (true = true → xv.size = 0) from fun h => h1 (h rfl)), Bool.and_false]))
          clear hk0 h1
          go_wp2_with fail
          go_ret
          exact ⟨by rw [S.out]; rfl, R.out.2.2⟩
    · have ST : Aside (stB l = true ∧ Below w.heap.size w wr) := by
        have h2 := R.out.2
        rw [List.take_of_length_le (by omega)] at h2
        refine ⟨?_, h2.2⟩
        unfold stB; rw [h2.1.1, decide_eq_true h2.1.2, decide_eq_true HP.out]; rfl
      clear R
      have hlt' : ¬ (k : Int) < (l.length : Int) := by omega
      go_wp2_with fail
      clear hlt' hlt hk
      go_loopg [5] l.length (fun g si wx => ∃ (k : Nat), k ≤ l.length ∧ g = l.length - k ∧ si = .int .i64 k ∧ (l.take k).all Ch.shB = true ∧ Below w.heap.size w wx)
      case atStart => exact ⟨0, Nat.zero_le _, rfl, rfl, rfl, ST.out.2⟩
      case round =>
        obtain ⟨k, hk, hg, rfl, ha, hb⟩ := hrel
        have R : Aside (gk = l.length - k ∧ (l.take k).all Ch.shB = true ∧ Below w.heap.size w wr) := ⟨hg, ha, hb⟩
        clear hg ha hb
        by_cases hlt : k < l.length
        · obtain ⟨b, off, rfl, p0, p1, p2⟩ := (V.out.below R.out.2.2).at k hlt
          obtain ⟨x, hx⟩ : ∃ x, x = l.getD k Ch.z := ⟨_, rfl⟩
          rw [← hx] at p0 p1 p2
          have X : Aside (x = l.getD k Ch.z) := hx
          clear hx
          obtain ⟨xk, xv, xg⟩ := x
          simp only at p0 p1 p2
          have hlt' : (k : Int) < (l.length : Int) := by omega
          have NO : Aside (Ch.shB ⟨xk, xv, xg⟩ = false → wrN l = 23) := fun q => wrN_long ST.out.1 (by
            have : l.all Ch.shB = false := by
              rw [List.all_eq_false]
              exact ⟨_, getC_mem hlt, by rw [← X.out, q]; exact Bool.false_ne_true⟩
            unfold shB; rw [this, Bool.false_and])
          by_cases h1 : xk.size ≤ 120
          · have g1 : ¬ (xk.size : Int) > 120 := by omega
            by_cases h2 : xv.size ≤ 8192
            · have g2 : ¬ (xv.size : Int) > 8192 := by omega
              have S : Aside (Ch.shB ⟨xk, xv, xg⟩ = true) := by show _ = true; unfold Ch.shB; rw [decide_eq_true h1, decide_eq_true h2]; rfl
              clear h1 h2
              go_wp2_with fail
              go_roundg (l.length - (k + 1))
              case measure => have := R.out.1; omega
              case rel => exact ⟨k + 1, by omega, rfl, by go_num, by rw [take_one l k Ch.z hlt, ← X.out, List.all_append, R.out.2.1]; simp [S.out], R.out.2.2⟩
            · have g2 : (xv.size : Int) > 8192 := by omega
              have S : Aside (wrN l = 23) := NO.out (by unfold Ch.shB; rw [decide_eq_false h2, Bool.and_false])
              clear h1 h2
              go_wp2_with fail
              go_ret
              exact ⟨by rw [S.out]; rfl, R.out.2.2⟩
          · have g1 : (xk.size : Int) > 120 := by omega
            have S : Aside (wrN l = 23) := NO.out (by unfold Ch.shB; rw [decide_eq_false h1, Bool.false_and])
            clear h1
            go_wp2_with fail
            go_ret
            exact ⟨by rw [S.out]; rfl, R.out.2.2⟩
        · have hlt' : ¬ (k : Int) < (l.length : Int) := by omega
          have h2 := R.out.2.1
          rw [List.take_of_length_le (by omega)] at h2
          by_cases h5 : l.length ≤ 4096
          · have g5 : ¬ (l.length : Int) > 4096 := by omega
            have S : Aside (wrN l = 0) := wrN_ok ST.out.1 (by unfold shB; rw [h2, decide_eq_true h5]; rfl)
            clear h2 h5
            go_wp2_with fail
            go_ret
            exact ⟨by rw [S.out]; rfl, R.out.2.2⟩
          · have g5 : (l.length : Int) > 4096 := by omega
            have S : Aside (wrN l = 23) := wrN_long ST.out.1 (by unfold shB; rw [decide_eq_false h5, Bool.and_false])
            clear h2 h5
            go_wp2_with fail
            go_ret
            exact ⟨by rw [S.out]; rfl, R.out.2.2⟩
end Go.Proofs.Ytmdjicakjljmlaa
