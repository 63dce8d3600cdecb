/-
  The document's Take, New.
-/
import Derived.Test.YtfdhccanacpanaaRfB
namespace Go.Proofs.Ytfdhccanacpanaa
open Go.RowKit
variable {B : Nat} {w w' : World} {d f : Nat} {vw vn : Value} {l l' : List UInt8}
theorem Ints.drop {w : World} {a : Option Addr} {n cap : Nat} {P Q : List Int} (H : Ints w (.slice a n cap) (P ++ Q)) : Ints w (.slice (Option.map (fun x => x.add P.length) a) Q.length (cap - P.length)) Q := by
  obtain ⟨a', cap', e, h1, h2, h0, hc⟩ := H
  simp only [Value.slice.injEq] at e
  obtain ⟨rfl, rfl, rfl⟩ := e
  rw [List.length_append] at h1 hc
  refine ⟨_, _, rfl, by omega, by omega, fun h => ?_, fun j hj => ?_⟩
  · cases a with
    | none => have := h0 rfl; omega
    | some a => simp at h
  · obtain ⟨b, off, rfl, h⟩ := hc (P.length + j) (by omega)
    refine ⟨b, off + P.length, by simp [add_plain], ?_⟩
    rw [Nat.add_assoc, h, List.getD_eq_getElem?_getD, List.getElem?_append_right (by omega), Nat.add_sub_cancel_left, List.getD_eq_getElem?_getD]
theorem Ints.drop_all {w : World} {a : Option Addr} {n : Nat} {P Q : List Int} (H : Ints w (.slice a n P.length) (P ++ Q)) : Ints w (.slice a Q.length 0) Q ∧ Q = [] := by
  obtain ⟨a', cap', e, h1, h2, h0, hc⟩ := H
  simp only [Value.slice.injEq] at e
  obtain ⟨rfl, rfl, rfl⟩ := e
  rw [List.length_append] at h1
  have eq : Q = [] := List.length_eq_zero_iff.1 (by omega)
  subst eq
  exact ⟨⟨a, 0, rfl, by simp, by decide, fun _ => rfl, fun j hj => by simp at hj⟩, rfl⟩
set_option maxHeartbeats 4000000 in
theorem rtake_any (h : Rs B w d f vw vn l) (hB : B ≤ w.heap.size) :
    Calls Try.prog 28 #[.pointer (some ⟨d, 0, none⟩)] w fun e w' => e = .returned (.tuple #[.int .i64 (takeR f l).1, .int .i64 (takeR f l).2.1]) ∧ (∃ vn', Rs B w' d f vw vn' (takeR f l).2.2) ∧ Kept (fun k => k = d) w w' := by
  have H := Lib.hid h
  obtain ⟨E, hE⟩ : ∃ E, E = f + l.length := ⟨_, rfl⟩
  have p0 : w.cell? ⟨d, 0, none⟩ = some (.int .i64 (E : Int)) := by rw [hE]; exact h.c 0
  have p1 : w.cell? ⟨d, 1, none⟩ = some (.int .i64 f) := h.c 1
  have h1 := h.fst
  have h2 := h.len
  have hE2 : E ≤ 8192 := by omega
  have EE := Lib.hid hE
  clear h hE
  go_enter Try.func28, Try.ntmps28
  go_wp2_with fail
  go_loopg [4] (E - f) (fun g si wr => ∃ (q : Nat), f ≤ q ∧ q ≤ E ∧ g = E - q ∧ si = .int .i64 q ∧ wr = w ∧ ∀ j, j < q - f → ∃ x, l[j]? = some x ∧ x ≠ 0)
  case atStart => exact ⟨f, Nat.le_refl _, by rw [EE.out]; omega, rfl, rfl, rfl, fun j hj => by omega⟩
  case round =>
    obtain ⟨q, hfq, hqE, hg, rfl, hwr, hp⟩ := hrel
    obtain rfl := hwr.symm
    have P := Lib.hid hp
    have G := Lib.hid hg
    clear hp hg
    by_cases hlt : q < E
    · have hlt' : (q : Int) < (E : Int) := by omega
      have hi : q - f < l.length := by have := EE.out; omega
      have FR := Lib.hid (rfree_any H.out (q - f) hi)
      rw [show ((f + (q - f) : Nat) : Int) = (q : Int) by omega] at FR
      obtain ⟨x, hx⟩ : ∃ x, l[q - f]? = some x := ⟨_, List.getElem?_eq_getElem hi⟩
      rw [show l.getD (q - f) 0 = x by rw [List.getD_eq_getElem?_getD, hx]; rfl] at FR
      have X := Lib.hid hx
      clear hx
      by_cases hz : x = 0
      · rw [decide_eq_true hz] at FR
        subst hz
        obtain ⟨Pr, Qr, e1, e2, e3, e4⟩ := now_take f l (q - f) X.out
        rw [show f + (q - f) = q by omega] at e2 e3 e4
        have TR : Hid (takeR f l = ((q : Int), 0, l.set (q - f) 1)) := Lib.hid (by
          have LW : lowF l = q - f := lowF_eq l (q - f) X.out P.out
          unfold takeR
          rw [LW, if_pos hi]
          congr 1
          omega)
        have WS := Lib.hid (was_set f l (q - f) 1 hi (by rw [List.getD_eq_getElem?_getD, X.out]; rfl))
        have ON : Hid (OwnI B w vn (Pr ++ Qr)) := Lib.hid (by rw [← e1]; exact H.out.on)
        have LN : (Pr ++ Qr).length ≤ 4096 := by rw [← e1]; exact nowL _ _ _ h2
        obtain ⟨an, cn, en, hcn, hmn⟩ := ON.out.len
        obtain ⟨Ln, hLn⟩ : ∃ Ln, Ln = (Pr ++ Qr).length := ⟨_, rfl⟩
        rw [← hLn] at en hcn LN
        subst en
        have p3 : w.cell? ⟨d, 3, none⟩ = some (.slice an Ln cn) := H.out.c 3
        obtain ⟨Kp, hKp⟩ : ∃ Kp, Kp = Pr.length := ⟨_, rfl⟩
        have hKL : Kp ≤ Ln := by rw [hKp, hLn, List.length_append]; omega
        have E2 := Lib.hid e2
        have E3 := Lib.hid e3
        have E4 := Lib.hid e4
        have NL := Lib.hid hLn
        have KP := Lib.hid hKp
        clear e1 e2 e3 e4 hLn hKp hi
        go_wp2_with fail
        refine FR.out.mono ?_
        rintro _ w9 ⟨rfl, h9⟩
        obtain rfl := h9.symm
        clear FR
        go_wp2_with fail
        go_loopg [6, 7] Kp (fun g sv si wr => ∃ (k : Nat), k ≤ Kp ∧ g = Kp - k ∧ si = .int .i64 k ∧ OwnI w.heap.size wr sv (Pr.take k) ∧ Below w.heap.size w wr)
        case atStart => exact ⟨0, Nat.zero_le _, rfl, rfl, OwnI.nil _ _, Below.refl _ _⟩
        case round =>
          obtain ⟨k, hk, hg2, rfl, ho, hbl⟩ := hrel
          have O := Lib.hid ho
          have Bl := Lib.hid hbl
          have G2 := Lib.hid hg2
          have r3 : wr.cell? ⟨d, 3, none⟩ = some (.slice an Ln cn) := (H.out.below hbl).c 3
          obtain ⟨a5, n5, c5, e5⟩ := slice_of ho
          subst e5
          clear ho hg2 hbl p0 p1 p3
          have OL : Hid ((Pr.take k).length = k) := Lib.hid (by rw [List.length_take, ← KP.out]; omega)
          by_cases hlk : k < Kp
          · have f1 : decide ((k : Int) < (Ln : Int)) = true := decide_eq_true (by omega)
            have f1' : (k : Int) < (Ln : Int) := by omega
            obtain ⟨y, hy⟩ : ∃ y, Pr[k]? = some y := ⟨_, List.getElem?_eq_getElem (by rw [← KP.out]; exact hlk)⟩
            have hy2 : (Pr ++ Qr)[k]? = some y := by rw [List.getElem?_append_left (by rw [← KP.out]; exact hlk)]; exact hy
            obtain ⟨b', off, rfl, c0⟩ := (ON.out.below Bl.out).ints.at0 k y hy2
            have f2 : decide (y < (q : Int)) = true := decide_eq_true (E3.out y (List.mem_of_getElem? hy))
            have T : Hid (Pr.take (k + 1) = Pr.take k ++ [y]) := Lib.hid (by rw [List.take_add_one, hy, Option.toList_some])
            clear hy hy2
            go_wp2_with (refine app_new rfl (.tmp 46) (.tmp 54) rfl (m := [y]) rfl rfl O.out Bl.out.size rfl rfl (by have := OL.out; simp; omega) ?_)
            intro v' W' o1 o2 o3
            have A : Hid (OwnI w.heap.size W' v' (Pr.take (k + 1)) ∧ Below w.heap.size w W') := Lib.hid ⟨by rw [T.out]; exact o1, Bl.out.trans ((Below.refl _ _).grown o2 Bl.out.size fun k hk => (O.out.lt k hk).1)⟩
            clear o1 o2 o3
            go_wp2_with fail
            go_roundg (Kp - (k + 1))
            case measure => have := G2.out; omega
            case rel => exact ⟨k + 1, by omega, rfl, by go_num, A.out⟩
          · have ek : k = Kp := by omega
            have o9 := O.out
            rw [show Pr.take k = Pr from List.take_of_length_le (by rw [← KP.out]; omega)] at o9
            have O9 := Lib.hid o9
            obtain ⟨e8, _⟩ : n5 = Kp ∧ True := by
              obtain ⟨a, c, e, _⟩ := o9.len
              simp only [Value.slice.injEq] at e
              exact ⟨by rw [e.2.1, KP.out], trivial⟩
            subst e8 ek
            clear o9 O OL hlk
            have LQ : Hid (Qr.length = Ln - k) := Lib.hid (by have := NL.out; rw [List.length_append, ← KP.out] at this; omega)
            by_cases hlL : k < Ln
            · obtain ⟨y, hy⟩ : ∃ y, Qr[0]? = some y := ⟨_, List.getElem?_eq_getElem (by rw [LQ.out]; omega)⟩
              have hy2 : (Pr ++ Qr)[k]? = some y := by rw [List.getElem?_append_right (by rw [← KP.out]; exact Nat.le_refl _), ← KP.out, Nat.sub_self]; exact hy
              obtain ⟨b', off, rfl, c0⟩ := (ON.out.below Bl.out).ints.at0 k y hy2
              have f1 : decide ((k : Int) < (Ln : Int)) = true := decide_eq_true (by omega)
              have f1' : (k : Int) < (Ln : Int) := by omega
              have f2 : decide (y < (q : Int)) = false := decide_eq_false (by have := E4.out y (List.mem_of_getElem? hy); omega)
              have f3 : (k : Int) < (cn : Int) := by omega
              have f4 : k < cn := by omega
              clear hy hy2
              go_wp2_with (refine app_new rfl (.tmp 58) (.tmp 60) rfl (m := [(q : Int)]) rfl rfl O9.out Bl.out.size rfl rfl (by have h9 := KP.out; rw [List.length_singleton, ← h9]; omega) ?_)
              intro v' W' o1 o2 o3
              obtain ⟨a7, n7, c7, e7⟩ := slice_of o1
              subst e7
              have bW : Below w.heap.size w W' := Bl.out.trans ((Below.refl _ _).grown o2 Bl.out.size fun k hk => (O9.out.lt k hk).1)
              have O10 := Lib.hid o1
              have BW := Lib.hid bW
              have s3 : W'.cell? ⟨d, 3, none⟩ = some (.slice (some ⟨b', off, none⟩) Ln cn) := (H.out.below bW).c 3
              have IQ : Hid (Ints W' (.slice (some ⟨b', off + k, none⟩) (Ln - k) (cn - k)) Qr) := Lib.hid (by
                have := Ints.drop (P := Pr) (Q := Qr) (ON.out.below bW).ints
                rw [← KP.out, LQ.out] at this
                simpa [add_plain] using this)
              clear o1 o2 o3 bW r3
              go_wp2_with (refine app_ints rfl (.tmp 63) (.tmp 69) rfl (m := Qr) rfl O10.out BW.out.size rfl IQ.out (by have := NL.out; rw [List.length_append, ← KP.out] at this; simp [← KP.out]; omega) ?_)
              intro v8 W8 o1 o2 o3
              obtain ⟨a8, n8, c8', e8'⟩ := slice_of o1
              subst e8'
              have bW8 : Below w.heap.size w W8 := BW.out.trans ((Below.refl _ _).grown o2 BW.out.size fun k hk => (O10.out.lt k hk).1)
              have R := Lib.hid (H.out.set3 (l' := l.set (q - f) 1) bW8 (by rw [E2.out]; exact (by simpa using o1 : OwnI w.heap.size W8 (.slice a8 n8 c8') (Pr ++ ([(q : Int)] ++ Qr))).mono hB) (by simp) (sts_set H.out.ok _ _ (by simp)) WS.out)
              have t3 : W8.cell? ⟨d, 3, none⟩ = some (.slice (some ⟨b', off, none⟩) Ln cn) := (H.out.below bW8).c 3
              have t4 := (H.out.below bW8).free 3
              clear o1 o2 o3 bW8 s3
              go_wp2_with fail
              go_ret2
              rw [TR.out]
              exact ⟨rfl, ⟨_, R.out.1⟩, R.out.2⟩
            · have ekL : Ln = k := by omega
              have Q0 : Hid (Qr = []) := Lib.hid (List.length_eq_zero_iff.1 (by rw [LQ.out]; omega))
              have f1 : decide ((k : Int) < (Ln : Int)) = false := decide_eq_false (by omega)
              have f1' : decide (k < Ln) = false := decide_eq_false (by omega)
              by_cases hkc : k < cn
              · have f3 : (k : Int) < (cn : Int) := by omega
                obtain ⟨b', off, e⟩ : ∃ b' off, an = some ⟨b', off, none⟩ := by
                  obtain ⟨_, ⟨hv, _⟩ | ⟨g3, c3, _, hv, _⟩⟩ := ON.out
                  · simp only [Value.slice.injEq] at hv; omega
                  · simp only [Value.slice.injEq] at hv; exact ⟨_, _, hv.1⟩
                subst e
                clear ekL hlL
                go_wp2_with (refine app_new rfl (.tmp 58) (.tmp 60) rfl (m := [(q : Int)]) rfl rfl O9.out Bl.out.size rfl rfl (by have h9 := KP.out; rw [List.length_singleton, ← h9]; omega) ?_)
                intro v' W' o1 o2 o3
                obtain ⟨a7, n7, c7, e7⟩ := slice_of o1
                subst e7
                have bW : Below w.heap.size w W' := Bl.out.trans ((Below.refl _ _).grown o2 Bl.out.size fun k hk => (O9.out.lt k hk).1)
                have O10 := Lib.hid o1
                have BW := Lib.hid bW
                have s3 : W'.cell? ⟨d, 3, none⟩ = some (.slice (some ⟨b', off, none⟩) Ln cn) := (H.out.below bW).c 3
                have IQ : Hid (Ints W' (.slice (some ⟨b', off + k, none⟩) (Ln - k) (cn - k)) Qr) := Lib.hid (by
                  have := Ints.drop (P := Pr) (Q := Qr) (ON.out.below bW).ints
                  rw [← KP.out, LQ.out] at this
                  simpa [add_plain] using this)
                clear o1 o2 o3 bW r3
                go_wp2_with (refine app_ints rfl (.tmp 63) (.tmp 69) rfl (m := Qr) rfl O10.out BW.out.size rfl IQ.out (by have := NL.out; rw [List.length_append, ← KP.out] at this; simp [← KP.out]; omega) ?_)
                intro v8 W8 o1 o2 o3
                obtain ⟨a8, n8, c8', e8'⟩ := slice_of o1
                subst e8'
                have bW8 : Below w.heap.size w W8 := BW.out.trans ((Below.refl _ _).grown o2 BW.out.size fun k hk => (O10.out.lt k hk).1)
                have R := Lib.hid (H.out.set3 (l' := l.set (q - f) 1) bW8 (by rw [E2.out]; exact (by simpa using o1 : OwnI w.heap.size W8 (.slice a8 n8 c8') (Pr ++ ([(q : Int)] ++ Qr))).mono hB) (by simp) (sts_set H.out.ok _ _ (by simp)) WS.out)
                have t3 : W8.cell? ⟨d, 3, none⟩ = some (.slice (some ⟨b', off, none⟩) Ln cn) := (H.out.below bW8).c 3
                have t4 := (H.out.below bW8).free 3
                clear o1 o2 o3 bW8 s3
                go_wp2_with fail
                go_ret2
                rw [TR.out]
                exact ⟨rfl, ⟨_, R.out.1⟩, R.out.2⟩
              · have ekc : cn = k := by omega
                cases an with
                | none =>
                  have c0 : cn = 0 := by
                    obtain ⟨_, ⟨hv, _⟩ | ⟨g3, c3, _, hv, _⟩⟩ := ON.out
                    · simp only [Value.slice.injEq] at hv; exact hv.2.2
                    · simp at hv
                  obtain rfl : k = 0 := by omega
                  subst ekc ekL
                  clear hlL hkc c0
                  go_wp2_with (refine app_new rfl (.tmp 58) (.tmp 60) rfl (m := [(q : Int)]) rfl rfl O9.out Bl.out.size rfl rfl (by have h9 := KP.out; rw [List.length_singleton, ← h9]; omega) ?_)
                  intro v' W' o1 o2 o3
                  obtain ⟨a7, n7, c7, e7⟩ := slice_of o1
                  subst e7
                  have bW : Below w.heap.size w W' := Bl.out.trans ((Below.refl _ _).grown o2 Bl.out.size fun k hk => (O9.out.lt k hk).1)
                  have O10 := Lib.hid o1
                  have BW := Lib.hid bW
                  have s3 : W'.cell? ⟨d, 3, none⟩ = some (.slice none 0 0) := (H.out.below bW).c 3
                  have IQ : Hid (Ints W' (.slice none 0 0) Qr) := Lib.hid (by rw [Q0.out]; exact ⟨none, 0, rfl, by simp, by decide, fun _ => rfl, fun j hj => by simp at hj⟩)
                  clear o1 o2 o3 bW r3
                  go_wp2_with (refine app_ints rfl (.tmp 63) (.tmp 69) rfl (m := Qr) rfl O10.out BW.out.size rfl IQ.out (by have := NL.out; rw [List.length_append, ← KP.out] at this; simp [← KP.out]; omega) ?_)
                  intro v8 W8 o1 o2 o3
                  obtain ⟨a8, n8, c8', e8'⟩ := slice_of o1
                  subst e8'
                  have bW8 : Below w.heap.size w W8 := BW.out.trans ((Below.refl _ _).grown o2 BW.out.size fun k hk => (O10.out.lt k hk).1)
                  have R := Lib.hid (H.out.set3 (l' := l.set (q - f) 1) bW8 (by rw [E2.out]; exact (by simpa using o1 : OwnI w.heap.size W8 (.slice a8 n8 c8') (Pr ++ ([(q : Int)] ++ Qr))).mono hB) (by simp) (sts_set H.out.ok _ _ (by simp)) WS.out)
                  have t3 : W8.cell? ⟨d, 3, none⟩ = some (.slice none 0 0) := (H.out.below bW8).c 3
                  have t4 := (H.out.below bW8).free 3
                  clear o1 o2 o3 bW8 s3
                  go_wp2_with fail
                  go_ret2
                  rw [TR.out]
                  exact ⟨rfl, ⟨_, R.out.1⟩, R.out.2⟩
                | some ad =>
                  obtain ⟨b', e⟩ : ∃ b', ad = ⟨b', 0, none⟩ := by
                    obtain ⟨_, ⟨hv, _⟩ | ⟨g3, c3, _, hv, _⟩⟩ := ON.out
                    · simp at hv
                    · simp only [Value.slice.injEq, Option.some.injEq] at hv; exact ⟨_, hv.1⟩
                  subst e
                  obtain ⟨K9, hK9⟩ : ∃ K9, K9 = k := ⟨_, rfl⟩
                  obtain rfl : Ln = K9 := by omega
                  obtain rfl : cn = Ln := by omega
                  obtain rfl := hK9.symm
                  clear hlL hkc ekc ekL hK9
                  go_wp2_with (refine app_new rfl (.tmp 58) (.tmp 60) rfl (m := [(q : Int)]) rfl rfl O9.out Bl.out.size rfl rfl (by have h9 := KP.out; rw [List.length_singleton, ← h9]; omega) ?_)
                  intro v' W' o1 o2 o3
                  obtain ⟨a7, n7, c7, e7⟩ := slice_of o1
                  subst e7
                  have bW : Below w.heap.size w W' := Bl.out.trans ((Below.refl _ _).grown o2 Bl.out.size fun k hk => (O9.out.lt k hk).1)
                  have O10 := Lib.hid o1
                  have BW := Lib.hid bW
                  have s3 : W'.cell? ⟨d, 3, none⟩ = some (.slice (some ⟨b', 0, none⟩) k k) := (H.out.below bW).c 3
                  have IQ : Hid (Ints W' (.slice (some ⟨b', 0, none⟩) 0 0) Qr) := Lib.hid (by rw [Q0.out]; exact ⟨(some ⟨b', 0, none⟩), 0, rfl, by simp, by decide, fun _ => rfl, fun j hj => by simp at hj⟩)
                  clear o1 o2 o3 bW r3
                  go_wp2_with (refine app_ints rfl (.tmp 63) (.tmp 69) rfl (m := Qr) rfl O10.out BW.out.size rfl IQ.out (by have := NL.out; rw [List.length_append, ← KP.out] at this; simp [← KP.out]; omega) ?_)
                  intro v8 W8 o1 o2 o3
                  obtain ⟨a8, n8, c8', e8'⟩ := slice_of o1
                  subst e8'
                  have bW8 : Below w.heap.size w W8 := BW.out.trans ((Below.refl _ _).grown o2 BW.out.size fun k hk => (O10.out.lt k hk).1)
                  have R := Lib.hid (H.out.set3 (l' := l.set (q - f) 1) bW8 (by rw [E2.out]; exact (by simpa using o1 : OwnI w.heap.size W8 (.slice a8 n8 c8') (Pr ++ ([(q : Int)] ++ Qr))).mono hB) (by simp) (sts_set H.out.ok _ _ (by simp)) WS.out)
                  have t3 : W8.cell? ⟨d, 3, none⟩ = some (.slice (some ⟨b', 0, none⟩) k k) := (H.out.below bW8).c 3
                  have t4 := (H.out.below bW8).free 3
                  clear o1 o2 o3 bW8 s3
                  go_wp2_with fail
                  go_ret2
                  rw [TR.out]
                  exact ⟨rfl, ⟨_, R.out.1⟩, R.out.2⟩
      · rw [decide_eq_false hz] at FR
        clear hi
        go_wp2_with fail
        refine FR.out.mono ?_
        rintro _ _ ⟨rfl, rfl⟩
        go_wp2_with fail
        go_roundg (E - (q + 1))
        case measure => have := G.out; omega
        case rel =>
          refine ⟨q + 1, by omega, by omega, rfl, by go_num, rfl, fun j hj => ?_⟩
          rcases Nat.lt_or_ge j (q - f) with r | r
          · exact P.out j r
          · obtain rfl : j = q - f := by omega
            exact ⟨x, X.out, hz⟩
    · have hge : ¬ (q : Int) < (E : Int) := by omega
      have TR : Hid (takeR f l = (-1, 3, l)) := Lib.hid (by
        unfold takeR
        rw [if_neg]
        rw [lowF_all l (fun j hj => P.out j (by have := EE.out; omega))]
        omega)
      go_wp2_with fail
      go_ret2
      rw [TR.out]
      exact ⟨rfl, ⟨_, H.out⟩, Kept.refl _ _⟩
end Go.Proofs.Ytfdhccanacpanaa
