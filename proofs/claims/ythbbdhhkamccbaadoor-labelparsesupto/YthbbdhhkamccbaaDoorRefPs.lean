/-
  The document's Parse, over its read.
-/
import Derived.Test.YthbbdhhkamccbaaDoorRdM
import Derived.Test.YthbbdhhkamccbaaDoorRefPc
import Derived.Test.YthbbdhhkamccbaaDoorRR
import Derived.Test.YthbbdhhkamccbaaDoorRefT4
import Derived.Test.YthbbdhhkamccbaaDoorLawReadsBack
namespace Go.Proofs.YthbbdhhkamccbaaDoor
open Go.RowKit Go.Sort
/-- The document's terms of a text. -/
def rps (s : List UInt8) : List T3 := (pieces 44 s).map rr
theorem rps_ok {s : List UInt8} (h0 : s ≠ []) : ps3 s = if ok3 (rps s) = true ∧ pr3 (rps s) = s then some (rps s) else none := by
  cases h : ps3 s with
  | some xs =>
    obtain ⟨hok, hpr⟩ := ps3_pr h
    obtain ⟨_, hall⟩ := ok3_all hok
    have hx : xs ≠ [] := by
      intro e
      subst e
      exact h0 hpr.symm
    have e : rps s = xs := by
      unfold rps
      rw [← hpr]
      unfold pr3
      rw [pieces_jn 44 _ (by simpa using hx) (by
        intro u hu
        obtain ⟨x, hx, rfl⟩ := List.mem_map.1 hu
        exact wr3_comma (hall x hx)), List.map_map]
      have : ∀ x ∈ xs, (rr ∘ wr3) x = x := fun x hx => rr_wr3 (hall x hx)
      rw [List.map_congr_left this]
      simp
    rw [e, if_pos ⟨hok, hpr⟩]
  | none =>
    rw [if_neg]
    rintro ⟨h1, h2⟩
    have h3 := pr_ps3 h1
    rw [h2, h] at h3
    cases h3
theorem pc_mem (c : UInt8) (l : List UInt8) (u : List UInt8) (h : u ∈ pieces c l) : u.length ≤ l.length := by
  induction l generalizing u with
  | nil => simp [pieces] at h; subst h; simp
  | cons b l ih =>
    unfold pieces at h
    split at h
    · rw [List.mem_cons] at h
      rcases h with rfl | h
      · simp
      · have := ih u h; rw [List.length_cons]; omega
    · rw [List.mem_cons] at h
      rcases h with rfl | h
      · have hne := pieces_ne c l
        cases hp : pieces c l with
        | nil => exact absurd hp hne
        | cons x r =>
          have := ih x (by rw [hp]; simp)
          simp only [List.headD_cons, List.length_cons]
          omega
      · have := ih u (List.mem_of_mem_tail h); rw [List.length_cons]; omega
theorem pc_len (c : UInt8) (l : List UInt8) : (pieces c l).length ≤ l.length + 1 := by
  induction l with
  | nil => simp [pieces]
  | cons b l ih =>
    have hne := pieces_ne c l
    unfold pieces
    split
    · rw [List.length_cons, List.length_cons]; omega
    · have : 0 < (pieces c l).length := List.length_pos_iff.2 hne
      rw [List.length_cons, List.length_tail, List.length_cons]; omega
def PsR (w' : World) (r : Option (List T3)) (e : Ending) : Prop :=
  match r with
  | none => e = .returned (.tuple #[.slice none 0 0, .int .i64 43])
  | some xs => ∃ v ys, e = .returned (.tuple #[v, .int .i64 0]) ∧ ys.map t3 = xs ∧ Trms w' v ys
set_option maxHeartbeats 8000000 in
set_option maxRecDepth 100000 in
theorem refParse_of (RE0 : ∀ (t : ByteArray) (W : World), t.size ≤ 1048576 → Calls Tryd.prog 41 #[.string t] W fun e w' => RdR W.heap.size w' (rr t.data.toList) e ∧ Below W.heap.size W w')
    (s : ByteArray) (w : World) (hs : s.size ≤ 1048576) :
    Calls Tryd.prog 22 #[.string s] w fun e w' => PsR w' (ps3 s.data.toList) e ∧ Below w.heap.size w w' := by
  have sl : s.data.toList.length = s.size := by simp
  by_cases h0 : s.data.toList = []
  · have e0 : s.toList.isEmpty = true := by rw [list_of_bytes, h0]; rfl
    have hr : Hid (ps3 s.data.toList = some []) := Lib.hid (by unfold ps3; rw [if_pos h0])
    clear h0
    go_enter Tryd.func22, Tryd.ntmps22
    go_wp2_with fail
    go_ret2
    rw [hr.out]
    exact ⟨⟨.slice none 0 0, [], rfl, rfl, trms_nil _⟩, Below.refl _ _⟩
  · have e0 : s.toList.isEmpty = false := by
      rw [list_of_bytes]
      cases h : s.data.toList with
      | nil => exact absurd h h0
      | cons x r => rfl
    have PD := Lib.hid (rps_ok h0)
    obtain ⟨ps, hps⟩ : ∃ ps, ps = (pieces 44 s.data.toList).map bytesOf := ⟨_, rfl⟩
    have PC : Hid (∀ W, Calls Tryd.prog 40 #[.string s, .int .u8 44] W fun e w' => ∃ v, e = .returned v ∧ OwnS W.heap.size w' v ps ∧ Below W.heap.size W w') := Lib.hid fun W => by rw [hps]; exact pcs_any 44 44 rfl s W hs
    have PR : Hid (rps s.data.toList = ps.map fun t => rr t.data.toList) := Lib.hid (by
      rw [hps]
      unfold rps
      rw [List.map_map]
      refine List.map_congr_left fun u _ => ?_
      show rr u = rr (bytesOf u).data.toList
      rw [show (bytesOf u).data.toList = u from data_bys u])
    have RE : Hid (∀ t ∈ ps, ∀ W : World, Calls Tryd.prog 41 #[.string t] W fun e w' => RdR W.heap.size w' (rr t.data.toList) e ∧ Below W.heap.size W w') := Lib.hid fun t ht W => RE0 t W (by
      rw [hps] at ht
      obtain ⟨u, hu, rfl⟩ := List.mem_map.1 ht
      have h1 := pc_mem 44 _ u hu
      have h2 : (bytesOf u).size = u.length := by simp [bytesOf, ByteArray.size]
      omega)
    have LP : Hid (ps.length ≤ 1048577) := Lib.hid (by
      rw [hps, List.length_map]
      have := pc_len 44 s.data.toList
      omega)
    obtain ⟨n, hn⟩ : ∃ n, n = ps.length := ⟨_, rfl⟩
    have HN := Lib.hid hn
    clear hps hn h0 RE0 hs
    go_enter Tryd.func22, Tryd.ntmps22
    go_wp2_with fail
    refine (PC.out w).mono ?_
    rintro e w2 ⟨vp, rfl, own, hb⟩
    have O2 := Lib.hid own
    have B2 := Lib.hid hb
    obtain ⟨ap, cp, ep, hcp1, hcp2⟩ := own.shape
    rw [← HN.out] at ep hcp1
    subst ep
    unfold maxLen at hcp2
    clear own hb PC
    go_wp2_with fail
    go_loopg [4, 6] n (fun g sv si wr => ∃ (k : Nat) (ys : List Trm), k ≤ n ∧ g = n - k ∧ si = .int .i64 k ∧ ys.length = k ∧ ys.map t3 = (ps.take k).map (fun t => rr t.data.toList) ∧ Copied w2.heap.size wr sv ys ∧ Below w2.heap.size w2 wr)
    case atStart => exact ⟨0, [], Nat.zero_le _, rfl, rfl, rfl, rfl, ⟨World.ownsRow_nil _ _ _ _, by simp⟩, Below.refl _ _⟩
    case round =>
      obtain ⟨k, ys, hk, hg, rfl, hyl, hm3, hcp, hbb⟩ := hrel
      have R : Aside (gk = n - k ∧ ys.length = k ∧ ys.map t3 = (ps.take k).map (fun t => rr t.data.toList) ∧ Below w2.heap.size w2 wr) := ⟨hg, hyl, hm3, hbb⟩
      have C := Lib.hid hcp
      clear hg hyl hm3 hcp hbb
      by_cases hlt : k < n
      · have hlt' : (k : Int) < (n : Int) := by omega
        obtain ⟨bp, op, rfl, pj⟩ := (O2.out.below R.out.2.2.2).strs.at k (by rw [← HN.out]; exact hlt)
        obtain ⟨t, ht⟩ : ∃ t, t = ps.getD k ⟨#[]⟩ := ⟨_, rfl⟩
        rw [← ht] at pj
        have HT := Lib.hid ht
        have REt := Lib.hid (RE.out t (by
          rw [ht, List.getD_eq_getElem?_getD, List.getElem?_eq_getElem (by rw [← HN.out]; exact hlt)]
          exact List.getElem_mem _) wr)
        clear ht
        go_wp2_with fail
        refine REt.out.mono ?_
        rintro e w4 ⟨⟨⟨key, how, vals, ts⟩, he, hy3, hyo, hys⟩, hb4⟩
        have he' : e = .returned (.agg #[.string key, .int .i64 how, vals]) := he
        subst he'
        simp only at hyo hys
        obtain ⟨av, cv, ev, _, _⟩ := hyo.shape
        obtain ⟨m, hm⟩ : ∃ m, m = ts.length := ⟨_, rfl⟩
        rw [← hm] at ev
        subst ev
        have Y3 := Lib.hid hy3
        have YO := Lib.hid hyo
        have YS := Lib.hid hys
        have B4 := Lib.hid hb4
        have BX := Lib.hid (R.out.2.2.2.trans (hb4.mono R.out.2.2.2.size))
        have O4 := Lib.hid (C.out.1.below hb4)
        have LL : Hid ((ys.length + 1) * 48 ≤ 140737488355328) := Lib.hid (by have := LP.out; have := HN.out; have := R.out.2.1; omega)
        clear he hy3 hyo hys hb4 hm REt pj
        go_wp2_with (at_builtin; refine app_trm rfl _ _ rfl rfl O4.out BX.out.size key how (.slice av m cv) ts rfl rfl LL.out ?_)
        intro v6 w6 o6 hg6
        have G6 := Lib.hid hg6
        have O6 := Lib.hid o6
        clear hg6 o6
        go_wp2_with fail
        go_roundg (n - (k + 1))
        case measure => have := R.out.1; omega
        case rel =>
          refine ⟨k + 1, ys ++ [⟨key, how, .slice av m cv, ts⟩], by omega, rfl, by go_num, by rw [List.length_append, R.out.2.1]; rfl, ?_, ⟨O6.out, ?_⟩, ?_⟩
          · rw [take_one ps k ⟨#[]⟩ (by rw [← HN.out]; exact hlt), List.map_append, List.map_append, R.out.2.2.1, ← HT.out]
            simp only [List.map_cons, List.map_nil]
            rw [Y3.out]
          · intro y hy
            rw [List.mem_append, List.mem_singleton] at hy
            rcases hy with hy | rfl
            · have E4 := (C.out.2 y hy).1.below B4.out
              exact ⟨E4.grown G6.out (ownTS_ne O4.out E4), (C.out.2 y hy).2⟩
            · refine ⟨(YO.out.grown G6.out (ownTS_ne O4.out YO.out)).mono R.out.2.2.2.size, fun u hu => ?_⟩
              have := YS.out u hu
              unfold maxLen
              omega
          · exact BX.out.grown G6.out BX.out.size (fun j hj => (O4.out.lt j hj).1)
      · have ek : k = n := by omega
        have hm3 : ys.map t3 = rps s.data.toList := by
          have h := R.out.2.2.1
          rw [List.take_of_length_le (by rw [← HN.out]; omega), ← PR.out] at h
          exact h
        have M3 := Lib.hid hm3
        have TR := Lib.hid C.out.trms
        have BW := Lib.hid (B2.out.trans (R.out.2.2.2.mono B2.out.size))
        have PN0 := refPrint_any _ ys wr C.out.trms
        unfold printR at PN0
        rw [← terms_t3, hm3] at PN0
        clear hm3 ek
        have hge : decide ((k : Int) < (n : Int)) = false := decide_eq_false (by omega)
        by_cases hok : ok3 (rps s.data.toList) = true
        · rw [if_pos hok] at PN0
          obtain ⟨q, hq⟩ : ∃ q, q = bys (pr3 (rps s.data.toList)) := ⟨_, rfl⟩
          rw [← hq] at PN0
          have PN := Lib.hid PN0
          by_cases hqs : q = s
          · have PP : Hid (ps3 s.data.toList = some (rps s.data.toList)) := Lib.hid (by
              rw [PD.out, if_pos ⟨hok, by rw [← data_bys (pr3 (rps s.data.toList)), ← hq, hqs]⟩])
            clear hok hq PN0
            subst hqs
            go_wp2_with fail
            refine PN.out.mono ?_
            rintro e w5 ⟨rfl, hb5⟩
            have B5 := Lib.hid hb5
            clear hb5 PN
            go_wp2_with fail
            go_ret2
            rw [PP.out]
            exact ⟨⟨_, ys, rfl, M3.out, TR.out.below B5.out⟩, BW.out.trans (B5.out.mono BW.out.size)⟩
          · have PP : Hid (ps3 s.data.toList = none) := Lib.hid (by
              rw [PD.out, if_neg]
              rintro ⟨_, h⟩
              exact hqs (by rw [hq, h, bys_data]))
            have ne1 : (q.toList == s.toList) = false := by
              rw [beq_eq_false_iff_ne, list_of_bytes, list_of_bytes]
              intro h
              exact hqs (by rw [← bys_data q, h, bys_data])
            clear hok hq PN0
            go_wp2_with fail
            refine PN.out.mono ?_
            rintro e w5 ⟨rfl, hb5⟩
            have B5 := Lib.hid hb5
            clear hb5 PN
            go_wp2_with fail
            go_ret2
            rw [PP.out]
            exact ⟨rfl, BW.out.trans (B5.out.mono BW.out.size)⟩
        · rw [if_neg hok] at PN0
          have PN := Lib.hid PN0
          have PP : Hid (ps3 s.data.toList = none) := Lib.hid (by
            rw [PD.out, if_neg]
            rintro ⟨h, _⟩
            exact hok h)
          clear hok PN0
          go_wp2_with fail
          refine PN.out.mono ?_
          rintro e w5 ⟨rfl, hb5⟩
          have B5 := Lib.hid hb5
          clear hb5 PN
          go_wp2_with fail
          go_ret2
          rw [PP.out]
          exact ⟨rfl, BW.out.trans (B5.out.mono BW.out.size)⟩
end Go.Proofs.YthbbdhhkamccbaaDoor
