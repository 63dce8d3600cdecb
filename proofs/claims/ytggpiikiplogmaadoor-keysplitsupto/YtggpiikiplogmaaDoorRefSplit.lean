/-
  The document's Split.
-/
import Derived.Test.YtggpiikiplogmaaDoorRefMake
import Derived.Test.YtggpiikiplogmaaDoorSplA
namespace Go.Proofs.YtggpiikiplogmaaDoor
open Go.RowKit
def refGo : List UInt8 → List UInt8 → List ByteArray → List ByteArray
  | [], _, ps => ps
  | [_], _, ps => ps
  | b :: c :: l, p, ps => if b = 0 then (if c = 1 then refGo l [] (ps ++ [txt p]) else refGo l (p ++ [0]) ps) else refGo (c :: l) (p ++ [b]) ps
theorem refGo_ne (b : UInt8) (l p : List UInt8) (ps : List ByteArray) (h : b ≠ 0) : refGo (b :: l) p ps = refGo l (p ++ [b]) ps := by
  cases l with
  | nil => rfl
  | cons c l => rw [refGo, if_neg h]
theorem refGo_one (l p : List UInt8) (ps : List ByteArray) : refGo (0 :: 1 :: l) p ps = refGo l [] (ps ++ [txt p]) := by
  rw [refGo, if_pos rfl, if_pos rfl]
theorem refGo_zero (c : UInt8) (l p : List UInt8) (ps : List ByteArray) (h : c ≠ 1) : refGo (0 :: c :: l) p ps = refGo l (p ++ [0]) ps := by
  rw [refGo, if_pos rfl, if_neg h]
theorem refGo_enc (t r p : List UInt8) (ps : List ByteArray) : refGo (enc t ++ 0 :: 1 :: r) p ps = refGo r [] (ps ++ [txt (p ++ t)]) := by
  induction t generalizing p with
  | nil =>
    show refGo (0 :: 1 :: r) p ps = _
    rw [refGo_one, List.append_nil]
  | cons b t ih =>
    by_cases hb : b = 0
    · subst hb
      rw [enc_zero]
      show refGo (0 :: 255 :: (enc t ++ 0 :: 1 :: r)) p ps = _
      rw [refGo_zero _ _ _ _ (by decide), ih]
      simp
    · rw [enc_ne b t hb]
      show refGo (b :: (enc t ++ 0 :: 1 :: r)) p ps = _
      rw [refGo_ne _ _ _ _ hb, ih]
      simp
theorem refGo_key (ts ps : List ByteArray) : refGo (keyL ts) [] ps = ps ++ ts := by
  induction ts generalizing ps with
  | nil => simp [keyL, refGo]
  | cons t r ih =>
    rw [keyL, refGo_enc, ih, List.nil_append, list_txt]
    simp
def refP (k : ByteArray) : List ByteArray := refGo k.data.toList [] []
theorem refP_ok (k : ByteArray) (h : makeR (refP k) = (k, 0)) : splitE k = 0 ∧ splitT k = refP k := by
  unfold splitE splitT
  rw [split_make h]
  exact ⟨rfl, rfl⟩
theorem refP_bad (k : ByteArray) (h : ¬ makeR (refP k) = (k, 0)) : splitE k = 2 ∧ splitT k = [] := by
  have : splitO k = none := by
    cases hs : splitO k with
    | none => rfl
    | some ts =>
      exfalso
      have hm := make_split hs
      apply h
      have e : refP k = ts := by
        unfold refP
        rw [(make_ok hm).2.2.2, data_bytesOf, refGo_key]
        rfl
      rw [e]
      exact hm
  unfold splitE splitT
  rw [this]
  exact ⟨rfl, rfl⟩
theorem own_kinds {B B' : Nat} {w : World} {v u : Value} {l : List ByteArray} {m : List UInt8} (h : OwnS B w v l) (h' : Own B' w u m) : v.ownBlock = none ∨ v.ownBlock ≠ u.ownBlock := by
  obtain ⟨_, ⟨hv, _⟩ | ⟨g, cap, cur, hv, _, hg, _⟩⟩ := h
  · exact .inl (by rw [hv]; rfl)
  · right
    obtain ⟨_, ⟨hu, _⟩ | ⟨g', cap', cur', hu, _, hg', _⟩⟩ := h'
    · rw [hv, hu]
      intro e
      cases e
    · rw [hv, hu]
      intro e
      simp only [Value.ownBlock, Option.some.injEq] at e
      subst e
      rw [hg] at hg'
      simp only [Option.some.injEq, Obj.cells.injEq] at hg'
      exact absurd hg'.2.1 (by decide)
theorem own_kinds' {B B' : Nat} {w : World} {v u : Value} {l : List ByteArray} {m : List UInt8} (h : OwnS B w v l) (h' : Own B' w u m) : u.ownBlock = none ∨ u.ownBlock ≠ v.ownBlock := by
  have hk := own_kinds h h'
  obtain ⟨_, ⟨hu, _⟩ | ⟨g', cap', cur', hu, _⟩⟩ := h'
  · exact .inl (by rw [hu]; rfl)
  · rcases hk with e | e
    · right
      rw [e, hu]
      intro x
      cases x
    · exact .inr (Ne.symm e)
theorem Own.grown {B : Nat} {w w' : World} {v : Value} {l : List UInt8} (h : Own B w v l) : ∀ r, w.grownBy w' r → (v.ownBlock = none ∨ v.ownBlock ≠ r) → Own B w' v l := fun _ hg hr => World.ownsRow.kept h hg hr
/-- The two lists of the loop. -/
structure Two (B : Nat) (w0 w : World) (vp vq : Value) (ps : List ByteArray) (q : List UInt8) : Prop where
  p : OwnS B w vp ps
  q : Own B w vq q
  low : Below w0.heap.size w0 w
  up : w0.heap.size = B
theorem Two.byte {B : Nat} {w0 w w' : World} {vp vq vq' : Value} {ps : List ByteArray} {q q' : List UInt8} (H : Two B w0 w vp vq ps q) (h1 : Own B w' vq' q') (h2 : w.grownBy w' vq.ownBlock) : Two B w0 w' vp vq' ps q' :=
  ⟨H.p.grown _ h2 (own_kinds H.p H.q), h1, H.low.grown h2 H.low.size (fun k hk => by have := (H.q.lt k hk).1; have := H.up; omega), H.up⟩
theorem Two.text {B : Nat} {w0 w w' : World} {vp vp' vq : Value} {ps ps' : List ByteArray} {q : List UInt8} (H : Two B w0 w vp vq ps q) (h1 : OwnS B w' vp' ps') (h2 : w.grownBy w' vp.ownBlock) : Two B w0 w' vp' (.slice none 0 0) ps' [] :=
  ⟨h1, World.ownsRow_nil _ _ _ _, H.low.grown h2 H.low.size (fun k hk => by have := (H.p.lt k hk).1; have := H.up; omega), H.up⟩
theorem Two.room {B : Nat} {w0 w : World} {vp vq : Value} {ps : List ByteArray} {q : List UInt8} (H : Two B w0 w vp vq ps q) : B ≤ w.heap.size := by
  have := H.low.size
  have := H.up
  omega
theorem drop_two (l : List UInt8) (k : Nat) (h : k + 1 < l.length) : l.drop k = l.getD k 0 :: l.getD (k + 1) 0 :: l.drop (k + 2) := by
  rw [List.drop_eq_getElem_cons (by omega), List.drop_eq_getElem_cons h]
  simp [List.getD_eq_getElem?_getD, h, show k < l.length by omega]
theorem drop_one (l : List UInt8) (k : Nat) (h : k < l.length) : l.drop k = l.getD k 0 :: l.drop (k + 1) := by
  rw [List.drop_eq_getElem_cons h]
  simp [List.getD_eq_getElem?_getD, h]
theorem byte_at (s : ByteArray) (k : Nat) (h : k < s.size) : s.data.toList.getD k 0 = s[k]'h := by
  have hl : k < s.data.toList.length := by simpa using h
  rw [List.getD_eq_getElem?_getD, List.getElem?_eq_getElem hl]
  simp [ByteArray.getElem_eq_getElem_data]
set_option maxHeartbeats 8000000 in
set_option maxRecDepth 100000 in
theorem refSplit_any (s : ByteArray) (w : World) (hs : s.size ≤ 1048576) :
    Calls Tryd.prog 14 #[.string s] w fun e w' => ∃ v, e = .returned (.tuple #[v, .int .i64 (splitE s)]) ∧ OwnS w.heap.size w' v (splitT s) ∧ Below w.heap.size w w' := by
  have sl : s.data.toList.length = s.size := by simp
  have SL := Lib.hid sl
  clear sl
  go_enter Tryd.func14, Tryd.ntmps14
  go_wp2_with fail
  go_loopg [4, 5, 6] (s.size + 1) (fun g sp sq si wr => ∃ (k : Nat) (ps : List ByteArray) (q : List UInt8), k ≤ s.size + 1 ∧ g = s.size + 1 - k ∧ si = .int .i64 k ∧ Two w.heap.size w wr sp sq ps q ∧ refGo (s.data.toList.drop k) q ps = refP s ∧ ps.length ≤ k ∧ q.length ≤ k ∧ (∀ t ∈ ps, t.size ≤ 1048577))
  case atStart => exact ⟨0, [], [], by omega, rfl, rfl, ⟨World.ownsRow_nil _ _ _ _, World.ownsRow_nil _ _ _ _, Below.refl _ _, rfl⟩, rfl, by simp, by simp, by simp⟩
  case round =>
    obtain ⟨k, ps, q, hk, hg, rfl, ht, hgo, hpl, hql, hsz⟩ := hrel
    have R : Hid (gk = s.size + 1 - k ∧ Two w.heap.size w wr u4 u5 ps q ∧ refGo (s.data.toList.drop k) q ps = refP s ∧ (∀ t ∈ ps, t.size ≤ 1048577)) := ⟨hg, ht, hgo, hsz⟩
    clear hg ht hgo hsz
    by_cases hlt : k < s.size
    · have hlt' : (k : Int) < (s.size : Int) := by omega
      obtain ⟨c, hc⟩ : ∃ c, c = s[k]'hlt := ⟨_, rfl⟩
      have fc : ((s[k]'hlt).toNat : Int) = c8 c := by rw [hc]; rfl
      have D1 : Hid (s.data.toList.drop k = c :: s.data.toList.drop (k + 1)) := Lib.hid (by rw [drop_one _ k (by rw [SL.out]; exact hlt), byte_at s k hlt, hc])
      clear hc
      by_cases hz : c = 0
      · subst hz
        have g0 : (c8 0 != 0) = false := rfl
        by_cases hl2 : k + 1 < s.size
        · have hl2' : (k : Int) + 1 < (s.size : Int) := by omega
          have g2 : decide ((k : Int) + 1 < (s.size : Int)) = true := decide_eq_true hl2'
          obtain ⟨d, hd⟩ : ∃ d, d = s[k + 1]'hl2 := ⟨_, rfl⟩
          have fd : ((s[k + 1]'hl2).toNat : Int) = c8 d := by rw [hd]; rfl
          have D2 : Hid (s.data.toList.drop k = 0 :: d :: s.data.toList.drop (k + 2)) := Lib.hid (by rw [D1.out, drop_one _ (k + 1) (by rw [SL.out]; exact hl2), byte_at s (k + 1) hl2, hd])
          clear hd
          by_cases h1 : d = 1
          · subst h1
            have g1 : (c8 1 == 1) = true := rfl
            have hcv := convT R.out.2.1.q.bytes
            go_wp2_with (at_builtin; refine app_txt rfl _ _ rfl rfl R.out.2.1.p R.out.2.1.room (txt q) rfl (by omega) ?_)
            intro v' w' o1 h1
            have T2 := Lib.hid (R.out.2.1.text o1 h1)
            clear o1 h1
            go_wp2_with fail
            go_roundg (s.size + 1 - (k + 2))
            case measure => have := R.out.1; omega
            case rel =>
              refine ⟨k + 2, ps ++ [txt q], [], by omega, rfl, by go_num, T2.out, ?_, by rw [List.length_append]; simp; omega, by simp, ?_⟩
              · have h := R.out.2.2.1
                rw [D2.out, refGo_one] at h
                exact h
              · intro t ht
                rcases List.mem_append.1 ht with ht | ht
                · exact R.out.2.2.2 t ht
                · rw [List.mem_singleton] at ht
                  rw [ht, txt_size]; omega
          · have g1 : (c8 d == 1) = false := by
              rw [beq_eq_false_iff_ne]
              intro e
              exact h1 (c8_inj e)
            go_wp2_with (at_builtin; refine app_byte rfl _ _ rfl rfl R.out.2.1.q R.out.2.1.room _ 0 rfl rfl (by omega) ?_)
            intro v' w' o1 h2
            have T2 := Lib.hid (R.out.2.1.byte o1 h2)
            clear o1 h2
            go_wp2_with fail
            go_roundg (s.size + 1 - (k + 2))
            case measure => have := R.out.1; omega
            case rel =>
              refine ⟨k + 2, ps, q ++ [0], by omega, rfl, by go_num, T2.out, ?_, by omega, by rw [List.length_append]; simp; omega, R.out.2.2.2⟩
              have h := R.out.2.2.1
              rw [D2.out, refGo_zero _ _ _ _ h1] at h
              exact h
        · have g2 : decide ((k : Int) + 1 < (s.size : Int)) = false := decide_eq_false (by omega)
          go_wp2_with (at_builtin; refine app_byte rfl _ _ rfl rfl R.out.2.1.q R.out.2.1.room _ 0 rfl rfl (by omega) ?_)
          intro v' w' o1 h2
          have T2 := Lib.hid (R.out.2.1.byte o1 h2)
          clear o1 h2
          go_wp2_with fail
          go_roundg (s.size + 1 - (k + 2))
          case measure => have := R.out.1; omega
          case rel =>
            refine ⟨k + 2, ps, q ++ [0], by omega, rfl, by go_num, T2.out, ?_, by omega, by rw [List.length_append]; simp; omega, R.out.2.2.2⟩
            have h := R.out.2.2.1
            rw [D1.out, List.drop_eq_nil_of_le (by rw [SL.out]; omega)] at h
            rw [List.drop_eq_nil_of_le (by rw [SL.out]; omega)]
            exact h
      · have g0 : (c8 c != 0) = true := by
          rw [bne_iff_ne]
          intro e
          exact hz (c8_inj e)
        go_wp2_with (at_builtin; refine app_byte rfl _ _ rfl rfl R.out.2.1.q R.out.2.1.room _ c rfl rfl (by omega) ?_)
        intro v' w' o1 h2
        have T2 := Lib.hid (R.out.2.1.byte o1 h2)
        clear o1 h2
        go_wp2_with fail
        go_roundg (s.size + 1 - (k + 1))
        case measure => have := R.out.1; omega
        case rel =>
          refine ⟨k + 1, ps, q ++ [c], by omega, rfl, by go_num, T2.out, ?_, by omega, by rw [List.length_append]; simp; omega, R.out.2.2.2⟩
          have h := R.out.2.2.1
          rw [D1.out, refGo_ne _ _ _ _ hz] at h
          exact h
    · have ep : ps = refP s := by
        have h := R.out.2.2.1
        rw [List.drop_eq_nil_of_le (by rw [SL.out]; omega)] at h
        exact h
      have MK := Lib.hid (refMake_any u4 ps wr R.out.2.1.p.strs R.out.2.2.2)
      obtain ⟨⟨x, f⟩, hr⟩ : ∃ r, r = makeR ps := ⟨_, rfl⟩
      rw [← hr] at MK
      have OK : Hid (x = s → f = 0 → splitE s = 0 ∧ splitT s = ps) := Lib.hid fun h1 h2 => by
        rw [ep]
        exact refP_ok s (by rw [← ep, ← hr, h1, h2])
      have NO : Hid (¬ (x = s ∧ f = 0) → splitE s = 2 ∧ splitT s = []) := Lib.hid fun h => refP_bad s (by
        rw [← ep, ← hr]
        intro e
        exact h ⟨congrArg Prod.fst e, congrArg Prod.snd e⟩)
      clear ep hr
      by_cases e2 : f = 0
      · subst e2
        by_cases e1 : x = s
        · have q1 := eqB x s e1
          have hA := Lib.hid (OK.out e1 rfl)
          clear e1
          go_wp2_with fail
          refine MK.out.mono ?_
          rintro r w3 ⟨rfl, hb⟩
          have B3 := Lib.hid (R.out.2.1.low.trans (hb.mono R.out.2.1.low.size))
          have O4 := Lib.hid (R.out.2.1.p.below hb)
          clear hb
          go_wp2_with fail
          go_ret2
          exact ⟨_, by rw [hA.out.1]; rfl, by rw [hA.out.2]; exact O4.out, B3.out⟩
        · have q1 := neB x s e1
          have hA := Lib.hid (NO.out (fun h => e1 h.1))
          clear e1
          go_wp2_with fail
          refine MK.out.mono ?_
          rintro r w3 ⟨rfl, hb⟩
          have B3 := Lib.hid (R.out.2.1.low.trans (hb.mono R.out.2.1.low.size))
          clear hb
          go_wp2_with fail
          go_ret2
          exact ⟨.slice none 0 0, by rw [hA.out.1]; rfl, by rw [hA.out.2]; exact World.ownsRow_nil _ _ _ _, B3.out⟩
      · have q2 : (f != 0) = true := bne_iff_ne.2 e2
        have hA := Lib.hid (NO.out (fun h => e2 h.2))
        clear e2
        go_wp2_with fail
        refine MK.out.mono ?_
        rintro r w3 ⟨rfl, hb⟩
        have B3 := Lib.hid (R.out.2.1.low.trans (hb.mono R.out.2.1.low.size))
        clear hb
        go_wp2_with fail
        go_ret2
        exact ⟨.slice none 0 0, by rw [hA.out.1]; rfl, by rw [hA.out.2]; exact World.ownsRow_nil _ _ _ _, B3.out⟩
end Go.Proofs.YtggpiikiplogmaaDoor
