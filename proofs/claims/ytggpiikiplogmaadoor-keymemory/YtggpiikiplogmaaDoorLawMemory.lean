/-
  THE WALK of KeyMemory.
-/
import Derived.Test.YtggpiikiplogmaaDoorApart
namespace Go.Proofs.YtggpiikiplogmaaDoor
open Go.RowKit
theorem own_at {B : Nat} {w w' : World} {g n cap : Nat} {l : List ByteArray} (H : OwnS B w (.slice (some ⟨g, 0, none⟩) n cap) l) (hb : Below w.heap.size w w') (k : Nat) (hk : k < l.length) : w'.cell? ⟨g, k, none⟩ = some (.string (l.getD k ⟨#[]⟩)) := by
  obtain ⟨b, off, e, h⟩ := (H.strs.below hb).at k hk
  cases e
  rw [Nat.zero_add] at h
  exact h
theorem ones_all (ts : List ByteArray) : ones ts ts.length = List.replicate ts.length oneT := by
  unfold ones
  rw [List.drop_length, List.append_nil]
set_option maxHeartbeats 8000000 in
set_option maxRecDepth 100000 in
theorem memory_bad (v : Value) (ts : List ByteArray) (w : World) (hm : HasM w) (hv : Strs w v ts) (hs : (∀ t ∈ ts, t.size ≤ 140737488355328) ∧ ts.length ≤ 8796093021952) (he : (makeR ts).2 ≠ 0) :
    Calls Tryd.prog 4 #[v] w fun e w' => e = .returned (.bool true) ∧ Below w.heap.size w w' := by
  have V := Lib.hid hv
  have H := Lib.hid hm
  have FX := Lib.hid (fixed_ok w hm)
  have OW : Hid (∀ W, Strs W v ts → Calls Tryd.prog 12 #[v] W fun e w' => ∃ v', e = .returned v' ∧ OwnS W.heap.size w' v' ts ∧ Below W.heap.size W w') := Lib.hid fun W h => own_any v ts W h hs.2
  have MA : Hid (∀ v W, HasM W → Strs W v ts → Calls Tryd.prog 11 #[v] W fun e w' => e = .returned (.tuple #[.string (makeR ts).1, .int .i64 (makeR ts).2]) ∧ Below W.heap.size W w') := Lib.hid fun v W h hv => make_any v ts W h hv hs.1
  have me := make_err ts he
  obtain ⟨⟨x, f⟩, hx⟩ : ∃ r, r = makeR ts := ⟨_, rfl⟩
  rw [← hx] at MA me he
  simp only at me he
  clear hx hv hm hs
  have ge : (f != 0) = true := bne_iff_ne.2 he
  clear he
  go_enter Tryd.func4, Tryd.ntmps4
  go_wp2_with fail
  refine FX.out.mono ?_
  rintro r w1 ⟨rfl, hb⟩
  have B1 := Lib.hid hb
  clear hb FX
  go_wp2_with fail
  refine (OW.out w1 (V.out.below B1.out)).mono ?_
  rintro r w2 ⟨v2, rfl, o2, hb⟩
  have B2 := Lib.hid (B1.out.trans (hb.mono B1.out.size))
  have S2 := Lib.hid o2.strs
  clear hb o2 B1
  go_wp2_with fail
  refine (MA.out v2 w2 (H.out.below B2.out) S2.out).mono ?_
  rintro r w3 ⟨rfl, hb⟩
  have B3 := Lib.hid (B2.out.trans (hb.mono B2.out.size))
  clear hb B2 S2
  rcases me with rfl | rfl
  · go_wp2_with fail
    go_ret
    exact ⟨rfl, B3.out⟩
  · go_wp2_with fail
    go_ret
    exact ⟨rfl, B3.out⟩
set_option maxHeartbeats 16000000 in
set_option maxRecDepth 100000 in
theorem memory_good (v : Value) (ts : List ByteArray) (w : World) (hm : HasM w) (hv : Strs w v ts) (hs : (∀ t ∈ ts, t.size ≤ 140737488355328) ∧ ts.length ≤ 8796093021952) (x : ByteArray) (hx : makeR ts = (x, 0)) :
    Calls Tryd.prog 4 #[v] w fun e w' => e = .returned (.bool true) ∧ Below w.heap.size w w' := by
  have V := Lib.hid hv
  have H := Lib.hid hm
  have FX := Lib.hid (fixed_ok w hm)
  have OW : Hid (∀ W, Strs W v ts → Calls Tryd.prog 12 #[v] W fun e w' => ∃ v', e = .returned v' ∧ OwnS W.heap.size w' v' ts ∧ Below W.heap.size W w') := Lib.hid fun W h => own_any v ts W h hs.2
  have MA : Hid (∀ v W, HasM W → Strs W v ts → Calls Tryd.prog 11 #[v] W fun e w' => e = .returned (.tuple #[.string x, .int .i64 0]) ∧ Below W.heap.size W w') := Lib.hid fun v W h hv => by
    have := make_any v ts W h hv hs.1
    rw [hx] at this
    exact this
  obtain ⟨hne, h8, h120, hkey⟩ := make_ok hx
  have sp := split_make hx
  have SX : Hid (∀ W, HasM W → Calls Tryd.prog 13 #[.string x] W fun e w' => ∃ v, e = .returned (.tuple #[v, .int .i64 0]) ∧ OwnS W.heap.size w' v ts ∧ Below W.heap.size W w') := Lib.hid fun W h => by
    have := split_any x W h (by
      have : x.size = (keyL ts).length := by rw [hkey]; simp [bytesOf, ByteArray.size]
      omega)
    have e1 : splitE x = 0 := by unfold splitE; rw [sp]; rfl
    have e2 : splitT x = ts := by unfold splitT; rw [sp]; rfl
    rw [e1, e2] at this
    exact this
  have hpos : 0 < ts.length := List.length_pos_iff.2 hne
  obtain ⟨a0, cap0, rfl, hlc, hcm⟩ := hv.len
  unfold maxLen at hcm
  have NE := Lib.hid hne
  clear hx hv hm hs h120 hkey sp hne
  go_enter Tryd.func4, Tryd.ntmps4
  go_wp2_with fail
  refine FX.out.mono ?_
  rintro r w1 ⟨rfl, hb⟩
  have B1 := Lib.hid hb
  clear hb FX
  go_wp2_with fail
  refine (OW.out w1 (V.out.below B1.out)).mono ?_
  rintro r w2 ⟨v2, rfl, o2, hb⟩
  have B2 := Lib.hid (B1.out.trans (hb.mono B1.out.size))
  have S2 := Lib.hid o2.strs
  clear hb o2 B1
  go_wp2_with fail
  refine (MA.out v2 w2 (H.out.below B2.out) S2.out).mono ?_
  rintro r w3 ⟨rfl, hb⟩
  have B3 := Lib.hid (B2.out.trans (hb.mono B2.out.size))
  clear hb B2 S2
  go_wp2_with fail
  refine (SX.out w3 (H.out.below B3.out)).mono ?_
  rintro r w4 ⟨va, rfl, oa, hb⟩
  have B4 := Lib.hid (B3.out.trans (hb.mono B3.out.size))
  have OA := Lib.hid oa
  have K34 := Lib.hid hb.size
  clear hb oa
  go_wp2_with fail
  refine (SX.out w4 (H.out.below B4.out)).mono ?_
  rintro r w5 ⟨vb, rfl, ob, hb⟩
  have B5 := Lib.hid (B4.out.trans (hb.mono B4.out.size))
  have OB := Lib.hid ob
  have OA5 := Lib.hid (OA.out.below hb)
  have K45 := Lib.hid hb.size
  clear hb ob
  go_wp2_with fail
  refine (SX.out w5 (H.out.below B5.out)).mono ?_
  rintro r w6 ⟨vc, rfl, oc, hb⟩
  have B6 := Lib.hid (B5.out.trans (hb.mono B5.out.size))
  have TH : Hid (Three w3.heap.size w w6 va vb vc ts ts ts) := Lib.hid ⟨OA5.out.below hb, (OB.out.mono K34.out).below hb, oc.mono (Nat.le_trans K34.out K45.out), Ap.of_lt OA.out OB.out (Nat.le_refl _), Ap.of_lt OA5.out oc (Nat.le_refl _), Ap.of_lt OB.out oc (Nat.le_refl _), B6.out, B3.out.size, Nat.le_trans K34.out (Nat.le_trans K45.out hb.size)⟩
  clear hb oc OA OB OA5 K34 K45 B4 B5 B6
  obtain ⟨ga, ca, ea, hca, _, _, _⟩ := TH.out.a.shape NE.out
  obtain ⟨gb, cb, eb, hcb, _, _, _⟩ := TH.out.b.shape NE.out
  obtain ⟨gc, cc, ec, hcc, _, _, _⟩ := TH.out.c.shape NE.out
  subst ea eb ec
  go_wp2_with fail
  go_loopg [13] ts.length (fun g si wr => ∃ (k : Nat), k ≤ ts.length ∧ g = ts.length - k ∧ si = .int .i64 k ∧ Three w3.heap.size w wr (.slice (some ⟨ga, 0, none⟩) ts.length ca) (.slice (some ⟨gb, 0, none⟩) ts.length cb) (.slice (some ⟨gc, 0, none⟩) ts.length cc) (ones ts k) ts ts)
  case atStart => exact ⟨0, Nat.zero_le _, rfl, rfl, by have := TH.out; rw [show ones ts 0 = ts by simp [ones]]; exact this⟩
  case round =>
    obtain ⟨k, hk, hg, rfl, ht⟩ := hrel
    have R : Hid (gk = ts.length - k ∧ Three w3.heap.size w wr (.slice (some ⟨ga, 0, none⟩) ts.length ca) (.slice (some ⟨gb, 0, none⟩) ts.length cb) (.slice (some ⟨gc, 0, none⟩) ts.length cc) (ones ts k) ts ts) := ⟨hg, ht⟩
    clear hg ht
    by_cases hlt : k < ts.length
    · obtain ⟨-, -, c1, f1, -⟩ := R.out.2.a.set k (by rw [ones_length ts k hk]; exact hlt) oneT
      have T2 := R.out.2.set k (by rw [ones_length ts k hk]; exact hlt) oneT
      rw [ones_set ts k hlt] at T2
      have TT := Lib.hid T2
      clear T2
      have hlt' : (k : Int) < (ts.length : Int) := by omega
      go_wp2_with fail
      go_roundg (ts.length - (k + 1))
      case measure => have := R.out.1; omega
      case rel => exact ⟨k + 1, by omega, rfl, by go_num, TT.out⟩
    · have ek : k = ts.length := by omega
      have T3 : Hid (Three w3.heap.size w wr (.slice (some ⟨ga, 0, none⟩) ts.length ca) (.slice (some ⟨gb, 0, none⟩) ts.length cb) (.slice (some ⟨gc, 0, none⟩) ts.length cc) (List.replicate ts.length oneT ++ List.replicate 0 twoT) (ts ++ List.replicate 0 threeT) ts) := Lib.hid (by
        have := R.out.2
        rw [ek, ones_all] at this
        simpa using this)
      clear ek
      go_wp2_with fail
      go_loopg [6, 8, 14] 64 (fun g sa sb si wr => ∃ (j : Nat), j ≤ 64 ∧ g = 64 - j ∧ si = .int .i64 j ∧ Three w3.heap.size w wr sa sb (.slice (some ⟨gc, 0, none⟩) ts.length cc) (List.replicate ts.length oneT ++ List.replicate j twoT) (ts ++ List.replicate j threeT) ts)
      case atStart => exact ⟨0, by omega, rfl, rfl, T3.out⟩
      case round =>
        obtain ⟨j, hj, hg, rfl, ht⟩ := hrel
        have R2 : Hid (gk = 64 - j ∧ Three w3.heap.size w wr u6 u8 (.slice (some ⟨gc, 0, none⟩) ts.length cc) (List.replicate ts.length oneT ++ List.replicate j twoT) (ts ++ List.replicate j threeT) ts) := ⟨hg, ht⟩
        clear hg ht
        by_cases hlj : j < 64
        · have hlj' : (j : Int) < 64 := by omega
          go_wp2_with (at_builtin; refine app_txt2 rfl _ _ rfl rfl R2.out.2.a R2.out.2.room twoT rfl (by simp; omega) ?_)
          intro va' w' o1 h1 h2
          have T4 := Lib.hid (R2.out.2.growA o1 h1 h2)
          clear o1 h1 h2
          go_wp2_with (at_builtin; refine app_txt2 rfl _ _ rfl rfl T4.out.b T4.out.room threeT rfl (by simp; omega) ?_)
          intro vb' w'' o1 h1 h2
          have T5 := Lib.hid (T4.out.growB o1 h1 h2)
          clear o1 h1 h2 T4
          go_wp2_with fail
          go_roundg (64 - (j + 1))
          case measure => have := R2.out.1; omega
          case rel => exact ⟨j + 1, by omega, rfl, by go_num, by
            have := T5.out
            rw [List.replicate_succ', List.replicate_succ', ← List.append_assoc, ← List.append_assoc]
            simpa using this⟩
        · have ej : j = 64 := by omega
          subst ej
          have T4 := R2.out.2
          obtain ⟨ga', ca', ea, hca', _, _, _⟩ := T4.a.shape (by simp)
          obtain ⟨gb', cb', eb, hcb', _, _, _⟩ := T4.b.shape (by simp)
          rw [List.length_append, List.length_replicate, List.length_replicate] at ea hca'
          rw [List.length_append, List.length_replicate] at eb hcb'
          subst ea eb
          have TT := Lib.hid T4
          clear T4
          go_wp2_with fail
          go_loopg [15] ts.length (fun g si w9 => ∃ (k : Nat), k ≤ ts.length ∧ g = ts.length - k ∧ si = .int .i64 k ∧ Below wr.heap.size wr w9)
          case atStart => exact ⟨0, Nat.zero_le _, rfl, rfl, Below.refl _ _⟩
          case round =>
            obtain ⟨k2, hk2, hg, rfl, hb⟩ := hrel
            have R3 := Lib.hid (And.intro hg hb)
            have la : (List.replicate ts.length oneT ++ List.replicate 64 twoT).length = ts.length + 64 := by simp
            have lb : (ts ++ List.replicate 64 threeT).length = ts.length + 64 := by simp
            by_cases hlt2 : k2 < ts.length
            · obtain ⟨t, ht⟩ : ∃ t, t = ts.getD k2 ⟨#[]⟩ := ⟨_, rfl⟩
              have c1 := own_at TT.out.a hb k2 (by rw [la]; omega)
              have c2 := own_at TT.out.b hb k2 (by rw [lb]; omega)
              have c3 := own_at TT.out.c hb k2 hlt2
              obtain ⟨b0, off0, e0, c4⟩ := (V.out.below (TT.out.low.trans (hb.mono TT.out.low.size))).at k2 hlt2
              subst e0
              rw [List.getD_eq_getElem?_getD, List.getElem?_append_left (by rw [List.length_replicate]; exact hlt2), List.getElem?_replicate, if_pos hlt2] at c1
              rw [List.getD_eq_getElem?_getD, List.getElem?_append_left hlt2, ← List.getD_eq_getElem?_getD, ← ht] at c2
              rw [← ht] at c3 c4
              have c1' : wr.cell? ⟨ga', k2, none⟩ = some (.string ⟨#[111, 110, 101]⟩) := c1
              have tt := eqB t t rfl
              have o1 := eqB ⟨#[111, 110, 101]⟩ ⟨#[111, 110, 101]⟩ rfl
              have i1 : (k2 : Int) < (ts.length : Int) := by omega
              clear ht c1 la lb hg hb
              go_wp2_with fail
              go_quiet (fail)
              go_wp2_with fail
              go_roundg (ts.length - (k2 + 1))
              case measure => have := R3.out.1; omega
              case rel => exact ⟨k2 + 1, by omega, rfl, by go_num, R3.out.2.trans ⟨rfl, rfl, rfl, Nat.le_refl _, fun _ _ => rfl⟩⟩
            · have ek2 : k2 = ts.length := by omega
              have c1 := own_at TT.out.a hb ts.length (by rw [la]; omega)
              have c2 := own_at TT.out.b hb ts.length (by rw [lb]; omega)
              rw [List.getD_eq_getElem?_getD, List.getElem?_append_right (by simp), List.length_replicate, Nat.sub_self] at c1
              rw [List.getD_eq_getElem?_getD, List.getElem?_append_right (Nat.le_refl _), Nat.sub_self] at c2
              have c1' : wr.cell? ⟨ga', ts.length, none⟩ = some (.string ⟨#[116, 119, 111]⟩) := c1
              have c2' : wr.cell? ⟨gb', ts.length, none⟩ = some (.string ⟨#[116, 104, 114, 101, 101]⟩) := c2
              have LOW := Lib.hid (TT.out.low.trans (hb.mono TT.out.low.size))
              clear c1 c2 la lb hg hb ek2
              go_wp2_with fail
              go_ret
              exact ⟨rfl, LOW.out⟩
theorem keyMemory_walk (v : Value) (ts : List ByteArray) (w : World) (hm : HasM w) (hv : Strs w v ts) (hs : (∀ t ∈ ts, t.size ≤ 140737488355328) ∧ ts.length ≤ 8796093021952) :
    Calls Tryd.prog 4 #[v] w fun e w' => e = .returned (.bool true) ∧ Below w.heap.size w w' := by
  by_cases h : (makeR ts).2 = 0
  · exact memory_good v ts w hm hv hs (makeR ts).1 (by rw [← h])
  · exact memory_bad v ts w hm hv hs h
end Go.Proofs.YtggpiikiplogmaaDoor
