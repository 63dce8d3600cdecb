/-
  addAll: the amounts of a list added to a map of sums.
-/
import Derived.Test.YtodfmnbfbndkhaaGreatDoorScU
namespace Go.Proofs.YtodfmnbfbndkhaaGreatDoor
open Go.RowKit Go.Maps
theorem cat_data (x y : ByteArray) : (x ++ y).data.toList = x.data.toList ++ y.data.toList := by simp
theorem cat_size (x y : ByteArray) : (x ++ y).size = x.size + y.size := by simp
theorem wf_i64 {x : Int} (h0 : 0 ≤ x) (h1 : x ≤ 9223372036854775807) : (Lit.int .i64 x).wf = true := by
  simp [Lit.wf, IntKind.min, IntKind.max, IntKind.signed, IntKind.bits]; omega
set_option maxHeartbeats 4000000 in
set_option maxRecDepth 100000 in
theorem addAll_any (b m : Nat) (h : ByteArray) (v : Value) (l : List Am) (es : List En) (w : World) (hm : MapAt w b m es) (hv : Row kAm w v l) (hp : ∀ x ∈ l, 0 ≤ x.v ∧ x.v ≤ 9223372036854775807) (he : ∀ e ∈ es, 0 ≤ e.2) (ht : ¬ Ov es)
    (hs : ∀ x ∈ l, h.size + x.n.size ≤ 281474976710656) (hn : m + l.length < 281474976710656) :
    Calls Tryz.prog 41 #[.map (some b), .string h, v] w fun e w' => w.grownBy w' (some b) ∧ ((¬ Ov (es ++ pre h l) ∧ e = .returned (.int .i64 0) ∧ MapAt w' b (m + l.length) (es ++ pre h l)) ∨ (Ov (es ++ pre h l) ∧ e = .returned (.int .i64 7))) := by
  have V := Lib.hid hv
  obtain ⟨a, cap, rfl, hlc, hcm⟩ := hv.len
  unfold maxLen at hcm
  obtain ⟨n, hnl⟩ : ∃ n, n = l.length := ⟨_, rfl⟩
  rw [← hnl] at hlc hn V ⊢
  have HN := Lib.hid hnl
  have P : Hid (MapAt w b m es ∧ (∀ x ∈ l, 0 ≤ x.v ∧ x.v ≤ 9223372036854775807) ∧ (∀ e ∈ es, 0 ≤ e.2) ∧ ¬ Ov es ∧ (∀ x ∈ l, h.size + x.n.size ≤ 281474976710656) ∧ m + n < 281474976710656) := Lib.hid ⟨hm, hp, he, ht, hs, hn⟩
  clear hv hnl hm hp he ht hs hn
  go_enter Tryz.func41, Tryz.ntmps41
  go_wp2_with fail
  go_loopg [14] n (fun g si wr => ∃ (k : Nat), k ≤ n ∧ g = n - k ∧ si = .int .i64 k ∧ MapAt wr b (m + k) (es ++ pre h (l.take k)) ∧ ¬ Ov (es ++ pre h (l.take k)) ∧ w.grownBy wr (some b))
  case atStart => exact ⟨0, Nat.zero_le _, rfl, rfl, by simpa [pre] using P.out.1, by simpa [pre] using P.out.2.2.2.1, World.grownBy.refl _ _⟩
  case round =>
    obtain ⟨k, hk, hg, rfl, hM, hO, hgr⟩ := hrel
    have R : Hid (gk = n - k ∧ ¬ Ov (es ++ pre h (l.take k)) ∧ w.grownBy wr (some b)) := Lib.hid ⟨hg, hO, hgr⟩
    obtain ⟨D, hD, hS⟩ := hM
    have M : Hid (∀ o, (wr.alloc o).ownsMap Tryz.prog 9 (plainElem Tryz.prog 2) b (m + k) D) := Lib.hid fun o => hD.alloc o
    have MS : Hid (Sm D (es ++ pre h (l.take k))) := Lib.hid hS
    have M0 := Lib.hid hD
    clear hg hO hgr hD hS
    by_cases hlt : k < n
    · have hlt' : (k : Int) < (n : Int) := by omega
      have hkl : k < l.length := by rw [← HN.out]; exact hlt
      obtain ⟨bb, off, rfl, pc⟩ := (V.out.grownMap P.out.1 R.out.2.2).at k hkl
      have XP : Hid (0 ≤ (l.getD k kAm.z).v ∧ (l.getD k kAm.z).v ≤ 9223372036854775807 ∧ h.size + (l.getD k kAm.z).n.size ≤ 281474976710656) := Lib.hid ⟨(P.out.2.1 _ (getD_in hkl)).1, (P.out.2.1 _ (getD_in hkl)).2, P.out.2.2.2.2.1 _ (getD_in hkl)⟩
      have ST := Lib.hid (pre_take h l k hkl)
      have SP : Hid (pre h l = pre h (l.take (k + 1)) ++ pre h (l.drop (k + 1)) ∧ ∀ e ∈ pre h (l.drop (k + 1)), 0 ≤ e.2) := Lib.hid ⟨pre_split h l (k + 1), pre_pos fun x hx => (P.out.2.1 x (List.mem_of_mem_drop hx)).1⟩
      obtain ⟨⟨xn, xv⟩, hx⟩ : ∃ x, x = l.getD k kAm.z := ⟨_, rfl⟩
      rw [← hx] at pc ST XP
      have c0 : wr.cell? ⟨bb, off + k * 2, none⟩ = some (.string xn) := pc 0 _ rfl
      have c1 : wr.cell? ⟨bb, off + k * 2 + 1, none⟩ = some (.int .i64 xv) := pc 1 _ rfl
      clear pc hx hkl
      have sz : ¬ (9223372036854775807 < h.size + xn.size) := by have := XP.out.2.2; simp only at this; omega
      have KY : Hid (keyOf Tryz.prog 9 (.string (h ++ xn)) = some (.string (h ++ xn).data.toList)) := Lib.hid (WideMaps.keyOf_string_mk (P := Tryz.prog) Tryz.underlying9 (by rw [cat_size]; have := XP.out.2.2; simp only at this; unfold maxLen; omega))
      obtain ⟨tk, htk⟩ : ∃ t, t = Tot (es ++ pre h (l.take k)) (h ++ xn).data.toList := ⟨_, rfl⟩
      have TK : Hid (tk = Tot (es ++ pre h (l.take k)) (h ++ xn).data.toList) := Lib.hid htk
      have AT : Hid (∀ c : Int, D.atKey (.string (h ++ xn).data.toList) (.lit (.int .i64 0)) = .lit (.int .i64 c) → c = tk) := Lib.hid fun c hc => by
        rw [MS.out.2.2] at hc
        simp only [DataW.lit.injEq, Lit.int.injEq, true_and] at hc
        rw [htk]; exact hc.symm
      have TP : Hid (0 ≤ tk) := Lib.hid (by
        rw [htk]
        refine Tot_pos (fun e he => ?_) _
        rcases List.mem_append.1 he with q | q
        · exact P.out.2.2.1 e q
        · exact pre_pos (fun x hx => (P.out.2.1 x (List.mem_of_mem_take hx)).1) e q)
      clear htk
      have LG : Hid (∀ W, (∀ o, (wr.alloc o).grownBy W (some b) → w.grownBy W (some b))) := Lib.hid fun W o q => (R.out.2.2.trans (World.grownBy_alloc _ _ _)).trans q
      by_cases hov : tk + xv ≤ 9223372036854775807
      · have A := Lib.hid (fun W => add_ok tk xv TP.out (by have := XP.out.1; exact this) hov W)
        have WF : Hid (plainElem (H := Unit) Tryz.prog 2 (.int .i64 (tk + xv)) = some (.lit (.int .i64 (tk + xv)), [])) := Lib.hid (plainElem_int Tryz.underlying2 (wf_i64 (by have := TP.out; have := XP.out.1; simp only at this; omega) hov))
        have NX : Hid (Sm (D.put (.string (h ++ xn).data.toList) (.lit (.int .i64 (tk + xv)))) (es ++ pre h (l.take (k + 1)))) := Lib.hid (by
          rw [ST.out, ← List.append_assoc, ← cat_data, TK.out]
          exact MS.out.put _ _)
        have NO : Hid (¬ Ov (es ++ pre h (l.take (k + 1)))) := Lib.hid (by
          rw [ST.out, ← List.append_assoc, ← cat_data]
          rintro ⟨y, hy⟩
          rw [Tot_app, Tot_one] at hy
          simp only at hy
          split at hy
          · rename_i q
            rw [← q, ← TK.out] at hy
            unfold maxA at hy
            omega
          · exact R.out.2.1 ⟨y, by simpa using hy⟩)
        clear hov
        have HB : Hid (m + k < maxLen) := Lib.hid (by have := P.out.2.2.2.2.2; unfold maxLen; omega)
        go_wp2_with (first
          | (at_lookup; refine wpList_lookup_own_int _ rfl _ _ 93 rfl 9 2 .i64 law Tryz.underlying93 Tryz.underlying2 (zeroE _) b (m + k) D rfl (M.out _) _ _ rfl KY.out ?_; intro c hat hwc; obtain rfl := AT.out c hat; clear hat hwc)
          | (go_at_call 77; refine (A.out _).mono ?_; rintro e w1 ⟨rfl, rfl⟩)
          | (at_mapUpdate; refine wpList_mapUpdate_own _ rfl _ _ _ 93 rfl 9 2 law Tryz.underlying93 _ b (m + k) D rfl (M.out _) HB.out _ _ _ rfl rfl KY.out _ [] WF.out ?_; intro w2 hown2 hgrow2))
        have X2 : Hid (MapAt w2 b (m + (k + 1)) (es ++ pre h (l.take (k + 1))) ∧ w.grownBy w2 (some b)) := Lib.hid ⟨⟨_, hown2, NX.out⟩, LG.out _ _ hgrow2⟩
        clear hown2 hgrow2
        go_wp2_with fail
        go_roundg (n - (k + 1))
        case measure => have := R.out.1; omega
        case rel => exact ⟨k + 1, by omega, rfl, by go_num, X2.out.1, NO.out, X2.out.2⟩
      · have A := Lib.hid (fun W => add_over tk xv TP.out (by have := XP.out.1; exact this) (by have := XP.out.2.1; exact this) (by omega) W)
        have NO : Hid (Ov (es ++ pre h l)) := Lib.hid (by
          rw [SP.out.1, ← List.append_assoc]
          refine Ov_app ⟨(h ++ xn).data.toList, ?_⟩ SP.out.2
          rw [ST.out, ← List.append_assoc, ← cat_data, Tot_app, Tot_one, if_pos rfl, ← TK.out]
          show maxA < tk + xv
          unfold maxA
          omega)
        clear hov
        go_wp2_with (first
          | (at_lookup; refine wpList_lookup_own_int _ rfl _ _ 93 rfl 9 2 .i64 law Tryz.underlying93 Tryz.underlying2 (zeroE _) b (m + k) D rfl (M.out _) _ _ rfl KY.out ?_; intro c hat hwc; obtain rfl := AT.out c hat; clear hat hwc)
          | (go_at_call 77; refine (A.out _).mono ?_; rintro e w1 ⟨rfl, rfl⟩))
        go_ret
        exact ⟨LG.out _ _ (World.grownBy.refl _ _), Or.inr ⟨NO.out, rfl⟩⟩
    · have E : Hid (l.take k = l ∧ k = n) := Lib.hid ⟨List.take_of_length_le (by rw [← HN.out]; omega), by omega⟩
      go_wp2_with fail
      go_ret
      refine ⟨R.out.2.2, Or.inl ⟨?_, rfl, ?_⟩⟩
      · have := R.out.2.1; rw [E.out.1] at this; exact this
      · have := MS.out; rw [E.out.1] at this; rw [← E.out.2]; exact ⟨D, M0.out, this⟩
end Go.Proofs.YtodfmnbfbndkhaaGreatDoor
