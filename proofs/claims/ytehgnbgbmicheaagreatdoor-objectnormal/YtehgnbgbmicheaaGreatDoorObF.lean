/-
  decoded at objects, DecodeObject.
-/
import Derived.Test.YtehgnbgbmicheaaGreatDoorObU
import Derived.Test.YtehgnbgbmicheaaGreatDoorObK
import Derived.Laws.IdiomStrings
namespace Go.Proofs.YtehgnbgbmicheaaGreatDoor
open Go.RowKit
theorem conv_text (w : World) (s : ByteArray) (hs : s.size ≤ 140737488355328) : ∃ cap w', (convert 9 76 (.string s)).run Tryz.prog w = .ok (.slice (some ⟨w.heap.size, 0, none⟩) s.size cap) w' ∧ Below w.heap.size w w' ∧ Bytes w' (.slice (some ⟨w.heap.size, 0, none⟩) s.size cap) s.data.toList := by
  refine ⟨_, _, run_bytes_of_string w 9 76 5 s Tryz.underlying9 Tryz.underlying76 Tryz.underlying5, ?_, ?_⟩
  · exact ((⟨rfl, rfl, rfl, Nat.le_refl _, fun _ _ => rfl⟩ : Below w.heap.size w w.drew)).alloc (Nat.le_refl _) _
  · refine ⟨_, _, by rw [str_size], ?_, ?_, fun h => by simp at h, fun k hk => ⟨w.heap.size, 0, rfl, ?_⟩⟩
    · rw [str_size]; exact grownCap_ge w s.size 0 5
    · exact grownCap_le_maxLen w s.size 0 5 (by unfold maxLen; omega)
    · rw [Nat.zero_add]
      show (w.drew.alloc _).cell? ⟨w.drew.heap.size, k, none⟩ = _
      rw [World.cell?_alloc_mark]
      have hk' : k < s.data.size := by simpa using hk
      rw [bytesRow_at s _ k hk']
      simp only [c8, List.getD, Array.getElem?_toList, Array.getElem?_eq_getElem hk', Option.getD_some]
/-- The reader behind the letter and the form. -/
def rs2 (t : ByteArray) : RS := (RS.byte (RS.byte ⟨t.data.toList, 0⟩).2).2
def dcO (t : ByteArray) : Ob := tkO (rs2 t)
/-- What DecodeObject tells. -/
def decR (t : ByteArray) : Ob × Nat := if obR (dcO t) = (t, 0) then (dcO t, 0) else (Ob.z, 2)
theorem text_sz (s : RS) : (txt (s.text 8192).1).size ≤ 8192 := by
  have := text_le s 8192; simp only [txt_size]; exact this
theorem wrap_fit (x : Int) : -9223372036854775808 ≤ wrap64 x ∧ wrap64 x ≤ 9223372036854775807 := by unfold wrap64; omega
theorem tkN_all {α : Type} {f : RS → α × RS} {P : α → Prop} (h : ∀ s, P (f s).1) (n : Nat) (s : RS) : ∀ x ∈ (tkN f n s).1, P x := by
  induction n generalizing s with
  | zero => intro x hx; simp [tkN] at hx
  | succ n ih =>
    intro x hx
    rw [tkN] at hx
    rcases List.mem_cons.1 hx with rfl | hx
    · exact h s
    · exact ih _ x hx
theorem tkAms_fit (s : RS) : ∀ y ∈ (tkAms s).1, y.fit := tkN_all (P := Am.fit) (fun s => ⟨Nat.le_trans (text_sz s) (by decide), wrap_fit _⟩) _ _
theorem tk3_fit (s : RS) : ∀ x ∈ (tk3 s).1, x.1.size ≤ 140737488355328 ∧ x.2.size ≤ 140737488355328 :=
  tkN_all (f := tkL) (P := fun x : ByteArray × ByteArray => x.1.size ≤ 140737488355328 ∧ x.2.size ≤ 140737488355328) (fun s => ⟨Nat.le_trans (text_sz _) (by decide), Nat.le_trans (text_sz _) (by decide)⟩) _ _
theorem tk6_fit (s : RS) : ∀ x ∈ (tk6 s).1, x.n.size ≤ 140737488355328 ∧ (∀ y ∈ x.r, y.fit) ∧ (∀ y ∈ x.l, y.fit) :=
  tkN_all (f := tkP) (P := fun x : Pt => x.n.size ≤ 140737488355328 ∧ (∀ y ∈ x.r, y.fit) ∧ (∀ y ∈ x.l, y.fit)) (fun s => ⟨Nat.le_trans (text_sz _) (by decide), tkAms_fit _, tkAms_fit _⟩) _ _
theorem tkO_fit (s : RS) : (tkO s).Fit := by
  have hb : 0 ≤ c8 (tk3 s).2.byte.1 ∧ c8 (tk3 s).2.byte.1 ≤ 255 := by unfold c8; have := (tk3 s).2.byte.1.toNat_lt; omega
  have t1 := text_sz s
  have t2 := text_sz (tk1 s)
  have t3 := tk3_fit s
  have t6 := tk6_fit s
  have w1 := wrap_fit ((tk4 s).uint.1 : Int)
  have w2 := wrap_fit ((tk6 s).2.uint.1 : Int)
  unfold tkO
  generalize (tk3 s).1 = A at t3 ⊢
  generalize (tk6 s).1 = B at t6 ⊢
  generalize c8 (tk3 s).2.byte.1 = C at hb ⊢
  generalize wrap64 ((tk4 s).uint.1 : Int) = D at w1 ⊢
  generalize wrap64 ((tk6 s).2.uint.1 : Int) = E at w2 ⊢
  generalize txt (s.text 8192).1 = F at t1 ⊢
  generalize txt ((tk1 s).text 8192).1 = G at t2 ⊢
  exact ⟨⟨by show F.size ≤ _; omega, by show G.size ≤ _; omega⟩, t3, t6, by show _ ≤ C; omega, by show C ≤ _; omega, w1.1, w1.2, w2.1, w2.2⟩
theorem load_obj {w : World} {g : Nat} {a : Array Value} (h : w.heap[g]? = some (.cells a 25 (0, 0))) (hs : a.size = 7) : (loadVar 25 ⟨g, 0, none⟩).run Tryz.prog w = .ok (.agg a) w :=
  run_loadVar_row w g _ _ _ _ _ h Tryz.underlying25 rfl (by rw [hs]; exact size_obj)
theorem results_ob {fn : Func} {p u : Tmp} {ty : TypeId} (h : fn.results = #[.cell p ty, .tmp u]) (tmps : Array Value) (w : World) (ad : Addr) (x : Value) (hp : tmps.getD p undef = .pointer (some ad)) (hl : (loadVar ty ad).run Tryz.prog w = .ok x w) :
    (results fn tmps).run Tryz.prog w = .ok (.tuple #[x, tmps.getD u undef]) w := by
  have hp' : tmps[p]?.getD undef = .pointer (some ad) := by simpa using hp
  simp [results, h, hp', asAddr, hl, Result.andThen]
set_option maxHeartbeats 8000000 in
set_option maxRecDepth 100000 in
theorem decoded_any (t : ByteArray) (w : World) (hm : L.HasM w) (ht : t.size ≤ 140737488355328) :
    Calls Tryz.prog 25 #[.string t, .func (.func 26) #[] #[], .func (.func 10) #[] #[]] w fun e w' => ∃ vl vp, e = .returned (.tuple #[(decR t).1.val vl vp, .int .i64 (decR t).2]) ∧ ObO w.heap.size w' vl vp (decR t).1 ∧ Below w.heap.size w w' := by
  obtain ⟨X0, hX0⟩ : ∃ X0, X0 = w.alloc (.cells #[.string ⟨#[]⟩, .string ⟨#[]⟩, .slice none 0 0, .int .i64 0, .int .i64 0, .slice none 0 0, .int .i64 0] 25) := ⟨_, rfl⟩
  have AX : Hid (Below w.heap.size w X0 ∧ X0.heap.size = w.heap.size + 1 ∧ X0.heap[w.heap.size]? = some (.cells #[.string ⟨#[]⟩, .string ⟨#[]⟩, .slice none 0 0, .int .i64 0, .int .i64 0, .slice none 0 0, .int .i64 0] 25 (0, 0))) := Lib.hid (by
    rw [hX0]; exact ⟨(Below.refl _ w).alloc (Nat.le_refl _) _, by simp, by rw [heap_alloc_new]⟩)
  obtain ⟨cap, w1, hcv, hb1, hby⟩ := conv_text X0 t ht
  have HM := Lib.hid hm
  have C1 : Aside (Below X0.heap.size X0 w1 ∧ Bytes w1 (.slice (some ⟨X0.heap.size, 0, none⟩) t.size cap) t.data.toList) := ⟨hb1, hby⟩
  have hX0' := hX0.symm
  clear hb1 hby hX0 hm
  go_enter Tryz.func25, Tryz.ntmps25
  go_wp2_with fail
  clear hX0'
  refine (newReader_any _ t.data.toList w1 C1.out.2 (by rw [str_size]; omega)).mono ?_
  rintro e w2 ⟨g, rfl, hr, hg, hb⟩
  have hw1 := C1.out.1.size
  have h1 := AX.out.2.1
  have R2 : Aside (RAt w2 g ⟨t.data.toList, 0⟩ ∧ w.heap.size + 1 ≤ g ∧ Below (w.heap.size + 1) X0 w2) := ⟨hr, by omega, (C1.out.1.mono (by omega)).trans (hb.mono (by omega))⟩
  clear hr hg hb C1 hcv hw1 h1
  go_wp2_with fail
  refine (rByte_any g _ w2 R2.out.1).mono ?_
  rintro e w3 ⟨rfl, hl⟩
  have R3 : Aside (RAt w3 g (RS.byte ⟨t.data.toList, 0⟩).2 ∧ w.heap.size + 1 ≤ g ∧ Below (w.heap.size + 1) X0 w3) := ⟨hl.1, R2.out.2.1, R2.out.2.2.trans (hl.2.below (by have := R2.out.2.2.size; have := AX.out.2.1; omega) (fun x hx => by rw [hx]; exact R2.out.2.1))⟩
  clear hl R2
  go_wp2_with fail
  refine (rByte_any g _ w3 R3.out.1).mono ?_
  rintro e w4 ⟨rfl, hl⟩
  have R4 : Aside (RAt w4 g (rs2 t) ∧ w.heap.size + 1 ≤ g ∧ Below (w.heap.size + 1) X0 w4) := ⟨hl.1, R3.out.2.1, R3.out.2.2.trans (hl.2.below (by have := R3.out.2.2.size; have := AX.out.2.1; omega) (fun x hx => by rw [hx]; exact R3.out.2.1))⟩
  clear hl R3
  go_wp2_with fail
  refine (takeObject_any g _ w4 R4.out.1).mono ?_
  rintro e w5 ⟨vl, vp, rfl, hv, _, hk⟩
  obtain ⟨la, lc, rfl, _, _⟩ := hv.obv.l.len
  obtain ⟨pa, pc, rfl, _, _⟩ := hv.obv.p.len
  obtain ⟨o, ho⟩ : ∃ o, o = tkO (rs2 t) := ⟨_, rfl⟩
  rw [← ho] at hv ⊢
  obtain ⟨ln, hln⟩ : ∃ ln, ln = o.ls.length := ⟨_, rfl⟩
  obtain ⟨pn, hpn⟩ : ∃ pn, pn = o.ps.length := ⟨_, rfl⟩
  rw [← hln, ← hpn] at hv ⊢
  have R5 : Aside (Below (w.heap.size + 1) X0 w5 ∧ ObO (w.heap.size + 1) w5 (.slice la ln lc) (.slice pa pn pc) o) := ⟨R4.out.2.2.trans (hk.below (by have := R4.out.2.2.size; have := AX.out.2.1; omega) (fun x hx => by rw [hx]; exact R4.out.2.1)), hv.mono (by have := R4.out.2.2.size; have := AX.out.2.1; omega)⟩
  have HO : Aside (o = dcO t ∧ o.Fit) := ⟨ho, by rw [ho]; exact tkO_fit _⟩
  clear hv hk R4 ho hln hpn
  unfold Ob.val
  obtain ⟨X5, hX5⟩ : ∃ X5, X5 = w5.alloc (.cells #[.string o.p, .string o.n, .slice la ln lc, .int .i64 o.pr, .int .i64 o.dl, .slice pa pn pc, .int .i64 o.ver] 25) := ⟨_, rfl⟩
  obtain ⟨b9, hb9⟩ : ∃ b9, b9 = w5.heap.size := ⟨_, rfl⟩
  have A5 : Hid (Below w5.heap.size w5 X5 ∧ X5.heap[b9]? = some (.cells #[.string o.p, .string o.n, .slice la ln lc, .int .i64 o.pr, .int .i64 o.dl, .slice pa pn pc, .int .i64 o.ver] 25 (0, 0))) := Lib.hid (by
    rw [hX5, hb9]; exact ⟨(Below.refl _ _).alloc (Nat.le_refl _) _, by rw [heap_alloc_new]⟩)
  have cc : ∀ i y, (#[.string o.p, .string o.n, .slice la ln lc, .int .i64 o.pr, .int .i64 o.dl, .slice pa pn pc, .int .i64 o.ver] : Array Value)[i]? = some y → X5.cell? ⟨b9, i, none⟩ = some y := fun i y hy => by
    rw [cell_of_row X5 b9 i _ _ _ A5.out.2]; exact hy
  have CC := Lib.hid cc
  have k0 := CC.out 0 _ rfl
  have k1 := CC.out 1 _ rfl
  have k2 := CC.out 2 _ rfl
  have k3 := CC.out 3 _ rfl
  have k4 := CC.out 4 _ rfl
  have k5 := CC.out 5 _ rfl
  have k6 := CC.out 6 _ rfl
  have V5 : Hid (ObO (w.heap.size + 1) X5 (.slice la ln lc) (.slice pa pn pc) o) := Lib.hid (R5.out.2.below A5.out.1)
  have B5 : Hid (Below (w.heap.size + 1) X0 X5) := Lib.hid (R5.out.1.trans (A5.out.1.mono (by have := R5.out.1.size; have := AX.out.2.1; omega)))
  have BW : ∀ (Z : World), Below (w.heap.size + 1) X0 Z → Below w.heap.size w Z := fun Z hz => AX.out.1.trans (hz.mono (Nat.le_succ _))
  have HB := Lib.hid BW
  have EN := Lib.hid (encode_any o _ _ X5 (HM.out.below (BW _ B5.out)) V5.out.obv HO.out.2)
  have hX5' := hX5.symm
  have hb9' := hb9.symm
  clear hX5 hb9 cc BW
  unfold Ob.val at EN
  go_wp2_with fail
  refine EN.out.mono ?_
  rintro e w6 ⟨rfl, hb⟩
  have B6 := Lib.hid hb
  clear hb EN hX5' k0 k1 k2 k3 k4 k5 k6
  have B6' : Hid (Below (w.heap.size + 1) X0 w6) := Lib.hid (B5.out.trans (B6.out.mono (by have := B5.out.size; have := AX.out.2.1; omega)))
  have Z6 : Hid (w6.heap[w.heap.size]? = some (.cells #[.string ⟨#[]⟩, .string ⟨#[]⟩, .slice none 0 0, .int .i64 0, .int .i64 0, .slice none 0 0, .int .i64 0] 25 (0, 0))) := Lib.hid (by rw [B6'.out.block w.heap.size (by omega)]; exact AX.out.2.2)
  have ON : Hid ((#[.string o.p, .string o.n, .slice la ln lc, .int .i64 o.pr, .int .i64 o.dl, .slice pa pn pc, .int .i64 o.ver] : Array Value).all (·.oneCell') = true) := Lib.hid (by simp [Value.oneCell'])
  have ONZ : Hid ((#[.string ⟨#[]⟩, .string ⟨#[]⟩, .slice none 0 0, .int .i64 0, .int .i64 0, .slice none 0 0, .int .i64 0] : Array Value).all (·.oneCell') = true) := Lib.hid (by simp [Value.oneCell'])
  obtain ⟨T, hT⟩ : ∃ T, T = (obR o).1 := ⟨_, rfl⟩
  obtain ⟨C, hC⟩ : ∃ C, C = (obR o).2 := ⟨_, rfl⟩
  rw [← hT, ← hC]
  have EO : Aside (obR (dcO t) = (T, C)) := by show _ = _; rw [← HO.out.1, hT, hC]
  clear hT hC
  have NO : Aside (¬ (T, C) = (t, 0) → decR t = (Ob.z, 2)) := fun q => by unfold decR; rw [EO.out, if_neg q]
  have noend : Hid (∀ {Z : World} {K : Prop}, Below w6.heap.size w6 Z → True) := Lib.hid fun _ => trivial
  clear noend
  by_cases hE : C = 0
  · subst hE
    by_cases hq : T = t
    · have E : Aside (decR t = (o, 0)) := by
        show _ = _
        unfold decR
        rw [EO.out, hq, if_pos rfl, HO.out.1]
      have g1 : (T.toList == t.toList) = true := by rw [hq]; simp
      clear hq NO
      have k0 := (B6.out.cell (block_lt_of_cell (CC.out 0 _ rfl))).trans (CC.out 0 _ rfl)
      have k1 := (B6.out.cell (block_lt_of_cell (CC.out 1 _ rfl))).trans (CC.out 1 _ rfl)
      have k2 := (B6.out.cell (block_lt_of_cell (CC.out 2 _ rfl))).trans (CC.out 2 _ rfl)
      have k3 := (B6.out.cell (block_lt_of_cell (CC.out 3 _ rfl))).trans (CC.out 3 _ rfl)
      have k4 := (B6.out.cell (block_lt_of_cell (CC.out 4 _ rfl))).trans (CC.out 4 _ rfl)
      have k5 := (B6.out.cell (block_lt_of_cell (CC.out 5 _ rfl))).trans (CC.out 5 _ rfl)
      have k6 := (B6.out.cell (block_lt_of_cell (CC.out 6 _ rfl))).trans (CC.out 6 _ rfl)
      go_wp2_with (refine wpList_store_row rfl 25 (.tmp 6) (.tmp 37) rfl w.heap.size #[.string o.p, .string o.n, .slice la ln lc, .int .i64 o.pr, .int .i64 o.dl, .slice pa pn pc, .int .i64 o.ver] rfl rfl 25 #[.string ⟨#[]⟩, .string ⟨#[]⟩, .slice none 0 0, .int .i64 0, .int .i64 0, .slice none 0 0, .int .i64 0] Z6.out size_obj rfl ON.out ?_)
      have hk := kept_setRow w6 w.heap.size #[.string o.p, .string o.n, .slice la ln lc, .int .i64 o.pr, .int .i64 o.dl, .slice pa pn pc, .int .i64 o.ver]
      refine bodyPost_ret (results_ob rfl _ _ ⟨w.heap.size, 0, none⟩ (.agg #[.string o.p, .string o.n, .slice la ln lc, .int .i64 o.pr, .int .i64 o.dl, .slice pa pn pc, .int .i64 o.ver]) rfl (load_obj (setRow_heap _ _ _ _ _ _ Z6.out) rfl)) rfl ?_
      refine ⟨.slice la ln lc, .slice pa pn pc, by rw [E.out]; rfl, ?_, (HB.out _ B6'.out).trans (hk.below (HB.out _ B6'.out).size (fun x hx => by omega))⟩
      rw [E.out]
      exact ((V5.out.below B6.out).kept hk (fun k e => by omega)).mono (Nat.le_succ _)
    · have E : Aside (decR t = (Ob.z, 2)) := NO.out (fun q => hq (congrArg Prod.fst q))
      have g1 : (T.toList == t.toList) = false := by
        rw [beq_eq_false_iff_ne]; intro q; exact hq (same_of_list q)
      clear hq NO
      have ZA : Hid ((w6.alloc (.cells #[.string ⟨#[]⟩, .string ⟨#[]⟩, .slice none 0 0, .int .i64 0, .int .i64 0, .slice none 0 0, .int .i64 0] 25)).heap[w.heap.size]? = some (.cells #[.string ⟨#[]⟩, .string ⟨#[]⟩, .slice none 0 0, .int .i64 0, .int .i64 0, .slice none 0 0, .int .i64 0] 25 (0, 0))) := Lib.hid (by rw [Below.heap_alloc _ _ _ (lt_of_some Z6.out)]; exact Z6.out)
      go_wp2_with (refine wpList_store_row rfl 25 (.tmp 6) (.tmp 36) rfl w.heap.size #[.string ⟨#[]⟩, .string ⟨#[]⟩, .slice none 0 0, .int .i64 0, .int .i64 0, .slice none 0 0, .int .i64 0] rfl rfl 25 #[.string ⟨#[]⟩, .string ⟨#[]⟩, .slice none 0 0, .int .i64 0, .int .i64 0, .slice none 0 0, .int .i64 0] ZA.out size_obj rfl ONZ.out ?_)
      have hk := kept_setRow (w6.alloc (.cells #[.string ⟨#[]⟩, .string ⟨#[]⟩, .slice none 0 0, .int .i64 0, .int .i64 0, .slice none 0 0, .int .i64 0] 25)) w.heap.size #[.string ⟨#[]⟩, .string ⟨#[]⟩, .slice none 0 0, .int .i64 0, .int .i64 0, .slice none 0 0, .int .i64 0]
      have BZ : Below w.heap.size w (w6.alloc (.cells #[.string ⟨#[]⟩, .string ⟨#[]⟩, .slice none 0 0, .int .i64 0, .int .i64 0, .slice none 0 0, .int .i64 0] 25)) := (HB.out _ B6'.out).trans (((Below.refl _ w6).alloc (Nat.le_refl _) _).mono (HB.out _ B6'.out).size)
      refine bodyPost_ret (results_ob rfl _ _ ⟨w.heap.size, 0, none⟩ (.agg #[.string ⟨#[]⟩, .string ⟨#[]⟩, .slice none 0 0, .int .i64 0, .int .i64 0, .slice none 0 0, .int .i64 0]) rfl (load_obj (setRow_heap _ _ _ _ _ _ ZA.out) rfl)) rfl ?_
      refine ⟨.slice none 0 0, .slice none 0 0, by rw [E.out]; rfl, by rw [E.out]; exact ObO.zero _ _, BZ.trans (hk.below BZ.size (fun x hx => by omega))⟩
  · have E : Aside (decR t = (Ob.z, 2)) := NO.out (fun q => hE (congrArg Prod.snd q))
    have h1 : ¬ (C : Int) = 0 := by omega
    have g1 : ((C : Int) != 0) = true := by rw [bne_iff_ne]; exact h1
    clear NO hE
    have ZA : Hid ((w6.alloc (.cells #[.string ⟨#[]⟩, .string ⟨#[]⟩, .slice none 0 0, .int .i64 0, .int .i64 0, .slice none 0 0, .int .i64 0] 25)).heap[w.heap.size]? = some (.cells #[.string ⟨#[]⟩, .string ⟨#[]⟩, .slice none 0 0, .int .i64 0, .int .i64 0, .slice none 0 0, .int .i64 0] 25 (0, 0))) := Lib.hid (by rw [Below.heap_alloc _ _ _ (lt_of_some Z6.out)]; exact Z6.out)
    go_wp2_with (refine wpList_store_row rfl 25 (.tmp 6) (.tmp 36) rfl w.heap.size #[.string ⟨#[]⟩, .string ⟨#[]⟩, .slice none 0 0, .int .i64 0, .int .i64 0, .slice none 0 0, .int .i64 0] rfl rfl 25 #[.string ⟨#[]⟩, .string ⟨#[]⟩, .slice none 0 0, .int .i64 0, .int .i64 0, .slice none 0 0, .int .i64 0] ZA.out size_obj rfl ONZ.out ?_)
    have hk := kept_setRow (w6.alloc (.cells #[.string ⟨#[]⟩, .string ⟨#[]⟩, .slice none 0 0, .int .i64 0, .int .i64 0, .slice none 0 0, .int .i64 0] 25)) w.heap.size #[.string ⟨#[]⟩, .string ⟨#[]⟩, .slice none 0 0, .int .i64 0, .int .i64 0, .slice none 0 0, .int .i64 0]
    have BZ : Below w.heap.size w (w6.alloc (.cells #[.string ⟨#[]⟩, .string ⟨#[]⟩, .slice none 0 0, .int .i64 0, .int .i64 0, .slice none 0 0, .int .i64 0] 25)) := (HB.out _ B6'.out).trans (((Below.refl _ w6).alloc (Nat.le_refl _) _).mono (HB.out _ B6'.out).size)
    refine bodyPost_ret (results_ob rfl _ _ ⟨w.heap.size, 0, none⟩ (.agg #[.string ⟨#[]⟩, .string ⟨#[]⟩, .slice none 0 0, .int .i64 0, .int .i64 0, .slice none 0 0, .int .i64 0]) rfl (load_obj (setRow_heap _ _ _ _ _ _ ZA.out) rfl)) rfl ?_
    refine ⟨.slice none 0 0, .slice none 0 0, by rw [E.out]; rfl, by rw [E.out]; exact ObO.zero _ _, BZ.trans (hk.below BZ.size (fun x hx => by omega))⟩
set_option maxHeartbeats 2000000 in
theorem decode_any (t : ByteArray) (w : World) (hm : L.HasM w) (ht : t.size ≤ 140737488355328) :
    Calls Tryz.prog 12 #[.string t] w fun e w' => ∃ vl vp, e = .returned (.tuple #[(decR t).1.val vl vp, .int .i64 (decR t).2]) ∧ ObO w.heap.size w' vl vp (decR t).1 ∧ Below w.heap.size w w' := by
  obtain ⟨X0, hX0⟩ : ∃ X0, X0 = w.alloc (.cells #[.string ⟨#[]⟩, .string ⟨#[]⟩, .slice none 0 0, .int .i64 0, .int .i64 0, .slice none 0 0, .int .i64 0] 25) := ⟨_, rfl⟩
  have AX : Hid (Below w.heap.size w X0 ∧ X0.heap.size = w.heap.size + 1 ∧ X0.heap[w.heap.size]? = some (.cells #[.string ⟨#[]⟩, .string ⟨#[]⟩, .slice none 0 0, .int .i64 0, .int .i64 0, .slice none 0 0, .int .i64 0] 25 (0, 0))) := Lib.hid (by
    rw [hX0]; exact ⟨(Below.refl _ w).alloc (Nat.le_refl _) _, by simp, by rw [heap_alloc_new]⟩)
  have DE := Lib.hid (decoded_any t X0 (hm.below AX.out.1) ht)
  have hX0' := hX0.symm
  clear hX0 hm
  go_enter Tryz.func12, Tryz.ntmps12
  go_wp2_with fail
  clear hX0'
  refine DE.out.mono ?_
  rintro e w1 ⟨vl, vp, rfl, hv, hb⟩
  obtain ⟨la, lc, rfl, _, _⟩ := hv.obv.l.len
  obtain ⟨pa, pc, rfl, _, _⟩ := hv.obv.p.len
  obtain ⟨o, ho⟩ : ∃ o, o = (decR t).1 := ⟨_, rfl⟩
  rw [← ho] at hv ⊢
  obtain ⟨ln, hln⟩ : ∃ ln, ln = o.ls.length := ⟨_, rfl⟩
  obtain ⟨pn, hpn⟩ : ∃ pn, pn = o.ps.length := ⟨_, rfl⟩
  rw [← hln, ← hpn] at hv ⊢
  have V1 := Lib.hid hv
  have B1 := Lib.hid hb
  have Z1 : Hid (w1.heap[w.heap.size]? = some (.cells #[.string ⟨#[]⟩, .string ⟨#[]⟩, .slice none 0 0, .int .i64 0, .int .i64 0, .slice none 0 0, .int .i64 0] 25 (0, 0))) := Lib.hid (by rw [hb.block w.heap.size (by have := AX.out.2.1; omega)]; exact AX.out.2.2)
  have ON : Hid ((#[.string o.p, .string o.n, .slice la ln lc, .int .i64 o.pr, .int .i64 o.dl, .slice pa pn pc, .int .i64 o.ver] : Array Value).all (·.oneCell') = true) := Lib.hid (by simp [Value.oneCell'])
  have HO : Aside ((decR t).1 = o) := ho.symm
  clear hv hb ho hln hpn DE
  unfold Ob.val
  go_wp2_with (refine wpList_store_row rfl 25 (.tmp 2) (.tmp 6) rfl w.heap.size #[.string o.p, .string o.n, .slice la ln lc, .int .i64 o.pr, .int .i64 o.dl, .slice pa pn pc, .int .i64 o.ver] rfl rfl 25 #[.string ⟨#[]⟩, .string ⟨#[]⟩, .slice none 0 0, .int .i64 0, .int .i64 0, .slice none 0 0, .int .i64 0] Z1.out size_obj rfl ON.out ?_)
  have hk := kept_setRow w1 w.heap.size #[.string o.p, .string o.n, .slice la ln lc, .int .i64 o.pr, .int .i64 o.dl, .slice pa pn pc, .int .i64 o.ver]
  have BW : Below w.heap.size w w1 := AX.out.1.trans (B1.out.mono AX.out.1.size)
  refine bodyPost_ret (results_ob rfl _ _ ⟨w.heap.size, 0, none⟩ (.agg #[.string o.p, .string o.n, .slice la ln lc, .int .i64 o.pr, .int .i64 o.dl, .slice pa pn pc, .int .i64 o.ver]) rfl (load_obj (setRow_heap _ _ _ _ _ _ Z1.out) rfl)) rfl ?_
  refine ⟨.slice la ln lc, .slice pa pn pc, by rw [HO.out]; rfl, by rw [HO.out]; exact (V1.out.kept hk (fun k e => by have := AX.out.2.1; omega)).mono AX.out.1.size, BW.trans (hk.below BW.size (fun x hx => by omega))⟩
end Go.Proofs.YtehgnbgbmicheaaGreatDoor
