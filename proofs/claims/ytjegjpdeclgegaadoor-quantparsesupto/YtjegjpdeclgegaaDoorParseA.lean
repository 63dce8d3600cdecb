/-
  Parse of every text.
-/
import Derived.Test.YtjegjpdeclgegaaDoorTimesU
import Derived.Test.YtjegjpdeclgegaaDoorParseD
import Derived.Test.YtjegjpdeclgegaaDoorFacB
namespace Go.Proofs.YtjegjpdeclgegaaDoor
open Go.RowKit Go.Lib
def pW (t : ByteArray) : List UInt8 := dgs t.data.toList
def pR (t : ByteArray) : List UInt8 := rst t.data.toList
def pD (t : ByteArray) : Bool := hasPrefix (pR t) [46]
def pB (t : ByteArray) : List UInt8 := trimPrefix (pR t) [46]
def pP (t : ByteArray) : List UInt8 := if pD t = true then dgs (pB t) else []
def pS (t : ByteArray) : List UInt8 := if pD t = true then rst (pB t) else pR t
noncomputable def pF (t : ByteArray) : Nat := facR ⟨(pS t).toArray⟩
def pOk (t : ByteArray) : Prop := pW t ≠ [] ∧ (pD t = true → pP t ≠ []) ∧ pF t ≠ 0 ∧ (pW t).length + (pP t).length ≤ 19
open Classical in
noncomputable def parseR (t : ByteArray) : Int × Int := if pOk t then timesT (numOf (pW t ++ pP t) * pF t) (10 ^ (pP t).length) else (0, 30)
theorem pP_range (t : ByteArray) : ∀ c ∈ pP t, 48 ≤ c.toNat ∧ c.toNat ≤ 57 := by
  intro c hc
  unfold pP at hc
  split at hc
  · exact dgs_range _ c hc
  · simp at hc
theorem trimPrefix_len (l x : List UInt8) : (trimPrefix l x).length ≤ l.length := by
  unfold trimPrefix
  split <;> simp
theorem pW_len (t : ByteArray) : (pW t).length ≤ t.data.toList.length := by
  have := dgs_len t.data.toList
  unfold pW
  omega
theorem pP_len (t : ByteArray) : (pP t).length ≤ t.data.toList.length := by
  unfold pP
  split
  · have h1 := dgs_len (pB t)
    have h2 : (pB t).length ≤ (pR t).length := trimPrefix_len _ _
    have h3 := dgs_len t.data.toList
    have h4 : (pR t).length = (rst t.data.toList).length := rfl
    omega
  · simp
theorem rst_size (t : ByteArray) : (⟨(rst t.data.toList).toArray⟩ : ByteArray).size ≤ t.size := by
  show (rst t.data.toList).toArray.size ≤ t.size
  rw [List.size_toArray]
  have := dgs_len t.data.toList
  have hs : t.data.toList.length = t.size := by simp
  omega
theorem cut_all (t : ByteArray) (ht : t.size ≤ 140737488355328) (w : World) : Calls Tryd.prog 16 #[.string t] w fun e w' => e = .returned (.tuple #[.string ⟨(dgs t.data.toList).toArray⟩, .string ⟨(rst t.data.toList).toArray⟩]) ∧ Below w.heap.size w w' :=
  cut_at t ⟨(dgs t.data.toList).toArray⟩ ⟨(rst t.data.toList).toArray⟩ (show trimLeftS t.data.toList digs.data.toList = (rst t.data.toList).toArray.toList from by rw [List.toList_toArray]; rfl) (dgs_cut t) (rst_size t) ht w
set_option maxHeartbeats 8000000 in
set_option maxRecDepth 100000 in
theorem parse_any (t : ByteArray) (ht : t.size ≤ 140737488355328) (w : World) (h : Suf w) :
    Calls Tryd.prog 8 #[.string t] w fun e w' => e = .returned (.tuple #[.int .i64 (parseR t).1, .int .i64 (parseR t).2]) ∧ Below w.heap.size w w' := by
  have H : Hid (Suf w) := Lib.hid h
  clear h
  obtain ⟨d, hd⟩ : ∃ d : ByteArray, d = ⟨(pW t).toArray⟩ := ⟨_, rfl⟩
  obtain ⟨r, hr⟩ : ∃ r : ByteArray, r = ⟨(pR t).toArray⟩ := ⟨_, rfl⟩
  have RZ : Hid (r.size ≤ 140737488355328) := Lib.hid (by
    have := dgs_len t.data.toList
    rw [hr]
    show (rst t.data.toList).toArray.size ≤ _
    rw [List.size_toArray]
    have hs : t.data.toList.length = t.size := by simp
    omega)
  have CA : Hid (Calls Tryd.prog 16 #[.string t] w fun e w' => e = .returned (.tuple #[.string d, .string r]) ∧ Below w.heap.size w w') := Lib.hid (by rw [hd, hr]; exact cut_all t ht w)
  have hlr : r.data.toList = pR t := by rw [hr]
  have HR := Lib.hid hlr
  have HDd := Lib.hid hd
  have TZ : Hid ((pW t).length ≤ 140737488355328 ∧ (pP t).length ≤ 140737488355328) := Lib.hid (by
    have hs : t.data.toList.length = t.size := by simp
    exact ⟨by have := pW_len t; omega, by have := pP_len t; omega⟩)
  clear hd hr hlr ht
  go_enter Tryd.func8, Tryd.ntmps8
  go_wp2_with fail
  refine CA.out.mono ?_
  rintro e w1 ⟨rfl, hb⟩
  have B1 : Hid (Below w.heap.size w w1) := Lib.hid hb
  clear hb CA
  go_wp2_with fail
  refine (Tryd.strings_CutPrefix r ⟨#[46]⟩ w1).mono ?_
  rintro e w2 ⟨rfl, rfl⟩
  cases hD : pD t with
  | false =>
    have HD := Lib.hid hD
    rw [show hasPrefix r.data.toList (⟨#[46]⟩ : ByteArray).data.toList = false from by rw [HR.out]; exact hD]
    clear hD
    obtain ⟨n, hn⟩ : ∃ n, n = facR r := ⟨_, rfl⟩
    have FA : Hid (∀ W, Below w.heap.size w W → Calls Tryd.prog 18 #[.string r] W fun e w' => e = .returned (.int .u64 (n : Int)) ∧ Below W.heap.size W w') := Lib.hid fun W hb => by rw [hn]; exact factor_all r W (H.out.below hb)
    have D : Hid (d = ⟨(pW t).toArray⟩ ∧ (⟨#[]⟩ : ByteArray) = ⟨(pP t).toArray⟩ ∧ n = pF t ∧ True) := Lib.hid ⟨HDd.out, by unfold pP; rw [HD.out]; rfl, by
      rw [hn]; unfold pF pS; rw [HD.out]
      congr 1
      cases r
      simp only [ByteArray.mk.injEq]
      have := HR.out
      simp only at this
      rw [if_neg (by decide), ← this], trivial⟩
    clear hn
    go_wp2_with fail
    refine (FA.out _ B1.out).mono ?_
    rintro e w3 ⟨rfl, hb⟩
    have B3 : Hid (Below w.heap.size w w3) := Lib.hid (B1.out.trans (hb.mono B1.out.size))
    clear hb FA
    by_cases c1 : pW t = []
    · have em : d.toList.isEmpty = true := by rw [ByteArray.toList_eq, D.out.1]; show (pW t).toArray.toList.isEmpty = true; rw [c1]; rfl
      have E : Hid (parseR t = (0, 30)) := Lib.hid (by unfold parseR; rw [if_neg]; rintro ⟨h, -⟩; exact h c1)
      go_wp2_with fail
      go_ret2
      exact ⟨by rw [E.out]; rfl, B3.out⟩
    · have em : d.toList.isEmpty = false := by
        rw [ByteArray.toList_eq, D.out.1]
        show (pW t).toArray.toList.isEmpty = false
        rw [List.toList_toArray]
        cases h : pW t with
        | nil => exact absurd h c1
        | cons _ _ => rfl
      by_cases c3 : n = 0
      · have n0 : ((n : Int) == 0) = true := by rw [c3]; rfl
        have C3 := Lib.hid c3
        clear c3
        have E : Hid (parseR t = (0, 30)) := Lib.hid (by unfold parseR; rw [if_neg]; rintro ⟨-, -, h, -⟩; exact h (by rw [← D.out.2.2.1]; exact C3.out))
        go_wp2_with fail
        go_ret2
        exact ⟨by rw [E.out]; rfl, B3.out⟩
      · have n0 : ((n : Int) == 0) = false := by rw [beq_eq_false_iff_ne]; omega
        have SZ : Hid (d.size = (pW t).length ∧ (⟨#[]⟩ : ByteArray).size = (pP t).length) := Lib.hid ⟨by rw [D.out.1]; simp [ByteArray.size], by rw [D.out.2.1]; simp [ByteArray.size]⟩
        by_cases c4 : d.size + (⟨#[]⟩ : ByteArray).size ≤ 19
        · have dg : decide ((d.size : Int) > 19) = false := by rw [decide_eq_false_iff_not]; have z : (⟨#[]⟩ : ByteArray).size = 0 := rfl; omega
          have OK : Hid (parseR t = timesT (numOf (pW t ++ pP t) * pF t) (10 ^ (pP t).length)) := Lib.hid (by unfold parseR; rw [if_pos]; exact ⟨c1, (fun h => by rw [HD.out] at h; cases h), (by rw [← D.out.2.2.1]; exact c3), (by rw [← SZ.out.1, ← SZ.out.2]; exact c4)⟩)
          obtain ⟨q, hq⟩ : ∃ q, q = d ++ (⟨#[]⟩ : ByteArray) := ⟨_, rfl⟩
          obtain ⟨cap, w4, hcv, hb, hcells⟩ := conv_bytes w3 (d ++ (⟨#[]⟩ : ByteArray))
          have QL : Hid (q.data.toList = pW t ++ pP t ∧ q.size = (pW t ++ pP t).length ∧ q.size ≤ 19 ∧ q = d ++ (⟨#[]⟩ : ByteArray)) := Lib.hid ⟨by rw [hq, ByteArray.data_append, Array.toList_append, D.out.1]; congr 1; exact D.out.2.1 ▸ rfl, by rw [hq, ByteArray.size_append, List.length_append, SZ.out.1, SZ.out.2], by rw [hq, ByteArray.size_append]; exact c4, hq⟩
          have B4 : Hid (Below w.heap.size w w4) := Lib.hid (B3.out.trans (hb.mono B3.out.size))
          have C4 : Hid (∀ k v, (q.data.toList.map fun b => (Value.int .u8 b.toNat))[k]? = some v → w4.cell? ⟨w3.heap.size, k, none⟩ = some v) := Lib.hid (by rw [hq]; exact hcells)
          rw [← hq] at hcv
          have RG : Hid (∀ c ∈ q.data.toList, 48 ≤ c.toNat ∧ c.toNat ≤ 57) := Lib.hid (by
            rw [QL.out.1]
            intro c hc
            rcases List.mem_append.1 hc with h | h
            · exact dgs_range _ c h
            · exact pP_range t c h)
          have sz : ¬ (9223372036854775807 < d.size + (⟨#[]⟩ : ByteArray).size) := by omega
          have q19 : q.size ≤ 19 := QL.out.2.2.1
          clear hcells hb c4 c3 c1 hq dg 
          have HQ := Lib.hid QL.out.2.2.2
          obtain ⟨m, hm⟩ : ∃ m, m = q.size := ⟨_, rfl⟩
          rw [← hm] at hcv q19
          have HM := Lib.hid hm
          clear hm
          have dg : decide ((d.size : Int) > 19) = false := by
            have e := HM.out
            rw [HQ.out, ByteArray.size_append] at e
            rw [decide_eq_false_iff_not]
            have z : (⟨#[]⟩ : ByteArray).size = 0 := rfl; omega
          rw [HQ.out] at hcv
          go_wp2_with fail
          go_loopg [10, 58] m (fun g sn si wr => ∃ (k : Nat), k ≤ m ∧ g = m - k ∧ sn = .int .u64 (numOf (q.data.toList.take k)) ∧ si = .int .i64 k ∧ w4 = wr)
          case atStart => exact ⟨0, by omega, rfl, rfl, rfl, rfl⟩
          case round =>
            obtain ⟨k, hk, hg, rfl, rfl, rfl⟩ := hrel
            have R : Aside (gk = m - k ∧ k ≤ m) := ⟨hg, hk⟩
            clear hg hk
            have LD : Hid (q.data.toList.length = m) := Lib.hid (by rw [HM.out]; simp)
            by_cases hlt : k < m
            · have hlt' : (k : Int) < (m : Int) := by omega
              have hc : q.data.toList[k]? = some (q.data.toList[k]'(by have := LD.out; omega)) := List.getElem?_eq_getElem _
              obtain ⟨c, hcc⟩ : ∃ c, c = q.data.toList[k]'(by have := LD.out; omega) := ⟨_, rfl⟩
              rw [← hcc] at hc
              have hbd := RG.out c (List.mem_of_getElem? hc)
              have hcell := C4.out k (.int .u8 c.toNat) (by rw [List.getElem?_map, hc]; rfl)
              have ST := take_step q.data.toList k c hc
              have XL := take_lt q.data.toList RG.out k (by have := LD.out; omega)
              have X2 : (10 : Nat) ^ k ≤ 10 ^ 18 := Nat.pow_le_pow_right (by omega) (by omega)
              have X3 : (10 : Nat) ^ 18 = 1000000000000000000 := by decide
              obtain ⟨x, hx⟩ : ∃ x, x = numOf (q.data.toList.take k) := ⟨_, rfl⟩
              obtain ⟨y, hy⟩ : ∃ y, y = numOf (q.data.toList.take (k + 1)) := ⟨_, rfl⟩
              obtain ⟨z, hz⟩ : ∃ z, z = c.toNat := ⟨_, rfl⟩
              rw [← hx] at XL ST ⊢
              rw [← hy, ← hz] at ST
              rw [← hz] at hcell hbd
              have Y : Aside (y = numOf (q.data.toList.take (k + 1)) ∧ y = x * 10 + (z - 48) ∧ 48 ≤ z ∧ z ≤ 57) := ⟨hy, ST, hbd.1, hbd.2⟩
              have x1 : (x : Int) < 1000000000000000000 := by omega
              have z1 : (48 : Int) ≤ (z : Int) := by omega
              have z2 : (z : Int) ≤ 57 := by omega
              clear hc hcc hbd ST XL X2 X3 hx hy hz
              go_wp2_with fail
              go_roundg (m - (k + 1))
              case measure => have := R.out.1; omega
              case rel => exact ⟨k + 1, by omega, rfl, by rw [← Y.out.1]; have := Y.out.2; congr 1; omega, by go_num, rfl⟩
            · obtain rfl : k = m := by have := R.out.2; omega
              have NU : Hid (numOf (q.data.toList.take k) = numOf (pW t ++ pP t)) := Lib.hid (by
                rw [List.take_of_length_le (by rw [LD.out]; exact Nat.le_refl _), QL.out.1])
              have ML : Hid (numOf (pW t ++ pP t) < 18446744073709551616) := Lib.hid (by
                have h1 := take_lt q.data.toList RG.out q.data.toList.length (Nat.le_refl _)
                rw [List.take_length, QL.out.1] at h1
                have h2 : (10 : Nat) ^ (pW t ++ pP t).length ≤ 10 ^ 19 := Nat.pow_le_pow_right (by omega) (by rw [← QL.out.2.1]; exact QL.out.2.2.1)
                have h3 : (10 : Nat) ^ 19 = 10000000000000000000 := by decide
                omega)
              obtain ⟨u, hu⟩ : ∃ u, u = numOf (pW t ++ pP t) := ⟨_, rfl⟩
              rw [NU.out, ← hu]
              have HU := Lib.hid hu
              clear hu
              have TM := Lib.hid (times_any u n 1 (by rw [HU.out]; exact ML.out) (by rw [D.out.2.2.1]; exact facR_lt _) (by decide) (by decide) w4)
              have RS : Hid (timesT (u * n) 1 = parseR t) := Lib.hid (by
                have e : (pP t).length = 0 := by rw [← SZ.out.2]; rfl
                rw [OK.out, HU.out, D.out.2.2.1, e])
              go_wp2_with fail
              refine wp_loop_rounds 1 ?_
              rw [rounds_succ]
              go_wp2_with fail
              refine TM.out.mono ?_
              rintro e w5 ⟨rfl, hb⟩
              have B5 : Hid (Below w.heap.size w w5) := Lib.hid (B4.out.trans (hb.mono B4.out.size))
              clear hb
              go_wp2_with fail
              go_ret2
              exact ⟨by rw [← RS.out]; rfl, B5.out⟩
        · have dl : (19 : Int) < (d.size : Int) := by have z : (⟨#[]⟩ : ByteArray).size = 0 := rfl; omega
          have dn : 19 < d.size := by omega
          have bd : (d.size : Int) ≤ 140737488355328 := by have := TZ.out.1; have := SZ.out.1; omega
        
          have dm : decide (19 < d.size) = true := decide_eq_true dn
          have dg : decide ((d.size : Int) > 19) = true := decide_eq_true dl
          have C4 := Lib.hid c4
          clear c4
          have E : Hid (parseR t = (0, 30)) := Lib.hid (by unfold parseR; rw [if_neg]; rintro ⟨-, -, -, h⟩; have := SZ.out; have := C4.out; omega)
          go_wp2_with fail
          go_ret2
          exact ⟨by rw [E.out]; rfl, B3.out⟩
  | true =>
    have HD := Lib.hid hD
    rw [show hasPrefix r.data.toList (⟨#[46]⟩ : ByteArray).data.toList = true from by rw [HR.out]; exact hD]
    clear hD
    obtain ⟨b, hbb⟩ : ∃ b : ByteArray, b = ⟨(trimPrefix r.data.toList (⟨#[46]⟩ : ByteArray).data.toList).toArray⟩ := ⟨_, rfl⟩
    rw [← hbb]
    have hlb : b.data.toList = pB t := by rw [hbb, HR.out]; rfl
    have BZ : Hid (b.size ≤ 140737488355328) := Lib.hid (by
      have h1 := RZ.out
      have h2 : b.size = (trimPrefix r.data.toList [46]).length := by rw [hbb]; simp [ByteArray.size]
      have h3 : (trimPrefix r.data.toList [46]).length ≤ r.data.toList.length := trimPrefix_len _ _
      have h4 : r.data.toList.length = r.size := by simp
      omega)
    obtain ⟨p, hp⟩ : ∃ p : ByteArray, p = ⟨(pP t).toArray⟩ := ⟨_, rfl⟩
    obtain ⟨s, hs⟩ : ∃ s : ByteArray, s = ⟨(pS t).toArray⟩ := ⟨_, rfl⟩
    have CB : Hid (∀ W, Calls Tryd.prog 16 #[.string b] W fun e w' => e = .returned (.tuple #[.string p, .string s]) ∧ Below W.heap.size W w') := Lib.hid fun W => by
      have q := cut_all b BZ.out W
      have e1 : p = ⟨(dgs b.data.toList).toArray⟩ := by rw [hp, hlb]; unfold pP; rw [HD.out]; rfl
      have e2 : s = ⟨(rst b.data.toList).toArray⟩ := by rw [hs, hlb]; unfold pS; rw [HD.out]; rfl
      rw [e1, e2]; exact q
    obtain ⟨n, hn⟩ : ∃ n, n = facR s := ⟨_, rfl⟩
    have FA : Hid (∀ W, Below w.heap.size w W → Calls Tryd.prog 18 #[.string s] W fun e w' => e = .returned (.int .u64 (n : Int)) ∧ Below W.heap.size W w') := Lib.hid fun W hb => by rw [hn]; exact factor_all s W (H.out.below hb)
    have D : Hid (d = ⟨(pW t).toArray⟩ ∧ p = ⟨(pP t).toArray⟩ ∧ n = pF t ∧ True) := Lib.hid ⟨HDd.out, hp, by rw [hn, hs]; rfl, trivial⟩
    clear hn hp hs hbb hlb
    go_wp2_with fail
    refine (CB.out _).mono ?_
    rintro e w2b ⟨rfl, hb⟩
    have B2 : Hid (Below w.heap.size w w2b) := Lib.hid (B1.out.trans (hb.mono B1.out.size))
    clear hb CB
    go_wp2_with fail
    refine (FA.out _ B2.out).mono ?_
    rintro e w3 ⟨rfl, hb⟩
    have B3 : Hid (Below w.heap.size w w3) := Lib.hid (B2.out.trans (hb.mono B2.out.size))
    clear hb FA
    by_cases c1 : pW t = []
    · have em : d.toList.isEmpty = true := by rw [ByteArray.toList_eq, D.out.1]; show (pW t).toArray.toList.isEmpty = true; rw [c1]; rfl
      have E : Hid (parseR t = (0, 30)) := Lib.hid (by unfold parseR; rw [if_neg]; rintro ⟨h, -⟩; exact h c1)
      go_wp2_with fail
      go_ret2
      exact ⟨by rw [E.out]; rfl, B3.out⟩
    · have em : d.toList.isEmpty = false := by
        rw [ByteArray.toList_eq, D.out.1]
        show (pW t).toArray.toList.isEmpty = false
        rw [List.toList_toArray]
        cases h : pW t with
        | nil => exact absurd h c1
        | cons _ _ => rfl
      by_cases c2 : pP t = []
      · have ep : p.toList.isEmpty = true := by rw [ByteArray.toList_eq, D.out.2.1]; show (pP t).toArray.toList.isEmpty = true; rw [c2]; rfl
        have E : Hid (parseR t = (0, 30)) := Lib.hid (by unfold parseR; rw [if_neg]; rintro ⟨-, h, -⟩; exact h HD.out c2)
        go_wp2_with fail
        go_ret2
        exact ⟨by rw [E.out]; rfl, B3.out⟩
      · have ep : p.toList.isEmpty = false := by
          rw [ByteArray.toList_eq, D.out.2.1]
          show (pP t).toArray.toList.isEmpty = false
          rw [List.toList_toArray]
          cases h : pP t with
          | nil => exact absurd h c2
          | cons _ _ => rfl
        by_cases c3 : n = 0
        · have n0 : ((n : Int) == 0) = true := by rw [c3]; rfl
          have C3 := Lib.hid c3
          clear c3
          have E : Hid (parseR t = (0, 30)) := Lib.hid (by unfold parseR; rw [if_neg]; rintro ⟨-, -, h, -⟩; exact h (by rw [← D.out.2.2.1]; exact C3.out))
          go_wp2_with fail
          go_ret2
          exact ⟨by rw [E.out]; rfl, B3.out⟩
        · have n0 : ((n : Int) == 0) = false := by rw [beq_eq_false_iff_ne]; omega
          have SZ : Hid (d.size = (pW t).length ∧ p.size = (pP t).length) := Lib.hid ⟨by rw [D.out.1]; simp [ByteArray.size], by rw [D.out.2.1]; simp [ByteArray.size]⟩
          by_cases c4 : d.size + p.size ≤ 19
          · have dg : decide ((d.size : Int) + (p.size : Int) > 19) = false := by rw [decide_eq_false_iff_not]; omega
            have OK : Hid (parseR t = timesT (numOf (pW t ++ pP t) * pF t) (10 ^ (pP t).length)) := Lib.hid (by unfold parseR; rw [if_pos]; exact ⟨c1, (fun _ => c2), (by rw [← D.out.2.2.1]; exact c3), (by rw [← SZ.out.1, ← SZ.out.2]; exact c4)⟩)
            obtain ⟨q, hq⟩ : ∃ q, q = d ++ p := ⟨_, rfl⟩
            obtain ⟨cap, w4, hcv, hb, hcells⟩ := conv_bytes w3 (d ++ p)
            have QL : Hid (q.data.toList = pW t ++ pP t ∧ q.size = (pW t ++ pP t).length ∧ q.size ≤ 19 ∧ q = d ++ p) := Lib.hid ⟨by rw [hq, ByteArray.data_append, Array.toList_append, D.out.1]; congr 1; exact D.out.2.1 ▸ rfl, by rw [hq, ByteArray.size_append, List.length_append, SZ.out.1, SZ.out.2], by rw [hq, ByteArray.size_append]; exact c4, hq⟩
            have B4 : Hid (Below w.heap.size w w4) := Lib.hid (B3.out.trans (hb.mono B3.out.size))
            have C4 : Hid (∀ k v, (q.data.toList.map fun b => (Value.int .u8 b.toNat))[k]? = some v → w4.cell? ⟨w3.heap.size, k, none⟩ = some v) := Lib.hid (by rw [hq]; exact hcells)
            rw [← hq] at hcv
            have RG : Hid (∀ c ∈ q.data.toList, 48 ≤ c.toNat ∧ c.toNat ≤ 57) := Lib.hid (by
              rw [QL.out.1]
              intro c hc
              rcases List.mem_append.1 hc with h | h
              · exact dgs_range _ c h
              · exact pP_range t c h)
            have sz : ¬ (9223372036854775807 < d.size + p.size) := by omega
            have q19 : q.size ≤ 19 := QL.out.2.2.1
            clear hcells hb c4 c3 c1 hq dg c2
            have HQ := Lib.hid QL.out.2.2.2
            obtain ⟨m, hm⟩ : ∃ m, m = q.size := ⟨_, rfl⟩
            rw [← hm] at hcv q19
            have HM := Lib.hid hm
            clear hm
            have dg : decide ((d.size : Int) + (p.size : Int) > 19) = false := by
              have e := HM.out
              rw [HQ.out, ByteArray.size_append] at e
              rw [decide_eq_false_iff_not]
              omega
            rw [HQ.out] at hcv
            go_wp2_with fail
            go_loopg [10, 58] m (fun g sn si wr => ∃ (k : Nat), k ≤ m ∧ g = m - k ∧ sn = .int .u64 (numOf (q.data.toList.take k)) ∧ si = .int .i64 k ∧ w4 = wr)
            case atStart => exact ⟨0, by omega, rfl, rfl, rfl, rfl⟩
            case round =>
              obtain ⟨k, hk, hg, rfl, rfl, rfl⟩ := hrel
              have R : Aside (gk = m - k ∧ k ≤ m) := ⟨hg, hk⟩
              clear hg hk
              have LD : Hid (q.data.toList.length = m) := Lib.hid (by rw [HM.out]; simp)
              by_cases hlt : k < m
              · have hlt' : (k : Int) < (m : Int) := by omega
                have hc : q.data.toList[k]? = some (q.data.toList[k]'(by have := LD.out; omega)) := List.getElem?_eq_getElem _
                obtain ⟨c, hcc⟩ : ∃ c, c = q.data.toList[k]'(by have := LD.out; omega) := ⟨_, rfl⟩
                rw [← hcc] at hc
                have hbd := RG.out c (List.mem_of_getElem? hc)
                have hcell := C4.out k (.int .u8 c.toNat) (by rw [List.getElem?_map, hc]; rfl)
                have ST := take_step q.data.toList k c hc
                have XL := take_lt q.data.toList RG.out k (by have := LD.out; omega)
                have X2 : (10 : Nat) ^ k ≤ 10 ^ 18 := Nat.pow_le_pow_right (by omega) (by omega)
                have X3 : (10 : Nat) ^ 18 = 1000000000000000000 := by decide
                obtain ⟨x, hx⟩ : ∃ x, x = numOf (q.data.toList.take k) := ⟨_, rfl⟩
                obtain ⟨y, hy⟩ : ∃ y, y = numOf (q.data.toList.take (k + 1)) := ⟨_, rfl⟩
                obtain ⟨z, hz⟩ : ∃ z, z = c.toNat := ⟨_, rfl⟩
                rw [← hx] at XL ST ⊢
                rw [← hy, ← hz] at ST
                rw [← hz] at hcell hbd
                have Y : Aside (y = numOf (q.data.toList.take (k + 1)) ∧ y = x * 10 + (z - 48) ∧ 48 ≤ z ∧ z ≤ 57) := ⟨hy, ST, hbd.1, hbd.2⟩
                have x1 : (x : Int) < 1000000000000000000 := by omega
                have z1 : (48 : Int) ≤ (z : Int) := by omega
                have z2 : (z : Int) ≤ 57 := by omega
                clear hc hcc hbd ST XL X2 X3 hx hy hz
                go_wp2_with fail
                go_roundg (m - (k + 1))
                case measure => have := R.out.1; omega
                case rel => exact ⟨k + 1, by omega, rfl, by rw [← Y.out.1]; have := Y.out.2; congr 1; omega, by go_num, rfl⟩
              · obtain rfl : k = m := by have := R.out.2; omega
                have NU : Hid (numOf (q.data.toList.take k) = numOf (pW t ++ pP t)) := Lib.hid (by
                  rw [List.take_of_length_le (by rw [LD.out]; exact Nat.le_refl _), QL.out.1])
                have ML : Hid (numOf (pW t ++ pP t) < 18446744073709551616) := Lib.hid (by
                  have h1 := take_lt q.data.toList RG.out q.data.toList.length (Nat.le_refl _)
                  rw [List.take_length, QL.out.1] at h1
                  have h2 : (10 : Nat) ^ (pW t ++ pP t).length ≤ 10 ^ 19 := Nat.pow_le_pow_right (by omega) (by rw [← QL.out.2.1]; exact QL.out.2.2.1)
                  have h3 : (10 : Nat) ^ 19 = 10000000000000000000 := by decide
                  omega)
                obtain ⟨u, hu⟩ : ∃ u, u = numOf (pW t ++ pP t) := ⟨_, rfl⟩
                rw [NU.out, ← hu]
                have HU := Lib.hid hu
                clear hu
                obtain ⟨pl, hpl⟩ : ∃ pl, pl = p.size := ⟨_, rfl⟩
                have PL : Hid (pl = p.size ∧ pl = (pP t).length ∧ pl ≤ 19) := Lib.hid ⟨hpl, by rw [hpl]; exact SZ.out.2, by
                  have e := QL.out.2.2.1
                  rw [QL.out.2.2.2, ByteArray.size_append] at e
                  omega⟩
                clear hpl
                go_wp2_with fail
                rw [← PL.out.1]
                have pl19 : pl ≤ 19 := PL.out.2.2
                go_loopg [11, 71] pl (fun g sd si wr => ∃ (j : Nat), j ≤ pl ∧ g = pl - j ∧ sd = .int .u64 ((10 ^ j : Nat) : Int) ∧ si = .int .i64 j ∧ w4 = wr)
                case atStart => exact ⟨0, by omega, rfl, rfl, rfl, rfl⟩
                case round =>
                  obtain ⟨j, hj, hgj, rfl, rfl, rfl⟩ := hrel
                  have RJ : Aside (gk = pl - j ∧ j ≤ pl) := ⟨hgj, hj⟩
                  clear hgj hj
                  by_cases hltj : j < pl
                  · have hltj' : (j : Int) < (pl : Int) := by omega
                    have X2 : (10 : Nat) ^ j ≤ 10 ^ 18 := Nat.pow_le_pow_right (by omega) (by omega)
                    have X3 : (10 : Nat) ^ 18 = 1000000000000000000 := by decide
                    have X4 : (10 : Nat) ^ (j + 1) = 10 ^ j * 10 := Nat.pow_succ _ _
                    obtain ⟨x, hx⟩ : ∃ x, x = (10 : Nat) ^ j := ⟨_, rfl⟩
                    obtain ⟨y, hy⟩ : ∃ y, y = (10 : Nat) ^ (j + 1) := ⟨_, rfl⟩
                    rw [← hx] at X2 X4 ⊢
                    rw [← hy] at X4
                    have Y : Aside (y = 10 ^ (j + 1) ∧ y = x * 10) := ⟨hy, X4⟩
                    have x1 : (x : Int) ≤ 1000000000000000000 := by omega
                    clear X2 X3 X4 hx hy
                    go_wp2_with fail
                    go_roundg (pl - (j + 1))
                    case measure => have := RJ.out.1; omega
                    case rel => exact ⟨j + 1, by omega, rfl, by rw [← Y.out.1]; have := Y.out.2; congr 1; omega, by go_num, rfl⟩
                  · obtain rfl : j = pl := by have := RJ.out.2; omega
                    have X2 : (10 : Nat) ^ j ≤ 10 ^ 19 := Nat.pow_le_pow_right (by omega) pl19
                    have X3 : (10 : Nat) ^ 19 = 10000000000000000000 := by decide
                    have TM := Lib.hid (times_any u n (10 ^ j) (by rw [HU.out]; exact ML.out) (by rw [D.out.2.2.1]; exact facR_lt _) (by omega) (Nat.pow_pos (by omega)) w4)
                    have RS : Hid (timesT (u * n) (10 ^ j) = parseR t) := Lib.hid (by rw [OK.out, HU.out, D.out.2.2.1, PL.out.2.1])
                    obtain ⟨x, hx⟩ : ∃ x, x = (10 : Nat) ^ j := ⟨_, rfl⟩
                    rw [← hx] at TM RS ⊢
                    clear X2 X3 hx
                    go_wp2_with fail
                    refine TM.out.mono ?_
                    rintro e w5 ⟨rfl, hb⟩
                    have B5 : Hid (Below w.heap.size w w5) := Lib.hid (B4.out.trans (hb.mono B4.out.size))
                    clear hb
                    go_wp2_with fail
                    go_ret2
                    exact ⟨by rw [← RS.out]; rfl, B5.out⟩
          · have dl : (19 : Int) < (d.size : Int) + (p.size : Int) := by omega
            have dn : 19 < d.size + p.size := by omega
            have bd : (d.size : Int) ≤ 140737488355328 := by have := TZ.out.1; have := SZ.out.1; omega
            have bp : (p.size : Int) ≤ 140737488355328 := by have := TZ.out.2; have := SZ.out.2; omega
            have dm : decide (19 < d.size + p.size) = true := decide_eq_true dn
            have dg : decide ((d.size : Int) + (p.size : Int) > 19) = true := decide_eq_true dl
            have C4 := Lib.hid c4
            clear c4
            have E : Hid (parseR t = (0, 30)) := Lib.hid (by unfold parseR; rw [if_neg]; rintro ⟨-, -, -, h⟩; have := SZ.out; have := C4.out; omega)
            go_wp2_with fail
            go_ret2
            exact ⟨by rw [E.out]; rfl, B3.out⟩
end Go.Proofs.YtjegjpdeclgegaaDoor
