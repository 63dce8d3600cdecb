/-
  SsR, SsS, SsT, joined.
-/
import Derived.Test.YtehgnbgbmicheaaGreatDoorSsG
section S0
namespace Go.Proofs.YtehgnbgbmicheaaGreatDoor
open Go.Shelf Go.RowKit Go.Lib Go.Sort
namespace Ss
variable {P : Program} {α : Type} [Inhabited α]
set_option maxHeartbeats 4000000 in
set_option maxRecDepth 1000000 in
theorem mer_midA (ρ : Nms) (k : Nat) (L : Ld P ρ k) (FB : Bears P ρ.fm (merB ρ)) (FR : Bears P ρ.fr (rotB ρ)) (FS : Bears P ρ.fs (swapB ρ)) (enc : α → List Value) (cf : α → α → Int) (t : α → Nat) (hS : SWO (ltOf cf)) (g : Nat) (cb : Array Value) (eg : ∀ args w, (callFunc g args).run P w = .ok (.enter g args) w) (blk off cap n0 a m b mid : Nat) (d0 : Array α) (w0 : World)
    (R : RowK enc k w0 blk off d0) (hs : d0.size = n0) (hC : CmpLays P g cb enc k cf blk off d0.size w0) (ham : a + 1 < m) (hmb : m + 1 < b) (hb : b ≤ n0) (hsz : n0 < 4611686018427387904) (hmid : mid = (a + b) / 2) (hcase : mid < m)
    (IH : ∀ a' m' b', b' - a' < b - a → a' < m' → m' < b' → b' ≤ n0 → MerC P ρ enc k cf t g cb blk off cap w0 n0 a' m' b') : MerC P ρ enc k cf t g cb blk off cap w0 n0 a m b := by
  intro d w hds S hA hB hL
  have mixed := L.mixed; have t0 := L.t0; have a0 := L.a0; have z0 := L.z0; have v0 := L.v0; have t3 := L.t3; have a3 := L.a3; have z3 := L.z3; have v3 := L.v3; have t4 := L.t4; have a4 := L.a4; have z4 := L.z4; have v4 := L.v4; have t5 := L.t5; have a5 := L.a5; have z5 := L.z5; have v5 := L.v5; have t22 := L.t22; have a22 := L.a22; have z22 := L.z22; have v22 := L.v22; have t25 := L.t25; have a25 := L.a25; have z25 := L.z25; have v25 := L.v25
  have aE := L.aE; have zE := L.zE
  have u22 := run_underlying L.t22
  have em : ∀ args w, (callFunc ρ.fm args).run P w = .ok (.enter ρ.fm args) w := FB.enters rfl
  obtain ⟨_, _, FG⟩ := FB
  have S0 : Aside (SWK enc k w0 blk off d w) := S
  have HC : Aside (CmpLays P g cb enc k cf blk off d0.size w0) := hC
  have HO : Aside (SWO (ltOf cf) ∧ Rg (ltOf cf) t a m d ∧ Rg (ltOf cf) t m b d ∧ Lr t a m b d) := ⟨hS, hA, hB, hL⟩
  have HI : Aside _ := IH
  have RT : Aside (∀ (x y : Nat) (wr : World), x < m → m < y → y ≤ n0 → SWK enc k w0 blk off d wr → Calls P ρ.fr #[.slice (some ⟨blk, off, none⟩) n0 cap, .int .i64 x, .int .i64 m, .int .i64 y, .func (.func g) #[] cb] wr fun e w' => e = .returned (.tuple #[]) ∧ ∃ d', Rot d d' m (m - x) (y - m) ∧ SWK enc k w0 blk off d' w') := fun x y wr h1 h2 h3 h4 => by
    have q := rotate_any ρ k L FR FS enc g cb blk off cap x m y d0 d w0 wr R (by omega) h4 h1 h2 (by omega) (by omega)
    rw [hds] at q; exact q
  have er : ∀ args w, (callFunc ρ.fr args).run P w = .ok (.enter ρ.fr args) w := FR.enters rfl
  clear S hC hS hA hB hL IH FR FS
  have HDS : Aside (d.size = n0 ∧ d0.size = n0) := ⟨hds, hs⟩
  clear hds hs
  obtain ⟨s0, r0, p, hs0, hp⟩ : ∃ s0 r0 p : Nat, (s0 + b = mid + m ∧ r0 = mid) ∧ p + 1 = mid + m := ⟨mid + m - b, mid, mid + m - 1, ⟨by omega, rfl⟩, by omega⟩
  have F : a ≤ s0 ∧ s0 ≤ r0 ∧ r0 ≤ m ∧ r0 ≤ p + 1 ∧ a < mid ∧ mid < b := by omega
  have FP : Aside (∀ c, s0 ≤ c → c < r0 → m + c ≤ p ∧ p - c < b) := fun c h1 h2 => by omega
  have E1 : ((a : Int) + (b : Int)) / 2 = (mid : Int) := by omega
  have hn1 : ¬ (m : Int) - (a : Int) = 1 := by omega
  have hn2 : ((m : Int) - (a : Int) == 1) = false := by simp; omega
  have hn3 : ¬ (b : Int) - (m : Int) = 1 := by omega
  have hn4 : ((b : Int) - (m : Int) == 1) = false := by simp; omega
  have hcz : (mid : Int) < (m : Int) := by omega
  have E2 : (mid : Int) + (m : Int) - (b : Int) = (s0 : Int) := by omega
  have E3 : (mid : Int) + (m : Int) - 1 = (p : Int) := by omega
  have W1 : mid + m < 9223372036854775808 := by omega
  have W1' : (mid : Int) + (m : Int) < 9223372036854775808 := by omega
  have HM : Aside (mid = (a + b) / 2 ∧ (s0 + b = mid + m ∧ r0 = mid) ∧ p + 1 = mid + m) := ⟨hmid, hs0, hp⟩
  clear hmid hs0 hp
  go_enter FG, merB_ntmps ρ
  go_wp2
  try rw [E2]
  try rw [E3]
  clear hn1 hn2 hn3 hn4
  go_loopg [20, 21, 23] (r0 - s0) (fun kx si sj sh wr => ∃ (i j : Nat), si = .int .i64 i ∧ sj = .int .i64 j ∧ (s0 ≤ i ∧ i ≤ j ∧ j ≤ r0) ∧ kx = j - i ∧ Aside (SWK enc k w0 blk off d wr ∧ (∀ c, s0 ≤ c → c < i → ltOf cf d[p - c]! d[c]! = false) ∧ ∀ c, j ≤ c → c < r0 → ltOf cf d[p - c]! d[c]! = true))
  case atStart => exact ⟨s0, r0, rfl, by rw [HM.out.2.1.2], ⟨by omega, by omega, by omega⟩, rfl, S0.out, fun h h1 h2 => by omega, fun h h1 h2 => by omega⟩
  case round =>
    clear S0
    obtain ⟨i, j, rfl, rfl, hij, hkx, S1⟩ := hrel
    by_cases hlt : i < j
    · have hlt' : (i : Int) < (j : Int) := by omega
      go_wp2_with fail
      obtain ⟨h, hh⟩ : ∃ h, h = (i + j) / 2 := ⟨_, rfl⟩
      have EH : ((i : Int) + (j : Int)) / 2 = (h : Int) := by omega
      rw [EH]
      have hb2 : i ≤ h ∧ h < j := by omega
      clear EH hh
      obtain ⟨q, hq⟩ : ∃ q, q = p - h := ⟨_, rfl⟩
      have PQ := FP.out h (by omega) (by omega)
      have e3 : ((p : Int) - (h : Int)).toNat = q := by omega
      have p3 : (0 : Int) ≤ (p : Int) - (h : Int) := by omega
      have b3 : (p : Int) - (h : Int) < (n0 : Int) := by omega
      have p4 : (h : Int) ≤ (p : Int) := by omega
      have b4 : (p : Int) < (n0 : Int) + (h : Int) := by omega
      have b5 : (p : Int) < (h : Int) + (n0 : Int) := by omega
      have r3 : IntKind.i64.wrap ((p : Int) - (h : Int)) = (p : Int) - (h : Int) := by rw [IntKind.wrap_i64]; omega
      have bh : (h : Int) < (n0 : Int) := by omega
      have hqd : q < b := by omega
      have hmq : m + h ≤ p := PQ.1
      have HQ : Aside (q = p - h) := hq
      clear hq PQ
      obtain ⟨xh, hxh⟩ : ∃ x, x = d[h]! := ⟨_, rfl⟩
      obtain ⟨xa, hxa⟩ : ∃ x, x = d[q]! := ⟨_, rfl⟩
      have lh := S1.out.1.ld R (by have := HDS.out; omega) P h (by have := HDS.out; omega)
      have la := S1.out.1.ld R (by have := HDS.out; omega) P q (by have := HDS.out; omega)
      rw [← hxh] at lh
      rw [← hxa] at la
      have hcg := S1.out.1.cmp HC.out (by have := HDS.out; omega) xa xh
      have S2 : Aside (∀ n os, SWK enc k w0 blk off d (grow (wr.drewN n) os)) := fun n os => S1.out.1.grown n os
      have S3 : Aside ((∀ c, s0 ≤ c → c < i → ltOf cf d[p - c]! d[c]! = false) ∧ ∀ c, j ≤ c → c < r0 → ltOf cf d[p - c]! d[c]! = true) := S1.out.2
      have HX : Aside (xh = d[h]! ∧ xa = d[q]!) := ⟨hxh, hxa⟩
      clear hxh hxa S1
      by_cases hlv : cf xa xh < 0
      · have hd : decide (cf xa xh < 0) = true := decide_eq_true hlv
        go_quiet_grown (first | (go_at_fn g; refine Calls.grown_of (hcg _ _)))
        have S4 : Aside (SWK enc k w0 blk off d (grow (wr.drewN nq) osq)) := S2.out nq osq
        clear lh la hcg S2
        generalize grow (wr.drewN nq) osq = wv at S4 ⊢
        clear nq osq
        go_wp2
        go_roundg (h - i)
        case measure => omega
        case rel => exact ⟨i, h, rfl, rfl, ⟨by omega, by omega, by omega⟩, rfl, S4.out, S3.out.1, fun x h1 h2 => bs3_yes HO.out.1 HO.out.2.1 HO.out.2.2.1 (show a ≤ h by omega) (by have := HQ.out; omega) (by rw [← HQ.out, ← HX.out.1, ← HX.out.2]; exact hd) x h1 (by omega) (FP.out x (by omega) h2).1⟩
      · have hd : decide (cf xa xh < 0) = false := decide_eq_false hlv
        go_quiet_grown (first | (go_at_fn g; refine Calls.grown_of (hcg _ _)))
        have S4 : Aside (SWK enc k w0 blk off d (grow (wr.drewN nq) osq)) := S2.out nq osq
        clear lh la hcg S2
        generalize grow (wr.drewN nq) osq = wv at S4 ⊢
        clear nq osq
        go_wp2
        go_roundg (j - (h + 1))
        case measure => omega
        case rel => exact ⟨h + 1, j, by go_num, rfl, ⟨by omega, by omega, by omega⟩, rfl, S4.out, fun x h1 h2 => bs3_no HO.out.1 HO.out.2.1 HO.out.2.2.1 (show h < m by omega) hmq (by rw [← HQ.out, ← HX.out.1, ← HX.out.2]; exact hd) x (by omega) h2 (FP.out x h1 (by omega)).2, S3.out.2⟩
    · obtain rfl : i = j := by omega
      obtain ⟨en, hen⟩ : ∃ en, i + en = mid + m := ⟨mid + m - i, by have := HM.out; omega⟩
      have EN : (mid : Int) + (m : Int) - (i : Int) = (en : Int) := by omega
      have WN : IntKind.i64.wrap ((mid : Int) + (m : Int) - (i : Int)) = (en : Int) := by rw [EN, IntKind.wrap_i64]; have := HM.out; omega
      have G : a ≤ i ∧ i ≤ m ∧ m ≤ en ∧ en ≤ b ∧ i ≤ mid ∧ mid ≤ en := by have := HM.out; omega
      have S5 : Aside (SWK enc k w0 blk off d wr) := S1.out.1
      have HV : Aside (∀ d', Rot d d' m (m - i) (en - m) → Hv (ltOf cf) t a i mid en b d d') := fun d' hr => hv_of HO.out.1 (by omega) (by omega) (by omega) (by omega) hen (by have := HDS.out; omega) HO.out.2.1 HO.out.2.2.1 HO.out.2.2.2
        (fun h1 h2 => by have z := S1.out.2.1 (i - 1) (by have := HM.out; omega) (by omega); rw [show p - (i - 1) = en by have := HM.out; omega] at z; exact z)
        (fun h1 h2 => by have z := S1.out.2.2 i (Nat.le_refl _) (by have := HM.out; omega); rw [show p - i = en - 1 by have := HM.out; omega] at z; exact z) hr
      have HE : Aside (i + en = mid + m) := hen
      have GH := Lib.hid G
      clear S1 hen HC FP hkx hij hlt E1 E2 E3 G
      have SH : i < m ∧ m < en ∨ i = m ∨ (i < m ∧ en = m) := by have := GH.out; omega
      rcases SH with c | c | c
      · skip
        have C1H := Lib.hid c
        clear c
        have g1 : (i : Int) < (m : Int) ∧ (m : Int) < (en : Int) := by have := GH.out; have := C1H.out; omega
        obtain ⟨g1a, g1b⟩ := g1
        have C1 := Lib.hid (RT.out i en wr C1H.out.1 C1H.out.2 (by have := GH.out; omega) S5.out)
        go_wp2_with fail
        refine C1.out.mono ?_
        rintro e w2 ⟨rfl, d1, RO, T1⟩
        have HV1 : Aside (Hv (ltOf cf) t a i mid en b d d1) := HV.out d1 RO
        have ST : Aside (SWK enc k w0 blk off d1 w2) := T1
        clear RO T1 C1 S5
        have SH2 : a < i ∧ i < mid ∨ a = i ∨ (a < i ∧ i = mid) := by have := GH.out; omega
        rcases SH2 with c2 | c2 | c2
        · try (exfalso; have := GH.out; have := C1H.out; have := HE.out; omega)
          all_goals
            have C2H := Lib.hid c2
            clear c2
            have g2 : (a : Int) < (i : Int) ∧ (i : Int) < (mid : Int) := by have := GH.out; have := C2H.out; omega
            obtain ⟨g2a, g2b⟩ := g2
            have C2 := Lib.hid (HI.out a i mid (by have := GH.out; have := C2H.out; omega) C2H.out.1 C2H.out.2 (by have := GH.out; omega) d1 w2 (by have := HDS.out; have := HV1.out.perm.1; omega) ST.out HV1.out.r1 HV1.out.r2 HV1.out.l1)
            go_wp2_with fail
            refine C2.out.mono ?_
            rintro e w3 ⟨rfl, d2, M2, T2⟩
            have MG1 : Aside (Mg (ltOf cf) t a mid d1 d2) := M2
            have ST2 : Aside (SWK enc k w0 blk off d2 w3) := T2
            clear M2 T2 C2 ST
            have SH3 : mid < en ∧ en < b ∨ mid = en ∨ (mid < en ∧ en = b) := by have := GH.out; omega
            rcases SH3 with c3 | c3 | c3
            · try (exfalso; have := GH.out; have := C1H.out; have := C2H.out; have := HE.out; omega)
              all_goals
                have C3H := Lib.hid c3
                clear c3
                have g3 : (mid : Int) < (en : Int) ∧ (en : Int) < (b : Int) := by have := GH.out; have := C3H.out; omega
                obtain ⟨g3a, g3b⟩ := g3
                have RR := Lib.hid (HV1.out.right (by have := GH.out; omega) MG1.out)
                have C3 := Lib.hid (HI.out mid en b (by have := GH.out; have := C3H.out; omega) C3H.out.1 C3H.out.2 (by have := GH.out; omega) d2 w3 (by have := HDS.out; have := HV1.out.perm.1; have := MG1.out.1.1; omega) ST2.out RR.out.1 RR.out.2.1 RR.out.2.2)
                go_wp2_with fail
                refine C3.out.mono ?_
                rintro e w4 ⟨rfl, d3, M3, T3⟩
                have M4 : Aside (Mg (ltOf cf) t mid b _ d3) := M3
                have T4 : Aside (SWK enc k w0 blk off d3 w4) := T3
                clear M3 T3 C3
                go_wp2_with fail
                go_end0
                exact ⟨rfl, d3, mg_join (by have := GH.out; omega) (by have := GH.out; omega) (by have := GH.out; have := HDS.out; omega) HV1.out MG1.out M4.out, T4.out⟩
            · try (exfalso; have := GH.out; have := C1H.out; have := C2H.out; have := HE.out; omega)
              all_goals
                have ce2 : mid = en := c3
                clear c3
                subst ce2
                have C3H := Lib.hid True.intro
                have RR := Lib.hid (HV1.out.right (by have := GH.out; omega) MG1.out)
                have M4 : Aside (Mg (ltOf cf) t mid b d2 d2) := mg_same RR.out.2.1
                go_wp2_with fail
                go_end0
                exact ⟨rfl, d2, mg_join (by have := GH.out; omega) (by have := GH.out; omega) (by have := GH.out; have := HDS.out; omega) HV1.out MG1.out M4.out, ST2.out⟩
            · try (exfalso; have := GH.out; have := C1H.out; have := C2H.out; have := HE.out; omega)
              all_goals
                obtain ⟨c3, ce⟩ := c3
                have ce2 : b = en := ce.symm
                clear ce
                subst ce2
                have C3H := Lib.hid c3
                clear c3
                have g3 : (mid : Int) < (b : Int) := by have := GH.out; have := C3H.out; omega
                have RR := Lib.hid (HV1.out.right (by have := GH.out; omega) MG1.out)
                have M4 : Aside (Mg (ltOf cf) t mid b d2 d2) := mg_same RR.out.1
                go_wp2_with fail
                go_end0
                exact ⟨rfl, d2, mg_join (by have := GH.out; omega) (by have := GH.out; omega) (by have := GH.out; have := HDS.out; omega) HV1.out MG1.out M4.out, ST2.out⟩
        · try (exfalso; have := GH.out; have := C1H.out; have := HE.out; omega)
          all_goals
            have ce2 : a = i := c2
            clear c2
            subst ce2
            have C2H := Lib.hid True.intro
            have MG1 : Aside (Mg (ltOf cf) t a mid d1 d1) := mg_same HV1.out.r2
            have ST2 := ST
            clear ST
            have SH3 : mid < en ∧ en < b ∨ mid = en ∨ (mid < en ∧ en = b) := by have := GH.out; omega
            rcases SH3 with c3 | c3 | c3
            · try (exfalso; have := GH.out; have := C1H.out; have := C2H.out; have := HE.out; omega)
              all_goals
                have C3H := Lib.hid c3
                clear c3
                have g3 : (mid : Int) < (en : Int) ∧ (en : Int) < (b : Int) := by have := GH.out; have := C3H.out; omega
                obtain ⟨g3a, g3b⟩ := g3
                have RR := Lib.hid (HV1.out.right (by have := GH.out; omega) MG1.out)
                have C3 := Lib.hid (HI.out mid en b (by have := GH.out; have := C3H.out; omega) C3H.out.1 C3H.out.2 (by have := GH.out; omega) d1 w2 (by have := HDS.out; have := HV1.out.perm.1; have := MG1.out.1.1; omega) ST2.out RR.out.1 RR.out.2.1 RR.out.2.2)
                go_wp2_with fail
                refine C3.out.mono ?_
                rintro e w4 ⟨rfl, d3, M3, T3⟩
                have M4 : Aside (Mg (ltOf cf) t mid b _ d3) := M3
                have T4 : Aside (SWK enc k w0 blk off d3 w4) := T3
                clear M3 T3 C3
                go_wp2_with fail
                go_end0
                exact ⟨rfl, d3, mg_join (by have := GH.out; omega) (by have := GH.out; omega) (by have := GH.out; have := HDS.out; omega) HV1.out MG1.out M4.out, T4.out⟩
            · try (exfalso; have := GH.out; have := C1H.out; have := C2H.out; have := HE.out; omega)
              all_goals
                have ce2 : mid = en := c3
                clear c3
                subst ce2
                have C3H := Lib.hid True.intro
                have RR := Lib.hid (HV1.out.right (by have := GH.out; omega) MG1.out)
                have M4 : Aside (Mg (ltOf cf) t mid b d1 d1) := mg_same RR.out.2.1
                go_wp2_with fail
                go_end0
                exact ⟨rfl, d1, mg_join (by have := GH.out; omega) (by have := GH.out; omega) (by have := GH.out; have := HDS.out; omega) HV1.out MG1.out M4.out, ST2.out⟩
            · try (exfalso; have := GH.out; have := C1H.out; have := C2H.out; have := HE.out; omega)
              all_goals
                obtain ⟨c3, ce⟩ := c3
                have ce2 : b = en := ce.symm
                clear ce
                subst ce2
                have C3H := Lib.hid c3
                clear c3
                have g3 : (mid : Int) < (b : Int) := by have := GH.out; have := C3H.out; omega
                have RR := Lib.hid (HV1.out.right (by have := GH.out; omega) MG1.out)
                have M4 : Aside (Mg (ltOf cf) t mid b d1 d1) := mg_same RR.out.1
                go_wp2_with fail
                go_end0
                exact ⟨rfl, d1, mg_join (by have := GH.out; omega) (by have := GH.out; omega) (by have := GH.out; have := HDS.out; omega) HV1.out MG1.out M4.out, ST2.out⟩
        · try (exfalso; have := GH.out; have := C1H.out; have := HE.out; omega)
          all_goals
            obtain ⟨c2, ce⟩ := c2
            have ce2 : mid = i := ce.symm
            clear ce
            subst ce2
            have C2H := Lib.hid c2
            clear c2
            have g2 : (a : Int) < (mid : Int) := by have := GH.out; have := C2H.out; omega
            have MG1 : Aside (Mg (ltOf cf) t a mid d1 d1) := mg_same HV1.out.r1
            have ST2 := ST
            clear ST
            have SH3 : mid < en ∧ en < b ∨ mid = en ∨ (mid < en ∧ en = b) := by have := GH.out; omega
            rcases SH3 with c3 | c3 | c3
            · try (exfalso; have := GH.out; have := C1H.out; have := C2H.out; have := HE.out; omega)
              all_goals
                have C3H := Lib.hid c3
                clear c3
                have g3 : (mid : Int) < (en : Int) ∧ (en : Int) < (b : Int) := by have := GH.out; have := C3H.out; omega
                obtain ⟨g3a, g3b⟩ := g3
                have RR := Lib.hid (HV1.out.right (by have := GH.out; omega) MG1.out)
                have C3 := Lib.hid (HI.out mid en b (by have := GH.out; have := C3H.out; omega) C3H.out.1 C3H.out.2 (by have := GH.out; omega) d1 w2 (by have := HDS.out; have := HV1.out.perm.1; have := MG1.out.1.1; omega) ST2.out RR.out.1 RR.out.2.1 RR.out.2.2)
                go_wp2_with fail
                refine C3.out.mono ?_
                rintro e w4 ⟨rfl, d3, M3, T3⟩
                have M4 : Aside (Mg (ltOf cf) t mid b _ d3) := M3
                have T4 : Aside (SWK enc k w0 blk off d3 w4) := T3
                clear M3 T3 C3
                go_wp2_with fail
                go_end0
                exact ⟨rfl, d3, mg_join (by have := GH.out; omega) (by have := GH.out; omega) (by have := GH.out; have := HDS.out; omega) HV1.out MG1.out M4.out, T4.out⟩
            · try (exfalso; have := GH.out; have := C1H.out; have := C2H.out; have := HE.out; omega)
              all_goals
                have ce2 : mid = en := c3
                clear c3
                subst ce2
                have C3H := Lib.hid True.intro
                have RR := Lib.hid (HV1.out.right (by have := GH.out; omega) MG1.out)
                have M4 : Aside (Mg (ltOf cf) t mid b d1 d1) := mg_same RR.out.2.1
                go_wp2_with fail
                go_end0
                exact ⟨rfl, d1, mg_join (by have := GH.out; omega) (by have := GH.out; omega) (by have := GH.out; have := HDS.out; omega) HV1.out MG1.out M4.out, ST2.out⟩
            · try (exfalso; have := GH.out; have := C1H.out; have := C2H.out; have := HE.out; omega)
              all_goals
                obtain ⟨c3, ce⟩ := c3
                have ce2 : b = en := ce.symm
                clear ce
                subst ce2
                have C3H := Lib.hid c3
                clear c3
                have g3 : (mid : Int) < (b : Int) := by have := GH.out; have := C3H.out; omega
                have RR := Lib.hid (HV1.out.right (by have := GH.out; omega) MG1.out)
                have M4 : Aside (Mg (ltOf cf) t mid b d1 d1) := mg_same RR.out.1
                go_wp2_with fail
                go_end0
                exact ⟨rfl, d1, mg_join (by have := GH.out; omega) (by have := GH.out; omega) (by have := GH.out; have := HDS.out; omega) HV1.out MG1.out M4.out, ST2.out⟩
      · skip
        have ce2 : m = i := c.symm
        clear c
        subst ce2
        have C1H := Lib.hid True.intro
        obtain ⟨d1, hd1⟩ : ∃ d1, d1 = d := ⟨_, rfl⟩
        have HV1 : Aside (Hv (ltOf cf) t a m mid en b d d1) := (by rw [hd1]; exact HV.out d (rot_none d _ _ _ (by omega)))
        have ST : Aside (SWK enc k w0 blk off d1 wr) := (by rw [hd1]; exact S5.out)
        clear hd1 S5
        have SH2 : a < m ∧ m < mid ∨ a = m ∨ (a < m ∧ m = mid) := by have := GH.out; omega
        rcases SH2 with c2 | c2 | c2
        · try (exfalso; have := GH.out; have := C1H.out; have := HE.out; omega)
          all_goals
            have C2H := Lib.hid c2
            clear c2
            have g2 : (a : Int) < (m : Int) ∧ (m : Int) < (mid : Int) := by have := GH.out; have := C2H.out; omega
            obtain ⟨g2a, g2b⟩ := g2
            have C2 := Lib.hid (HI.out a m mid (by have := GH.out; have := C2H.out; omega) C2H.out.1 C2H.out.2 (by have := GH.out; omega) d1 wr (by have := HDS.out; have := HV1.out.perm.1; omega) ST.out HV1.out.r1 HV1.out.r2 HV1.out.l1)
            go_wp2_with fail
            refine C2.out.mono ?_
            rintro e w3 ⟨rfl, d2, M2, T2⟩
            have MG1 : Aside (Mg (ltOf cf) t a mid d1 d2) := M2
            have ST2 : Aside (SWK enc k w0 blk off d2 w3) := T2
            clear M2 T2 C2 ST
            have SH3 : mid < en ∧ en < b ∨ mid = en ∨ (mid < en ∧ en = b) := by have := GH.out; omega
            rcases SH3 with c3 | c3 | c3
            · try (exfalso; have := GH.out; have := C1H.out; have := C2H.out; have := HE.out; omega)
              all_goals
                have C3H := Lib.hid c3
                clear c3
                have g3 : (mid : Int) < (en : Int) ∧ (en : Int) < (b : Int) := by have := GH.out; have := C3H.out; omega
                obtain ⟨g3a, g3b⟩ := g3
                have RR := Lib.hid (HV1.out.right (by have := GH.out; omega) MG1.out)
                have C3 := Lib.hid (HI.out mid en b (by have := GH.out; have := C3H.out; omega) C3H.out.1 C3H.out.2 (by have := GH.out; omega) d2 w3 (by have := HDS.out; have := HV1.out.perm.1; have := MG1.out.1.1; omega) ST2.out RR.out.1 RR.out.2.1 RR.out.2.2)
                go_wp2_with fail
                refine C3.out.mono ?_
                rintro e w4 ⟨rfl, d3, M3, T3⟩
                have M4 : Aside (Mg (ltOf cf) t mid b _ d3) := M3
                have T4 : Aside (SWK enc k w0 blk off d3 w4) := T3
                clear M3 T3 C3
                go_wp2_with fail
                go_end0
                exact ⟨rfl, d3, mg_join (by have := GH.out; omega) (by have := GH.out; omega) (by have := GH.out; have := HDS.out; omega) HV1.out MG1.out M4.out, T4.out⟩
            · try (exfalso; have := GH.out; have := C1H.out; have := C2H.out; have := HE.out; omega)
              all_goals
                have ce2 : mid = en := c3
                clear c3
                subst ce2
                have C3H := Lib.hid True.intro
                have RR := Lib.hid (HV1.out.right (by have := GH.out; omega) MG1.out)
                have M4 : Aside (Mg (ltOf cf) t mid b d2 d2) := mg_same RR.out.2.1
                go_wp2_with fail
                go_end0
                exact ⟨rfl, d2, mg_join (by have := GH.out; omega) (by have := GH.out; omega) (by have := GH.out; have := HDS.out; omega) HV1.out MG1.out M4.out, ST2.out⟩
            · try (exfalso; have := GH.out; have := C1H.out; have := C2H.out; have := HE.out; omega)
              all_goals
                obtain ⟨c3, ce⟩ := c3
                have ce2 : b = en := ce.symm
                clear ce
                subst ce2
                have C3H := Lib.hid c3
                clear c3
                have g3 : (mid : Int) < (b : Int) := by have := GH.out; have := C3H.out; omega
                have RR := Lib.hid (HV1.out.right (by have := GH.out; omega) MG1.out)
                have M4 : Aside (Mg (ltOf cf) t mid b d2 d2) := mg_same RR.out.1
                go_wp2_with fail
                go_end0
                exact ⟨rfl, d2, mg_join (by have := GH.out; omega) (by have := GH.out; omega) (by have := GH.out; have := HDS.out; omega) HV1.out MG1.out M4.out, ST2.out⟩
        · exact absurd c2 (by omega)
        · try (exfalso; have := GH.out; have := C1H.out; have := HE.out; omega)
          all_goals
            obtain ⟨c2, ce⟩ := c2
            have ce2 : m = mid := ce
            clear ce
            subst ce2
            have C2H := Lib.hid c2
            clear c2
            have g2 : (a : Int) < (m : Int) := by have := GH.out; have := C2H.out; omega
            have MG1 : Aside (Mg (ltOf cf) t a m d1 d1) := mg_same HV1.out.r1
            have ST2 := ST
            clear ST
            have SH3 : m < en ∧ en < b ∨ m = en ∨ (m < en ∧ en = b) := by have := GH.out; omega
            rcases SH3 with c3 | c3 | c3
            · try (exfalso; have := GH.out; have := C1H.out; have := C2H.out; have := HE.out; omega)
              all_goals
                have C3H := Lib.hid c3
                clear c3
                have g3 : (m : Int) < (en : Int) ∧ (en : Int) < (b : Int) := by have := GH.out; have := C3H.out; omega
                obtain ⟨g3a, g3b⟩ := g3
                have RR := Lib.hid (HV1.out.right (by have := GH.out; omega) MG1.out)
                have C3 := Lib.hid (HI.out m en b (by have := GH.out; have := C3H.out; omega) C3H.out.1 C3H.out.2 (by have := GH.out; omega) d1 wr (by have := HDS.out; have := HV1.out.perm.1; have := MG1.out.1.1; omega) ST2.out RR.out.1 RR.out.2.1 RR.out.2.2)
                go_wp2_with fail
                refine C3.out.mono ?_
                rintro e w4 ⟨rfl, d3, M3, T3⟩
                have M4 : Aside (Mg (ltOf cf) t m b _ d3) := M3
                have T4 : Aside (SWK enc k w0 blk off d3 w4) := T3
                clear M3 T3 C3
                go_wp2_with fail
                go_end0
                exact ⟨rfl, d3, mg_join (by have := GH.out; omega) (by have := GH.out; omega) (by have := GH.out; have := HDS.out; omega) HV1.out MG1.out M4.out, T4.out⟩
            · try (exfalso; have := GH.out; have := C1H.out; have := C2H.out; have := HE.out; omega)
              all_goals
                have ce2 : m = en := c3
                clear c3
                subst ce2
                have C3H := Lib.hid True.intro
                have RR := Lib.hid (HV1.out.right (by have := GH.out; omega) MG1.out)
                have M4 : Aside (Mg (ltOf cf) t m b d1 d1) := mg_same RR.out.2.1
                go_wp2_with fail
                go_end0
                exact ⟨rfl, d1, mg_join (by have := GH.out; omega) (by have := GH.out; omega) (by have := GH.out; have := HDS.out; omega) HV1.out MG1.out M4.out, ST2.out⟩
            · try (exfalso; have := GH.out; have := C1H.out; have := C2H.out; have := HE.out; omega)
              all_goals
                obtain ⟨c3, ce⟩ := c3
                have ce2 : b = en := ce.symm
                clear ce
                subst ce2
                have C3H := Lib.hid c3
                clear c3
                have g3 : (m : Int) < (b : Int) := by have := GH.out; have := C3H.out; omega
                have RR := Lib.hid (HV1.out.right (by have := GH.out; omega) MG1.out)
                have M4 : Aside (Mg (ltOf cf) t m b d1 d1) := mg_same RR.out.1
                go_wp2_with fail
                go_end0
                exact ⟨rfl, d1, mg_join (by have := GH.out; omega) (by have := GH.out; omega) (by have := GH.out; have := HDS.out; omega) HV1.out MG1.out M4.out, ST2.out⟩
      · skip
        obtain ⟨c, ce⟩ := c
        have ce2 : m = en := ce.symm
        clear ce
        subst ce2
        have C1H := Lib.hid c
        clear c
        have g1 : (i : Int) < (m : Int) := by have := GH.out; have := C1H.out; omega
        obtain ⟨d1, hd1⟩ : ∃ d1, d1 = d := ⟨_, rfl⟩
        have HV1 : Aside (Hv (ltOf cf) t a i mid m b d d1) := (by rw [hd1]; exact HV.out d (rot_none d _ _ _ (by omega)))
        have ST : Aside (SWK enc k w0 blk off d1 wr) := (by rw [hd1]; exact S5.out)
        clear hd1 S5
        have SH2 : a < i ∧ i < mid ∨ a = i ∨ (a < i ∧ i = mid) := by have := GH.out; omega
        rcases SH2 with c2 | c2 | c2
        · try (exfalso; have := GH.out; have := C1H.out; have := HE.out; omega)
          all_goals
            have C2H := Lib.hid c2
            clear c2
            have g2 : (a : Int) < (i : Int) ∧ (i : Int) < (mid : Int) := by have := GH.out; have := C2H.out; omega
            obtain ⟨g2a, g2b⟩ := g2
            have C2 := Lib.hid (HI.out a i mid (by have := GH.out; have := C2H.out; omega) C2H.out.1 C2H.out.2 (by have := GH.out; omega) d1 wr (by have := HDS.out; have := HV1.out.perm.1; omega) ST.out HV1.out.r1 HV1.out.r2 HV1.out.l1)
            go_wp2_with fail
            refine C2.out.mono ?_
            rintro e w3 ⟨rfl, d2, M2, T2⟩
            have MG1 : Aside (Mg (ltOf cf) t a mid d1 d2) := M2
            have ST2 : Aside (SWK enc k w0 blk off d2 w3) := T2
            clear M2 T2 C2 ST
            have SH3 : mid < m ∧ m < b ∨ mid = m ∨ (mid < m ∧ m = b) := by have := GH.out; omega
            rcases SH3 with c3 | c3 | c3
            · try (exfalso; have := GH.out; have := C1H.out; have := C2H.out; have := HE.out; omega)
              all_goals
                have C3H := Lib.hid c3
                clear c3
                have g3 : (mid : Int) < (m : Int) ∧ (m : Int) < (b : Int) := by have := GH.out; have := C3H.out; omega
                obtain ⟨g3a, g3b⟩ := g3
                have RR := Lib.hid (HV1.out.right (by have := GH.out; omega) MG1.out)
                have C3 := Lib.hid (HI.out mid m b (by have := GH.out; have := C3H.out; omega) C3H.out.1 C3H.out.2 (by have := GH.out; omega) d2 w3 (by have := HDS.out; have := HV1.out.perm.1; have := MG1.out.1.1; omega) ST2.out RR.out.1 RR.out.2.1 RR.out.2.2)
                go_wp2_with fail
                refine C3.out.mono ?_
                rintro e w4 ⟨rfl, d3, M3, T3⟩
                have M4 : Aside (Mg (ltOf cf) t mid b _ d3) := M3
                have T4 : Aside (SWK enc k w0 blk off d3 w4) := T3
                clear M3 T3 C3
                go_wp2_with fail
                go_end0
                exact ⟨rfl, d3, mg_join (by have := GH.out; omega) (by have := GH.out; omega) (by have := GH.out; have := HDS.out; omega) HV1.out MG1.out M4.out, T4.out⟩
            · try (exfalso; have := GH.out; have := C1H.out; have := C2H.out; have := HE.out; omega)
              all_goals
                have C3H := Lib.hid c3
                clear c3
                have g3 : ¬ (mid : Int) < (m : Int) := by have := GH.out; have := C3H.out; omega
                have RR := Lib.hid (HV1.out.right (by have := GH.out; omega) MG1.out)
                have M4 : Aside (Mg (ltOf cf) t mid b d2 d2) := mg_same (C3H.out ▸ RR.out.2.1)
                go_wp2_with fail
                go_end0
                exact ⟨rfl, d2, mg_join (by have := GH.out; omega) (by have := GH.out; omega) (by have := GH.out; have := HDS.out; omega) HV1.out MG1.out M4.out, ST2.out⟩
            · exact absurd c3.2 (by omega)
        · try (exfalso; have := GH.out; have := C1H.out; have := HE.out; omega)
          all_goals
            have ce2 : a = i := c2
            clear c2
            subst ce2
            have C2H := Lib.hid True.intro
            have MG1 : Aside (Mg (ltOf cf) t a mid d1 d1) := mg_same HV1.out.r2
            have ST2 := ST
            clear ST
            have SH3 : mid < m ∧ m < b ∨ mid = m ∨ (mid < m ∧ m = b) := by have := GH.out; omega
            rcases SH3 with c3 | c3 | c3
            · try (exfalso; have := GH.out; have := C1H.out; have := C2H.out; have := HE.out; omega)
              all_goals
                have C3H := Lib.hid c3
                clear c3
                have g3 : (mid : Int) < (m : Int) ∧ (m : Int) < (b : Int) := by have := GH.out; have := C3H.out; omega
                obtain ⟨g3a, g3b⟩ := g3
                have RR := Lib.hid (HV1.out.right (by have := GH.out; omega) MG1.out)
                have C3 := Lib.hid (HI.out mid m b (by have := GH.out; have := C3H.out; omega) C3H.out.1 C3H.out.2 (by have := GH.out; omega) d1 wr (by have := HDS.out; have := HV1.out.perm.1; have := MG1.out.1.1; omega) ST2.out RR.out.1 RR.out.2.1 RR.out.2.2)
                go_wp2_with fail
                refine C3.out.mono ?_
                rintro e w4 ⟨rfl, d3, M3, T3⟩
                have M4 : Aside (Mg (ltOf cf) t mid b _ d3) := M3
                have T4 : Aside (SWK enc k w0 blk off d3 w4) := T3
                clear M3 T3 C3
                go_wp2_with fail
                go_end0
                exact ⟨rfl, d3, mg_join (by have := GH.out; omega) (by have := GH.out; omega) (by have := GH.out; have := HDS.out; omega) HV1.out MG1.out M4.out, T4.out⟩
            · try (exfalso; have := GH.out; have := C1H.out; have := C2H.out; have := HE.out; omega)
              all_goals
                have C3H := Lib.hid c3
                clear c3
                have g3 : ¬ (mid : Int) < (m : Int) := by have := GH.out; have := C3H.out; omega
                have RR := Lib.hid (HV1.out.right (by have := GH.out; omega) MG1.out)
                have M4 : Aside (Mg (ltOf cf) t mid b d1 d1) := mg_same (C3H.out ▸ RR.out.2.1)
                go_wp2_with fail
                go_end0
                exact ⟨rfl, d1, mg_join (by have := GH.out; omega) (by have := GH.out; omega) (by have := GH.out; have := HDS.out; omega) HV1.out MG1.out M4.out, ST2.out⟩
            · exact absurd c3.2 (by omega)
        · try (exfalso; have := GH.out; have := C1H.out; have := HE.out; omega)
          all_goals
            obtain ⟨c2, ce⟩ := c2
            have ce2 : mid = i := ce.symm
            clear ce
            subst ce2
            have C2H := Lib.hid c2
            clear c2
            have g2 : (a : Int) < (mid : Int) := by have := GH.out; have := C2H.out; omega
            have MG1 : Aside (Mg (ltOf cf) t a mid d1 d1) := mg_same HV1.out.r1
            have ST2 := ST
            clear ST
            have SH3 : mid < m ∧ m < b ∨ mid = m ∨ (mid < m ∧ m = b) := by have := GH.out; omega
            rcases SH3 with c3 | c3 | c3
            · try (exfalso; have := GH.out; have := C1H.out; have := C2H.out; have := HE.out; omega)
              all_goals
                have C3H := Lib.hid c3
                clear c3
                have g3 : (mid : Int) < (m : Int) ∧ (m : Int) < (b : Int) := by have := GH.out; have := C3H.out; omega
                obtain ⟨g3a, g3b⟩ := g3
                have RR := Lib.hid (HV1.out.right (by have := GH.out; omega) MG1.out)
                have C3 := Lib.hid (HI.out mid m b (by have := GH.out; have := C3H.out; omega) C3H.out.1 C3H.out.2 (by have := GH.out; omega) d1 wr (by have := HDS.out; have := HV1.out.perm.1; have := MG1.out.1.1; omega) ST2.out RR.out.1 RR.out.2.1 RR.out.2.2)
                go_wp2_with fail
                refine C3.out.mono ?_
                rintro e w4 ⟨rfl, d3, M3, T3⟩
                have M4 : Aside (Mg (ltOf cf) t mid b _ d3) := M3
                have T4 : Aside (SWK enc k w0 blk off d3 w4) := T3
                clear M3 T3 C3
                go_wp2_with fail
                go_end0
                exact ⟨rfl, d3, mg_join (by have := GH.out; omega) (by have := GH.out; omega) (by have := GH.out; have := HDS.out; omega) HV1.out MG1.out M4.out, T4.out⟩
            · try (exfalso; have := GH.out; have := C1H.out; have := C2H.out; have := HE.out; omega)
              all_goals
                have C3H := Lib.hid c3
                clear c3
                have g3 : ¬ (mid : Int) < (m : Int) := by have := GH.out; have := C3H.out; omega
                have RR := Lib.hid (HV1.out.right (by have := GH.out; omega) MG1.out)
                have M4 : Aside (Mg (ltOf cf) t mid b d1 d1) := mg_same (C3H.out ▸ RR.out.2.1)
                go_wp2_with fail
                go_end0
                exact ⟨rfl, d1, mg_join (by have := GH.out; omega) (by have := GH.out; omega) (by have := GH.out; have := HDS.out; omega) HV1.out MG1.out M4.out, ST2.out⟩
            · exact absurd c3.2 (by omega)
end Ss
end Go.Proofs.YtehgnbgbmicheaaGreatDoor
end S0

section S1
namespace Go.Proofs.YtehgnbgbmicheaaGreatDoor
open Go.Shelf Go.RowKit Go.Lib Go.Sort
namespace Ss
variable {P : Program} {α : Type} [Inhabited α]
set_option maxHeartbeats 4000000 in
set_option maxRecDepth 1000000 in
theorem mer_midB (ρ : Nms) (k : Nat) (L : Ld P ρ k) (FB : Bears P ρ.fm (merB ρ)) (FR : Bears P ρ.fr (rotB ρ)) (FS : Bears P ρ.fs (swapB ρ)) (enc : α → List Value) (cf : α → α → Int) (t : α → Nat) (hS : SWO (ltOf cf)) (g : Nat) (cb : Array Value) (eg : ∀ args w, (callFunc g args).run P w = .ok (.enter g args) w) (blk off cap n0 a m b mid : Nat) (d0 : Array α) (w0 : World)
    (R : RowK enc k w0 blk off d0) (hs : d0.size = n0) (hC : CmpLays P g cb enc k cf blk off d0.size w0) (ham : a + 1 < m) (hmb : m + 1 < b) (hb : b ≤ n0) (hsz : n0 < 4611686018427387904) (hmid : mid = (a + b) / 2) (hcase : m ≤ mid)
    (IH : ∀ a' m' b', b' - a' < b - a → a' < m' → m' < b' → b' ≤ n0 → MerC P ρ enc k cf t g cb blk off cap w0 n0 a' m' b') : MerC P ρ enc k cf t g cb blk off cap w0 n0 a m b := by
  intro d w hds S hA hB hL
  have mixed := L.mixed; have t0 := L.t0; have a0 := L.a0; have z0 := L.z0; have v0 := L.v0; have t3 := L.t3; have a3 := L.a3; have z3 := L.z3; have v3 := L.v3; have t4 := L.t4; have a4 := L.a4; have z4 := L.z4; have v4 := L.v4; have t5 := L.t5; have a5 := L.a5; have z5 := L.z5; have v5 := L.v5; have t22 := L.t22; have a22 := L.a22; have z22 := L.z22; have v22 := L.v22; have t25 := L.t25; have a25 := L.a25; have z25 := L.z25; have v25 := L.v25
  have aE := L.aE; have zE := L.zE
  have u22 := run_underlying L.t22
  have em : ∀ args w, (callFunc ρ.fm args).run P w = .ok (.enter ρ.fm args) w := FB.enters rfl
  obtain ⟨_, _, FG⟩ := FB
  have S0 : Aside (SWK enc k w0 blk off d w) := S
  have HC : Aside (CmpLays P g cb enc k cf blk off d0.size w0) := hC
  have HO : Aside (SWO (ltOf cf) ∧ Rg (ltOf cf) t a m d ∧ Rg (ltOf cf) t m b d ∧ Lr t a m b d) := ⟨hS, hA, hB, hL⟩
  have HI : Aside _ := IH
  have RT : Aside (∀ (x y : Nat) (wr : World), x < m → m < y → y ≤ n0 → SWK enc k w0 blk off d wr → Calls P ρ.fr #[.slice (some ⟨blk, off, none⟩) n0 cap, .int .i64 x, .int .i64 m, .int .i64 y, .func (.func g) #[] cb] wr fun e w' => e = .returned (.tuple #[]) ∧ ∃ d', Rot d d' m (m - x) (y - m) ∧ SWK enc k w0 blk off d' w') := fun x y wr h1 h2 h3 h4 => by
    have q := rotate_any ρ k L FR FS enc g cb blk off cap x m y d0 d w0 wr R (by omega) h4 h1 h2 (by omega) (by omega)
    rw [hds] at q; exact q
  have er : ∀ args w, (callFunc ρ.fr args).run P w = .ok (.enter ρ.fr args) w := FR.enters rfl
  clear S hC hS hA hB hL IH FR FS
  have HDS : Aside (d.size = n0 ∧ d0.size = n0) := ⟨hds, hs⟩
  clear hds hs
  obtain ⟨s0, r0, p, hs0, hp⟩ : ∃ s0 r0 p : Nat, (s0 = a ∧ r0 = m) ∧ p + 1 = mid + m := ⟨a, m, mid + m - 1, ⟨rfl, rfl⟩, by omega⟩
  have F : a ≤ s0 ∧ s0 ≤ r0 ∧ r0 ≤ m ∧ r0 ≤ p + 1 ∧ a < mid ∧ mid < b := by omega
  have FP : Aside (∀ c, s0 ≤ c → c < r0 → m + c ≤ p ∧ p - c < b) := fun c h1 h2 => by omega
  have E1 : ((a : Int) + (b : Int)) / 2 = (mid : Int) := by omega
  have hn1 : ¬ (m : Int) - (a : Int) = 1 := by omega
  have hn2 : ((m : Int) - (a : Int) == 1) = false := by simp; omega
  have hn3 : ¬ (b : Int) - (m : Int) = 1 := by omega
  have hn4 : ((b : Int) - (m : Int) == 1) = false := by simp; omega
  have hcz : ¬ (mid : Int) < (m : Int) := by omega
  have E2 : (mid : Int) + (m : Int) = (mid : Int) + (m : Int) := by omega
  have E3 : (mid : Int) + (m : Int) - 1 = (p : Int) := by omega
  have W1 : mid + m < 9223372036854775808 := by omega
  have W1' : (mid : Int) + (m : Int) < 9223372036854775808 := by omega
  have HM : Aside (mid = (a + b) / 2 ∧ (s0 = a ∧ r0 = m) ∧ p + 1 = mid + m) := ⟨hmid, hs0, hp⟩
  clear hmid hs0 hp
  go_enter FG, merB_ntmps ρ
  go_wp2
  try rw [E3]
  clear hn1 hn2 hn3 hn4
  go_loopg [20, 21, 23] (r0 - s0) (fun kx si sj sh wr => ∃ (i j : Nat), si = .int .i64 i ∧ sj = .int .i64 j ∧ (s0 ≤ i ∧ i ≤ j ∧ j ≤ r0) ∧ kx = j - i ∧ Aside (SWK enc k w0 blk off d wr ∧ (∀ c, s0 ≤ c → c < i → ltOf cf d[p - c]! d[c]! = false) ∧ ∀ c, j ≤ c → c < r0 → ltOf cf d[p - c]! d[c]! = true))
  case atStart => exact ⟨s0, r0, by rw [HM.out.2.1.1], by rw [HM.out.2.1.2], ⟨by omega, by omega, by omega⟩, rfl, S0.out, fun h h1 h2 => by omega, fun h h1 h2 => by omega⟩
  case round =>
    clear S0
    obtain ⟨i, j, rfl, rfl, hij, hkx, S1⟩ := hrel
    by_cases hlt : i < j
    · have hlt' : (i : Int) < (j : Int) := by omega
      go_wp2_with fail
      obtain ⟨h, hh⟩ : ∃ h, h = (i + j) / 2 := ⟨_, rfl⟩
      have EH : ((i : Int) + (j : Int)) / 2 = (h : Int) := by omega
      rw [EH]
      have hb2 : i ≤ h ∧ h < j := by omega
      clear EH hh
      obtain ⟨q, hq⟩ : ∃ q, q = p - h := ⟨_, rfl⟩
      have PQ := FP.out h (by omega) (by omega)
      have e3 : ((p : Int) - (h : Int)).toNat = q := by omega
      have p3 : (0 : Int) ≤ (p : Int) - (h : Int) := by omega
      have b3 : (p : Int) - (h : Int) < (n0 : Int) := by omega
      have p4 : (h : Int) ≤ (p : Int) := by omega
      have b4 : (p : Int) < (n0 : Int) + (h : Int) := by omega
      have b5 : (p : Int) < (h : Int) + (n0 : Int) := by omega
      have r3 : IntKind.i64.wrap ((p : Int) - (h : Int)) = (p : Int) - (h : Int) := by rw [IntKind.wrap_i64]; omega
      have bh : (h : Int) < (n0 : Int) := by omega
      have hqd : q < b := by omega
      have hmq : m + h ≤ p := PQ.1
      have HQ : Aside (q = p - h) := hq
      clear hq PQ
      obtain ⟨xh, hxh⟩ : ∃ x, x = d[h]! := ⟨_, rfl⟩
      obtain ⟨xa, hxa⟩ : ∃ x, x = d[q]! := ⟨_, rfl⟩
      have lh := S1.out.1.ld R (by have := HDS.out; omega) P h (by have := HDS.out; omega)
      have la := S1.out.1.ld R (by have := HDS.out; omega) P q (by have := HDS.out; omega)
      rw [← hxh] at lh
      rw [← hxa] at la
      have hcg := S1.out.1.cmp HC.out (by have := HDS.out; omega) xa xh
      have S2 : Aside (∀ n os, SWK enc k w0 blk off d (grow (wr.drewN n) os)) := fun n os => S1.out.1.grown n os
      have S3 : Aside ((∀ c, s0 ≤ c → c < i → ltOf cf d[p - c]! d[c]! = false) ∧ ∀ c, j ≤ c → c < r0 → ltOf cf d[p - c]! d[c]! = true) := S1.out.2
      have HX : Aside (xh = d[h]! ∧ xa = d[q]!) := ⟨hxh, hxa⟩
      clear hxh hxa S1
      by_cases hlv : cf xa xh < 0
      · have hd : decide (cf xa xh < 0) = true := decide_eq_true hlv
        go_quiet_grown (first | (go_at_fn g; refine Calls.grown_of (hcg _ _)))
        have S4 : Aside (SWK enc k w0 blk off d (grow (wr.drewN nq) osq)) := S2.out nq osq
        clear lh la hcg S2
        generalize grow (wr.drewN nq) osq = wv at S4 ⊢
        clear nq osq
        go_wp2
        go_roundg (h - i)
        case measure => omega
        case rel => exact ⟨i, h, rfl, rfl, ⟨by omega, by omega, by omega⟩, rfl, S4.out, S3.out.1, fun x h1 h2 => bs3_yes HO.out.1 HO.out.2.1 HO.out.2.2.1 (show a ≤ h by omega) (by have := HQ.out; omega) (by rw [← HQ.out, ← HX.out.1, ← HX.out.2]; exact hd) x h1 (by omega) (FP.out x (by omega) h2).1⟩
      · have hd : decide (cf xa xh < 0) = false := decide_eq_false hlv
        go_quiet_grown (first | (go_at_fn g; refine Calls.grown_of (hcg _ _)))
        have S4 : Aside (SWK enc k w0 blk off d (grow (wr.drewN nq) osq)) := S2.out nq osq
        clear lh la hcg S2
        generalize grow (wr.drewN nq) osq = wv at S4 ⊢
        clear nq osq
        go_wp2
        go_roundg (j - (h + 1))
        case measure => omega
        case rel => exact ⟨h + 1, j, by go_num, rfl, ⟨by omega, by omega, by omega⟩, rfl, S4.out, fun x h1 h2 => bs3_no HO.out.1 HO.out.2.1 HO.out.2.2.1 (show h < m by omega) hmq (by rw [← HQ.out, ← HX.out.1, ← HX.out.2]; exact hd) x (by omega) h2 (FP.out x h1 (by omega)).2, S3.out.2⟩
    · obtain rfl : i = j := by omega
      obtain ⟨en, hen⟩ : ∃ en, i + en = mid + m := ⟨mid + m - i, by have := HM.out; omega⟩
      have EN : (mid : Int) + (m : Int) - (i : Int) = (en : Int) := by omega
      have WN : IntKind.i64.wrap ((mid : Int) + (m : Int) - (i : Int)) = (en : Int) := by rw [EN, IntKind.wrap_i64]; have := HM.out; omega
      have G : a ≤ i ∧ i ≤ m ∧ m ≤ en ∧ en ≤ b ∧ i ≤ mid ∧ mid ≤ en := by have := HM.out; omega
      have S5 : Aside (SWK enc k w0 blk off d wr) := S1.out.1
      have HV : Aside (∀ d', Rot d d' m (m - i) (en - m) → Hv (ltOf cf) t a i mid en b d d') := fun d' hr => hv_of HO.out.1 (by omega) (by omega) (by omega) (by omega) hen (by have := HDS.out; omega) HO.out.2.1 HO.out.2.2.1 HO.out.2.2.2
        (fun h1 h2 => by have z := S1.out.2.1 (i - 1) (by have := HM.out; omega) (by omega); rw [show p - (i - 1) = en by have := HM.out; omega] at z; exact z)
        (fun h1 h2 => by have z := S1.out.2.2 i (Nat.le_refl _) (by have := HM.out; omega); rw [show p - i = en - 1 by have := HM.out; omega] at z; exact z) hr
      have HE : Aside (i + en = mid + m) := hen
      have GH := Lib.hid G
      clear S1 hen HC FP hkx hij hlt E1 E2 E3 G
      have SH : i < m ∧ m < en ∨ i = m ∨ (i < m ∧ en = m) := by have := GH.out; omega
      rcases SH with c | c | c
      · skip
        have C1H := Lib.hid c
        clear c
        have g1 : (i : Int) < (m : Int) ∧ (m : Int) < (en : Int) := by have := GH.out; have := C1H.out; omega
        obtain ⟨g1a, g1b⟩ := g1
        have C1 := Lib.hid (RT.out i en wr C1H.out.1 C1H.out.2 (by have := GH.out; omega) S5.out)
        go_wp2_with fail
        refine C1.out.mono ?_
        rintro e w2 ⟨rfl, d1, RO, T1⟩
        have HV1 : Aside (Hv (ltOf cf) t a i mid en b d d1) := HV.out d1 RO
        have ST : Aside (SWK enc k w0 blk off d1 w2) := T1
        clear RO T1 C1 S5
        have SH2 : a < i ∧ i < mid ∨ a = i ∨ (a < i ∧ i = mid) := by have := GH.out; omega
        rcases SH2 with c2 | c2 | c2
        · try (exfalso; have := GH.out; have := C1H.out; have := HE.out; omega)
          all_goals
            have C2H := Lib.hid c2
            clear c2
            have g2 : (a : Int) < (i : Int) ∧ (i : Int) < (mid : Int) := by have := GH.out; have := C2H.out; omega
            obtain ⟨g2a, g2b⟩ := g2
            have C2 := Lib.hid (HI.out a i mid (by have := GH.out; have := C2H.out; omega) C2H.out.1 C2H.out.2 (by have := GH.out; omega) d1 w2 (by have := HDS.out; have := HV1.out.perm.1; omega) ST.out HV1.out.r1 HV1.out.r2 HV1.out.l1)
            go_wp2_with fail
            refine C2.out.mono ?_
            rintro e w3 ⟨rfl, d2, M2, T2⟩
            have MG1 : Aside (Mg (ltOf cf) t a mid d1 d2) := M2
            have ST2 : Aside (SWK enc k w0 blk off d2 w3) := T2
            clear M2 T2 C2 ST
            have SH3 : mid < en ∧ en < b ∨ mid = en ∨ (mid < en ∧ en = b) := by have := GH.out; omega
            rcases SH3 with c3 | c3 | c3
            · try (exfalso; have := GH.out; have := C1H.out; have := C2H.out; have := HE.out; omega)
              all_goals
                have C3H := Lib.hid c3
                clear c3
                have g3 : (mid : Int) < (en : Int) ∧ (en : Int) < (b : Int) := by have := GH.out; have := C3H.out; omega
                obtain ⟨g3a, g3b⟩ := g3
                have RR := Lib.hid (HV1.out.right (by have := GH.out; omega) MG1.out)
                have C3 := Lib.hid (HI.out mid en b (by have := GH.out; have := C3H.out; omega) C3H.out.1 C3H.out.2 (by have := GH.out; omega) d2 w3 (by have := HDS.out; have := HV1.out.perm.1; have := MG1.out.1.1; omega) ST2.out RR.out.1 RR.out.2.1 RR.out.2.2)
                go_wp2_with fail
                refine C3.out.mono ?_
                rintro e w4 ⟨rfl, d3, M3, T3⟩
                have M4 : Aside (Mg (ltOf cf) t mid b _ d3) := M3
                have T4 : Aside (SWK enc k w0 blk off d3 w4) := T3
                clear M3 T3 C3
                go_wp2_with fail
                go_end0
                exact ⟨rfl, d3, mg_join (by have := GH.out; omega) (by have := GH.out; omega) (by have := GH.out; have := HDS.out; omega) HV1.out MG1.out M4.out, T4.out⟩
            · try (exfalso; have := GH.out; have := C1H.out; have := C2H.out; have := HE.out; omega)
              all_goals
                have ce2 : mid = en := c3
                clear c3
                subst ce2
                have C3H := Lib.hid True.intro
                have RR := Lib.hid (HV1.out.right (by have := GH.out; omega) MG1.out)
                have M4 : Aside (Mg (ltOf cf) t mid b d2 d2) := mg_same RR.out.2.1
                go_wp2_with fail
                go_end0
                exact ⟨rfl, d2, mg_join (by have := GH.out; omega) (by have := GH.out; omega) (by have := GH.out; have := HDS.out; omega) HV1.out MG1.out M4.out, ST2.out⟩
            · try (exfalso; have := GH.out; have := C1H.out; have := C2H.out; have := HE.out; omega)
              all_goals
                obtain ⟨c3, ce⟩ := c3
                have ce2 : b = en := ce.symm
                clear ce
                subst ce2
                have C3H := Lib.hid c3
                clear c3
                have g3 : (mid : Int) < (b : Int) := by have := GH.out; have := C3H.out; omega
                have RR := Lib.hid (HV1.out.right (by have := GH.out; omega) MG1.out)
                have M4 : Aside (Mg (ltOf cf) t mid b d2 d2) := mg_same RR.out.1
                go_wp2_with fail
                go_end0
                exact ⟨rfl, d2, mg_join (by have := GH.out; omega) (by have := GH.out; omega) (by have := GH.out; have := HDS.out; omega) HV1.out MG1.out M4.out, ST2.out⟩
        · try (exfalso; have := GH.out; have := C1H.out; have := HE.out; omega)
          all_goals
            have ce2 : a = i := c2
            clear c2
            subst ce2
            have C2H := Lib.hid True.intro
            have MG1 : Aside (Mg (ltOf cf) t a mid d1 d1) := mg_same HV1.out.r2
            have ST2 := ST
            clear ST
            have SH3 : mid < en ∧ en < b ∨ mid = en ∨ (mid < en ∧ en = b) := by have := GH.out; omega
            rcases SH3 with c3 | c3 | c3
            · try (exfalso; have := GH.out; have := C1H.out; have := C2H.out; have := HE.out; omega)
              all_goals
                have C3H := Lib.hid c3
                clear c3
                have g3 : (mid : Int) < (en : Int) ∧ (en : Int) < (b : Int) := by have := GH.out; have := C3H.out; omega
                obtain ⟨g3a, g3b⟩ := g3
                have RR := Lib.hid (HV1.out.right (by have := GH.out; omega) MG1.out)
                have C3 := Lib.hid (HI.out mid en b (by have := GH.out; have := C3H.out; omega) C3H.out.1 C3H.out.2 (by have := GH.out; omega) d1 w2 (by have := HDS.out; have := HV1.out.perm.1; have := MG1.out.1.1; omega) ST2.out RR.out.1 RR.out.2.1 RR.out.2.2)
                go_wp2_with fail
                refine C3.out.mono ?_
                rintro e w4 ⟨rfl, d3, M3, T3⟩
                have M4 : Aside (Mg (ltOf cf) t mid b _ d3) := M3
                have T4 : Aside (SWK enc k w0 blk off d3 w4) := T3
                clear M3 T3 C3
                go_wp2_with fail
                go_end0
                exact ⟨rfl, d3, mg_join (by have := GH.out; omega) (by have := GH.out; omega) (by have := GH.out; have := HDS.out; omega) HV1.out MG1.out M4.out, T4.out⟩
            · try (exfalso; have := GH.out; have := C1H.out; have := C2H.out; have := HE.out; omega)
              all_goals
                have ce2 : mid = en := c3
                clear c3
                subst ce2
                have C3H := Lib.hid True.intro
                have RR := Lib.hid (HV1.out.right (by have := GH.out; omega) MG1.out)
                have M4 : Aside (Mg (ltOf cf) t mid b d1 d1) := mg_same RR.out.2.1
                go_wp2_with fail
                go_end0
                exact ⟨rfl, d1, mg_join (by have := GH.out; omega) (by have := GH.out; omega) (by have := GH.out; have := HDS.out; omega) HV1.out MG1.out M4.out, ST2.out⟩
            · try (exfalso; have := GH.out; have := C1H.out; have := C2H.out; have := HE.out; omega)
              all_goals
                obtain ⟨c3, ce⟩ := c3
                have ce2 : b = en := ce.symm
                clear ce
                subst ce2
                have C3H := Lib.hid c3
                clear c3
                have g3 : (mid : Int) < (b : Int) := by have := GH.out; have := C3H.out; omega
                have RR := Lib.hid (HV1.out.right (by have := GH.out; omega) MG1.out)
                have M4 : Aside (Mg (ltOf cf) t mid b d1 d1) := mg_same RR.out.1
                go_wp2_with fail
                go_end0
                exact ⟨rfl, d1, mg_join (by have := GH.out; omega) (by have := GH.out; omega) (by have := GH.out; have := HDS.out; omega) HV1.out MG1.out M4.out, ST2.out⟩
        · try (exfalso; have := GH.out; have := C1H.out; have := HE.out; omega)
          all_goals
            obtain ⟨c2, ce⟩ := c2
            have ce2 : mid = i := ce.symm
            clear ce
            subst ce2
            have C2H := Lib.hid c2
            clear c2
            have g2 : (a : Int) < (mid : Int) := by have := GH.out; have := C2H.out; omega
            have MG1 : Aside (Mg (ltOf cf) t a mid d1 d1) := mg_same HV1.out.r1
            have ST2 := ST
            clear ST
            have SH3 : mid < en ∧ en < b ∨ mid = en ∨ (mid < en ∧ en = b) := by have := GH.out; omega
            rcases SH3 with c3 | c3 | c3
            · try (exfalso; have := GH.out; have := C1H.out; have := C2H.out; have := HE.out; omega)
              all_goals
                have C3H := Lib.hid c3
                clear c3
                have g3 : (mid : Int) < (en : Int) ∧ (en : Int) < (b : Int) := by have := GH.out; have := C3H.out; omega
                obtain ⟨g3a, g3b⟩ := g3
                have RR := Lib.hid (HV1.out.right (by have := GH.out; omega) MG1.out)
                have C3 := Lib.hid (HI.out mid en b (by have := GH.out; have := C3H.out; omega) C3H.out.1 C3H.out.2 (by have := GH.out; omega) d1 w2 (by have := HDS.out; have := HV1.out.perm.1; have := MG1.out.1.1; omega) ST2.out RR.out.1 RR.out.2.1 RR.out.2.2)
                go_wp2_with fail
                refine C3.out.mono ?_
                rintro e w4 ⟨rfl, d3, M3, T3⟩
                have M4 : Aside (Mg (ltOf cf) t mid b _ d3) := M3
                have T4 : Aside (SWK enc k w0 blk off d3 w4) := T3
                clear M3 T3 C3
                go_wp2_with fail
                go_end0
                exact ⟨rfl, d3, mg_join (by have := GH.out; omega) (by have := GH.out; omega) (by have := GH.out; have := HDS.out; omega) HV1.out MG1.out M4.out, T4.out⟩
            · try (exfalso; have := GH.out; have := C1H.out; have := C2H.out; have := HE.out; omega)
              all_goals
                have ce2 : mid = en := c3
                clear c3
                subst ce2
                have C3H := Lib.hid True.intro
                have RR := Lib.hid (HV1.out.right (by have := GH.out; omega) MG1.out)
                have M4 : Aside (Mg (ltOf cf) t mid b d1 d1) := mg_same RR.out.2.1
                go_wp2_with fail
                go_end0
                exact ⟨rfl, d1, mg_join (by have := GH.out; omega) (by have := GH.out; omega) (by have := GH.out; have := HDS.out; omega) HV1.out MG1.out M4.out, ST2.out⟩
            · try (exfalso; have := GH.out; have := C1H.out; have := C2H.out; have := HE.out; omega)
              all_goals
                obtain ⟨c3, ce⟩ := c3
                have ce2 : b = en := ce.symm
                clear ce
                subst ce2
                have C3H := Lib.hid c3
                clear c3
                have g3 : (mid : Int) < (b : Int) := by have := GH.out; have := C3H.out; omega
                have RR := Lib.hid (HV1.out.right (by have := GH.out; omega) MG1.out)
                have M4 : Aside (Mg (ltOf cf) t mid b d1 d1) := mg_same RR.out.1
                go_wp2_with fail
                go_end0
                exact ⟨rfl, d1, mg_join (by have := GH.out; omega) (by have := GH.out; omega) (by have := GH.out; have := HDS.out; omega) HV1.out MG1.out M4.out, ST2.out⟩
      · skip
        have ce2 : m = i := c.symm
        clear c
        subst ce2
        have C1H := Lib.hid True.intro
        obtain ⟨d1, hd1⟩ : ∃ d1, d1 = d := ⟨_, rfl⟩
        have HV1 : Aside (Hv (ltOf cf) t a m mid en b d d1) := (by rw [hd1]; exact HV.out d (rot_none d _ _ _ (by omega)))
        have ST : Aside (SWK enc k w0 blk off d1 wr) := (by rw [hd1]; exact S5.out)
        clear hd1 S5
        have SH2 : a < m ∧ m < mid ∨ a = m ∨ (a < m ∧ m = mid) := by have := GH.out; omega
        rcases SH2 with c2 | c2 | c2
        · try (exfalso; have := GH.out; have := C1H.out; have := HE.out; omega)
          all_goals
            have C2H := Lib.hid c2
            clear c2
            have g2 : (a : Int) < (m : Int) ∧ (m : Int) < (mid : Int) := by have := GH.out; have := C2H.out; omega
            obtain ⟨g2a, g2b⟩ := g2
            have C2 := Lib.hid (HI.out a m mid (by have := GH.out; have := C2H.out; omega) C2H.out.1 C2H.out.2 (by have := GH.out; omega) d1 wr (by have := HDS.out; have := HV1.out.perm.1; omega) ST.out HV1.out.r1 HV1.out.r2 HV1.out.l1)
            go_wp2_with fail
            refine C2.out.mono ?_
            rintro e w3 ⟨rfl, d2, M2, T2⟩
            have MG1 : Aside (Mg (ltOf cf) t a mid d1 d2) := M2
            have ST2 : Aside (SWK enc k w0 blk off d2 w3) := T2
            clear M2 T2 C2 ST
            have SH3 : mid < en ∧ en < b ∨ mid = en ∨ (mid < en ∧ en = b) := by have := GH.out; omega
            rcases SH3 with c3 | c3 | c3
            · try (exfalso; have := GH.out; have := C1H.out; have := C2H.out; have := HE.out; omega)
              all_goals
                have C3H := Lib.hid c3
                clear c3
                have g3 : (mid : Int) < (en : Int) ∧ (en : Int) < (b : Int) := by have := GH.out; have := C3H.out; omega
                obtain ⟨g3a, g3b⟩ := g3
                have RR := Lib.hid (HV1.out.right (by have := GH.out; omega) MG1.out)
                have C3 := Lib.hid (HI.out mid en b (by have := GH.out; have := C3H.out; omega) C3H.out.1 C3H.out.2 (by have := GH.out; omega) d2 w3 (by have := HDS.out; have := HV1.out.perm.1; have := MG1.out.1.1; omega) ST2.out RR.out.1 RR.out.2.1 RR.out.2.2)
                go_wp2_with fail
                refine C3.out.mono ?_
                rintro e w4 ⟨rfl, d3, M3, T3⟩
                have M4 : Aside (Mg (ltOf cf) t mid b _ d3) := M3
                have T4 : Aside (SWK enc k w0 blk off d3 w4) := T3
                clear M3 T3 C3
                go_wp2_with fail
                go_end0
                exact ⟨rfl, d3, mg_join (by have := GH.out; omega) (by have := GH.out; omega) (by have := GH.out; have := HDS.out; omega) HV1.out MG1.out M4.out, T4.out⟩
            · try (exfalso; have := GH.out; have := C1H.out; have := C2H.out; have := HE.out; omega)
              all_goals
                have ce2 : mid = en := c3
                clear c3
                subst ce2
                have C3H := Lib.hid True.intro
                have RR := Lib.hid (HV1.out.right (by have := GH.out; omega) MG1.out)
                have M4 : Aside (Mg (ltOf cf) t mid b d2 d2) := mg_same RR.out.2.1
                go_wp2_with fail
                go_end0
                exact ⟨rfl, d2, mg_join (by have := GH.out; omega) (by have := GH.out; omega) (by have := GH.out; have := HDS.out; omega) HV1.out MG1.out M4.out, ST2.out⟩
            · try (exfalso; have := GH.out; have := C1H.out; have := C2H.out; have := HE.out; omega)
              all_goals
                obtain ⟨c3, ce⟩ := c3
                have ce2 : b = en := ce.symm
                clear ce
                subst ce2
                have C3H := Lib.hid c3
                clear c3
                have g3 : (mid : Int) < (b : Int) := by have := GH.out; have := C3H.out; omega
                have RR := Lib.hid (HV1.out.right (by have := GH.out; omega) MG1.out)
                have M4 : Aside (Mg (ltOf cf) t mid b d2 d2) := mg_same RR.out.1
                go_wp2_with fail
                go_end0
                exact ⟨rfl, d2, mg_join (by have := GH.out; omega) (by have := GH.out; omega) (by have := GH.out; have := HDS.out; omega) HV1.out MG1.out M4.out, ST2.out⟩
        · exact absurd c2 (by omega)
        · try (exfalso; have := GH.out; have := C1H.out; have := HE.out; omega)
          all_goals
            obtain ⟨c2, ce⟩ := c2
            have ce2 : m = mid := ce
            clear ce
            subst ce2
            have C2H := Lib.hid c2
            clear c2
            have g2 : (a : Int) < (m : Int) := by have := GH.out; have := C2H.out; omega
            have MG1 : Aside (Mg (ltOf cf) t a m d1 d1) := mg_same HV1.out.r1
            have ST2 := ST
            clear ST
            have SH3 : m < en ∧ en < b ∨ m = en ∨ (m < en ∧ en = b) := by have := GH.out; omega
            rcases SH3 with c3 | c3 | c3
            · try (exfalso; have := GH.out; have := C1H.out; have := C2H.out; have := HE.out; omega)
              all_goals
                have C3H := Lib.hid c3
                clear c3
                have g3 : (m : Int) < (en : Int) ∧ (en : Int) < (b : Int) := by have := GH.out; have := C3H.out; omega
                obtain ⟨g3a, g3b⟩ := g3
                have RR := Lib.hid (HV1.out.right (by have := GH.out; omega) MG1.out)
                have C3 := Lib.hid (HI.out m en b (by have := GH.out; have := C3H.out; omega) C3H.out.1 C3H.out.2 (by have := GH.out; omega) d1 wr (by have := HDS.out; have := HV1.out.perm.1; have := MG1.out.1.1; omega) ST2.out RR.out.1 RR.out.2.1 RR.out.2.2)
                go_wp2_with fail
                refine C3.out.mono ?_
                rintro e w4 ⟨rfl, d3, M3, T3⟩
                have M4 : Aside (Mg (ltOf cf) t m b _ d3) := M3
                have T4 : Aside (SWK enc k w0 blk off d3 w4) := T3
                clear M3 T3 C3
                go_wp2_with fail
                go_end0
                exact ⟨rfl, d3, mg_join (by have := GH.out; omega) (by have := GH.out; omega) (by have := GH.out; have := HDS.out; omega) HV1.out MG1.out M4.out, T4.out⟩
            · try (exfalso; have := GH.out; have := C1H.out; have := C2H.out; have := HE.out; omega)
              all_goals
                have ce2 : m = en := c3
                clear c3
                subst ce2
                have C3H := Lib.hid True.intro
                have RR := Lib.hid (HV1.out.right (by have := GH.out; omega) MG1.out)
                have M4 : Aside (Mg (ltOf cf) t m b d1 d1) := mg_same RR.out.2.1
                go_wp2_with fail
                go_end0
                exact ⟨rfl, d1, mg_join (by have := GH.out; omega) (by have := GH.out; omega) (by have := GH.out; have := HDS.out; omega) HV1.out MG1.out M4.out, ST2.out⟩
            · try (exfalso; have := GH.out; have := C1H.out; have := C2H.out; have := HE.out; omega)
              all_goals
                obtain ⟨c3, ce⟩ := c3
                have ce2 : b = en := ce.symm
                clear ce
                subst ce2
                have C3H := Lib.hid c3
                clear c3
                have g3 : (m : Int) < (b : Int) := by have := GH.out; have := C3H.out; omega
                have RR := Lib.hid (HV1.out.right (by have := GH.out; omega) MG1.out)
                have M4 : Aside (Mg (ltOf cf) t m b d1 d1) := mg_same RR.out.1
                go_wp2_with fail
                go_end0
                exact ⟨rfl, d1, mg_join (by have := GH.out; omega) (by have := GH.out; omega) (by have := GH.out; have := HDS.out; omega) HV1.out MG1.out M4.out, ST2.out⟩
      · skip
        obtain ⟨c, ce⟩ := c
        have ce2 : m = en := ce.symm
        clear ce
        subst ce2
        have C1H := Lib.hid c
        clear c
        have g1 : (i : Int) < (m : Int) := by have := GH.out; have := C1H.out; omega
        obtain ⟨d1, hd1⟩ : ∃ d1, d1 = d := ⟨_, rfl⟩
        have HV1 : Aside (Hv (ltOf cf) t a i mid m b d d1) := (by rw [hd1]; exact HV.out d (rot_none d _ _ _ (by omega)))
        have ST : Aside (SWK enc k w0 blk off d1 wr) := (by rw [hd1]; exact S5.out)
        clear hd1 S5
        have SH2 : a < i ∧ i < mid ∨ a = i ∨ (a < i ∧ i = mid) := by have := GH.out; omega
        rcases SH2 with c2 | c2 | c2
        · try (exfalso; have := GH.out; have := C1H.out; have := HE.out; omega)
          all_goals
            have C2H := Lib.hid c2
            clear c2
            have g2 : (a : Int) < (i : Int) ∧ (i : Int) < (mid : Int) := by have := GH.out; have := C2H.out; omega
            obtain ⟨g2a, g2b⟩ := g2
            have C2 := Lib.hid (HI.out a i mid (by have := GH.out; have := C2H.out; omega) C2H.out.1 C2H.out.2 (by have := GH.out; omega) d1 wr (by have := HDS.out; have := HV1.out.perm.1; omega) ST.out HV1.out.r1 HV1.out.r2 HV1.out.l1)
            go_wp2_with fail
            refine C2.out.mono ?_
            rintro e w3 ⟨rfl, d2, M2, T2⟩
            have MG1 : Aside (Mg (ltOf cf) t a mid d1 d2) := M2
            have ST2 : Aside (SWK enc k w0 blk off d2 w3) := T2
            clear M2 T2 C2 ST
            have SH3 : mid < m ∧ m < b ∨ mid = m ∨ (mid < m ∧ m = b) := by have := GH.out; omega
            rcases SH3 with c3 | c3 | c3
            · try (exfalso; have := GH.out; have := C1H.out; have := C2H.out; have := HE.out; omega)
              all_goals
                have C3H := Lib.hid c3
                clear c3
                have g3 : (mid : Int) < (m : Int) ∧ (m : Int) < (b : Int) := by have := GH.out; have := C3H.out; omega
                obtain ⟨g3a, g3b⟩ := g3
                have RR := Lib.hid (HV1.out.right (by have := GH.out; omega) MG1.out)
                have C3 := Lib.hid (HI.out mid m b (by have := GH.out; have := C3H.out; omega) C3H.out.1 C3H.out.2 (by have := GH.out; omega) d2 w3 (by have := HDS.out; have := HV1.out.perm.1; have := MG1.out.1.1; omega) ST2.out RR.out.1 RR.out.2.1 RR.out.2.2)
                go_wp2_with fail
                refine C3.out.mono ?_
                rintro e w4 ⟨rfl, d3, M3, T3⟩
                have M4 : Aside (Mg (ltOf cf) t mid b _ d3) := M3
                have T4 : Aside (SWK enc k w0 blk off d3 w4) := T3
                clear M3 T3 C3
                go_wp2_with fail
                go_end0
                exact ⟨rfl, d3, mg_join (by have := GH.out; omega) (by have := GH.out; omega) (by have := GH.out; have := HDS.out; omega) HV1.out MG1.out M4.out, T4.out⟩
            · try (exfalso; have := GH.out; have := C1H.out; have := C2H.out; have := HE.out; omega)
              all_goals
                have C3H := Lib.hid c3
                clear c3
                have g3 : ¬ (mid : Int) < (m : Int) := by have := GH.out; have := C3H.out; omega
                have RR := Lib.hid (HV1.out.right (by have := GH.out; omega) MG1.out)
                have M4 : Aside (Mg (ltOf cf) t mid b d2 d2) := mg_same (C3H.out ▸ RR.out.2.1)
                go_wp2_with fail
                go_end0
                exact ⟨rfl, d2, mg_join (by have := GH.out; omega) (by have := GH.out; omega) (by have := GH.out; have := HDS.out; omega) HV1.out MG1.out M4.out, ST2.out⟩
            · exact absurd c3.2 (by omega)
        · try (exfalso; have := GH.out; have := C1H.out; have := HE.out; omega)
          all_goals
            have ce2 : a = i := c2
            clear c2
            subst ce2
            have C2H := Lib.hid True.intro
            have MG1 : Aside (Mg (ltOf cf) t a mid d1 d1) := mg_same HV1.out.r2
            have ST2 := ST
            clear ST
            have SH3 : mid < m ∧ m < b ∨ mid = m ∨ (mid < m ∧ m = b) := by have := GH.out; omega
            rcases SH3 with c3 | c3 | c3
            · try (exfalso; have := GH.out; have := C1H.out; have := C2H.out; have := HE.out; omega)
              all_goals
                have C3H := Lib.hid c3
                clear c3
                have g3 : (mid : Int) < (m : Int) ∧ (m : Int) < (b : Int) := by have := GH.out; have := C3H.out; omega
                obtain ⟨g3a, g3b⟩ := g3
                have RR := Lib.hid (HV1.out.right (by have := GH.out; omega) MG1.out)
                have C3 := Lib.hid (HI.out mid m b (by have := GH.out; have := C3H.out; omega) C3H.out.1 C3H.out.2 (by have := GH.out; omega) d1 wr (by have := HDS.out; have := HV1.out.perm.1; have := MG1.out.1.1; omega) ST2.out RR.out.1 RR.out.2.1 RR.out.2.2)
                go_wp2_with fail
                refine C3.out.mono ?_
                rintro e w4 ⟨rfl, d3, M3, T3⟩
                have M4 : Aside (Mg (ltOf cf) t mid b _ d3) := M3
                have T4 : Aside (SWK enc k w0 blk off d3 w4) := T3
                clear M3 T3 C3
                go_wp2_with fail
                go_end0
                exact ⟨rfl, d3, mg_join (by have := GH.out; omega) (by have := GH.out; omega) (by have := GH.out; have := HDS.out; omega) HV1.out MG1.out M4.out, T4.out⟩
            · try (exfalso; have := GH.out; have := C1H.out; have := C2H.out; have := HE.out; omega)
              all_goals
                have C3H := Lib.hid c3
                clear c3
                have g3 : ¬ (mid : Int) < (m : Int) := by have := GH.out; have := C3H.out; omega
                have RR := Lib.hid (HV1.out.right (by have := GH.out; omega) MG1.out)
                have M4 : Aside (Mg (ltOf cf) t mid b d1 d1) := mg_same (C3H.out ▸ RR.out.2.1)
                go_wp2_with fail
                go_end0
                exact ⟨rfl, d1, mg_join (by have := GH.out; omega) (by have := GH.out; omega) (by have := GH.out; have := HDS.out; omega) HV1.out MG1.out M4.out, ST2.out⟩
            · exact absurd c3.2 (by omega)
        · try (exfalso; have := GH.out; have := C1H.out; have := HE.out; omega)
          all_goals
            obtain ⟨c2, ce⟩ := c2
            have ce2 : mid = i := ce.symm
            clear ce
            subst ce2
            have C2H := Lib.hid c2
            clear c2
            have g2 : (a : Int) < (mid : Int) := by have := GH.out; have := C2H.out; omega
            have MG1 : Aside (Mg (ltOf cf) t a mid d1 d1) := mg_same HV1.out.r1
            have ST2 := ST
            clear ST
            have SH3 : mid < m ∧ m < b ∨ mid = m ∨ (mid < m ∧ m = b) := by have := GH.out; omega
            rcases SH3 with c3 | c3 | c3
            · try (exfalso; have := GH.out; have := C1H.out; have := C2H.out; have := HE.out; omega)
              all_goals
                have C3H := Lib.hid c3
                clear c3
                have g3 : (mid : Int) < (m : Int) ∧ (m : Int) < (b : Int) := by have := GH.out; have := C3H.out; omega
                obtain ⟨g3a, g3b⟩ := g3
                have RR := Lib.hid (HV1.out.right (by have := GH.out; omega) MG1.out)
                have C3 := Lib.hid (HI.out mid m b (by have := GH.out; have := C3H.out; omega) C3H.out.1 C3H.out.2 (by have := GH.out; omega) d1 wr (by have := HDS.out; have := HV1.out.perm.1; have := MG1.out.1.1; omega) ST2.out RR.out.1 RR.out.2.1 RR.out.2.2)
                go_wp2_with fail
                refine C3.out.mono ?_
                rintro e w4 ⟨rfl, d3, M3, T3⟩
                have M4 : Aside (Mg (ltOf cf) t mid b _ d3) := M3
                have T4 : Aside (SWK enc k w0 blk off d3 w4) := T3
                clear M3 T3 C3
                go_wp2_with fail
                go_end0
                exact ⟨rfl, d3, mg_join (by have := GH.out; omega) (by have := GH.out; omega) (by have := GH.out; have := HDS.out; omega) HV1.out MG1.out M4.out, T4.out⟩
            · try (exfalso; have := GH.out; have := C1H.out; have := C2H.out; have := HE.out; omega)
              all_goals
                have C3H := Lib.hid c3
                clear c3
                have g3 : ¬ (mid : Int) < (m : Int) := by have := GH.out; have := C3H.out; omega
                have RR := Lib.hid (HV1.out.right (by have := GH.out; omega) MG1.out)
                have M4 : Aside (Mg (ltOf cf) t mid b d1 d1) := mg_same (C3H.out ▸ RR.out.2.1)
                go_wp2_with fail
                go_end0
                exact ⟨rfl, d1, mg_join (by have := GH.out; omega) (by have := GH.out; omega) (by have := GH.out; have := HDS.out; omega) HV1.out MG1.out M4.out, ST2.out⟩
            · exact absurd c3.2 (by omega)
end Ss
end Go.Proofs.YtehgnbgbmicheaaGreatDoor
end S1

section S2
namespace Go.Proofs.YtehgnbgbmicheaaGreatDoor
open Go.Shelf Go.RowKit Go.Lib Go.Sort
namespace Ss
variable {P : Program} {α : Type} [Inhabited α]
theorem mer_any (ρ : Nms) (k : Nat) (L : Ld P ρ k) (FB : Bears P ρ.fm (merB ρ)) (FR : Bears P ρ.fr (rotB ρ)) (FS : Bears P ρ.fs (swapB ρ)) (enc : α → List Value) (cf : α → α → Int) (t : α → Nat) (hS : SWO (ltOf cf)) (g : Nat) (cb : Array Value) (eg : ∀ args w, (callFunc g args).run P w = .ok (.enter g args) w) (blk off cap n0 : Nat) (d0 : Array α) (w0 : World)
    (R : RowK enc k w0 blk off d0) (hs : d0.size = n0) (hC : CmpLays P g cb enc k cf blk off d0.size w0) (hsz : n0 < 4611686018427387904) :
    ∀ (n a m b : Nat), b - a < n → a < m → m < b → b ≤ n0 → MerC P ρ enc k cf t g cb blk off cap w0 n0 a m b
  | 0, a, m, b, hn, _, _, _ => absurd hn (Nat.not_lt_zero _)
  | n + 1, a, m, b, hn, ham, hmb, hb => by
    have IH := mer_any ρ k L FB FR FS enc cf t hS g cb eg blk off cap n0 d0 w0 R hs hC hsz n
    by_cases h1 : m = a + 1
    · subst h1
      intro d w hds S hA hB hL
      subst hds
      exact mer_left ρ k L FB enc cf t hS g cb eg blk off cap a b d0 d w0 w R hs hC S (by omega) hb hsz hB hL
    · by_cases h2 : b = m + 1
      · subst h2
        intro d w hds S hA hB hL
        subst hds
        exact mer_right ρ k L FB enc cf t hS g cb eg blk off cap a m d0 d w0 w R hs hC S (by omega) hb hsz hA hL
      · by_cases h3 : (a + b) / 2 < m
        · exact mer_midA ρ k L FB FR FS enc cf t hS g cb eg blk off cap n0 a m b _ d0 w0 R hs hC (by omega) (by omega) hb hsz rfl h3 (fun a' m' b' q1 q2 q3 q4 => IH a' m' b' (by omega) q2 q3 q4)
        · exact mer_midB ρ k L FB FR FS enc cf t hS g cb eg blk off cap n0 a m b _ d0 w0 R hs hC (by omega) (by omega) hb hsz rfl (by omega) (fun a' m' b' q1 q2 q3 q4 => IH a' m' b' (by omega) q2 q3 q4)
end Ss
end Go.Proofs.YtehgnbgbmicheaaGreatDoor
end S2
