/-
  AccessHoldsSixteen.
-/
import Derived.Test.YtiddgagfdijjeaaDoorLawSx0
namespace Go.Proofs.YtiddgagfdijjeaaDoor
open Go.RowKit
namespace Ac
set_option maxHeartbeats 64000000 in
set_option maxRecDepth 100000 in
theorem sixteen (path : ByteArray) (gone : Int) (w : World) (hm : L.HasM w) (hp : path.size ≤ 140737488351232) (_ : -9223372036854775808 ≤ gone ∧ gone ≤ 9223372036854775807) :
    Calls Tryd.prog 4 #[.string path, .int .i64 gone] w fun e w' => e = .returned (.bool true) ∧ Below w.heap.size w w' := by
  have HM := Lib.hid hm
  have HP := Lib.hid hp
  clear hm hp
  go_enter Tryd.func4, Tryd.ntmps4
  go_wp2_with fail
  refine (lives_any w HM.out).mono ?_
  rintro e w1 ⟨t, b, rfl, S1⟩
  have T1 : Hid (Ta w1 t b (0 + 1) D2 ∧ Below w.heap.size w w1 ∧ w.heap.size ≤ b) := S1
  clear S1
  go_wp2_with fail
  refine (L.path_any path w1 T1.out.1.hm).mono ?_
  rintro e w2 ⟨rfl, hb⟩
  have T2 : Hid (Ta w2 t b (0 + 1) D2 ∧ Below w.heap.size w w2 ∧ w.heap.size ≤ b) := Lib.hid ⟨T1.out.1.below hb, T1.out.2.1.trans (hb.mono T1.out.2.1.size), T1.out.2.2⟩
  clear hb T1
  cases hs : L.splitO path with
  | none =>
    have e41 : L.splitE path = 41 := splitE_no hs
    rw [e41]
    have HS := Lib.hid hs
    clear hs e41
    have BA : Hid ((bdR ⟨path, ⟨#[97]⟩, ⟨#[115]⟩, 0⟩).2 ≠ 0) := Lib.hid (fun q => by have := bd_path q; simp only at this; rw [HS.out] at this; simp at this)
    have FI : Hid (Bd.Fit ⟨path, ⟨#[97]⟩, ⟨#[115]⟩, 0⟩) := Lib.hid ⟨⟨by have := HP.out; show path.size ≤ _; omega, by show 1 ≤ 140737488355328; decide, by show 1 ≤ 140737488355328; decide⟩, by show (-9223372036854775808 : Int) ≤ 0; decide, by show (0 : Int) ≤ 9223372036854775807; decide⟩
    go_wp2_with fail
    refine (set_ex ⟨path, ⟨#[97]⟩, ⟨#[115]⟩, 0⟩ w2 t b (0 + 1) D2 T2.out.1 (by decide) FI.out).mono ?_
    rintro e w3 ⟨r, D', rfl, hT, hk, hs⟩
    obtain rfl : r = 130 := by
      rcases hs with ⟨_, q, _⟩ | ⟨_, q, _⟩ | ⟨q, _⟩
      · exact absurd q BA.out
      · exact absurd q BA.out
      · exact q
    have B3 : Hid (Below w.heap.size w w3) := Lib.hid (T2.out.2.1.trans (hk.below T2.out.2.1.size (fun x e => by rw [e]; exact T2.out.2.2)))
    clear hT hk hs
    go_wp2_with fail
    go_ret
    exact ⟨rfl, B3.out⟩
  | some ts =>
    have e0 : L.splitE path = 0 := by unfold L.splitE; rw [hs]; rfl
    rw [e0]
    have HS := Lib.hid hs
    clear hs e0
    have SX : Hid (Sx w t b (0 + 1) path (Nn 0) [] w2) := Lib.hid ⟨⟨D2, T2.out.1, tt_start path⟩, T2.out.2.1, T2.out.2.2, by omega, by rw [HS.out]; rfl, fun x hx => by simp at hx⟩
    clear T2
    obtain ⟨g, hgd⟩ : ∃ g : Nat, (g : Int) = bits .and .i64 gone 15 := ⟨mk gone 4, (and_15 gone).symm⟩
    have hg16 : g < 16 := by
      have e := and_15 gone
      rw [← hgd] at e
      have : g = mk gone 4 := by omega
      rw [this]
      exact mk_lt gone 4
    have hgd' := hgd.symm
    clear hgd
    go_wp2_with fail
    go_loopg [6] 16 (fun gg si wr => ∃ k : Nat, k ≤ 16 ∧ gg = 16 - k ∧ si = .int .i64 k ∧ Hid (Sx w t b (k + 1) path (Nn k) [] wr))
    case atStart => exact ⟨0, by omega, rfl, rfl, SX⟩
    case round =>
      clear SX
      obtain ⟨k, hk, hgk, rfl, S⟩ := hrel
      have G := Lib.hid hgk
      clear hgk
      by_cases hk16 : k < 16
      · have SE : Hid (∀ W : World, Sx w t b (k + 1) path (Nn k) [] W → Calls Tryd.prog 13 #[.pointer (some ⟨t, 0, none⟩), .agg #[.string path, .string (nm k), .string ⟨#[115]⟩, .int .i64 ((k % 4 : Nat) : Int)]] W fun r w' => r = .returned (.int .i64 0) ∧ Hid (Sx w t b (k + 1 + 1) path (Nn (k + 1)) [] w')) := Lib.hid fun W h => (sx_set (en k) h (ok_en k hk16) (by omega) (ok_go k hk16)).mono fun r w' ⟨h1, h2⟩ => ⟨h1, Lib.hid h2⟩
        obtain rfl | rfl | rfl | rfl | rfl | rfl | rfl | rfl | rfl | rfl | rfl | rfl | rfl | rfl | rfl | rfl : k = 0 ∨ k = 1 ∨ k = 2 ∨ k = 3 ∨ k = 4 ∨ k = 5 ∨ k = 6 ∨ k = 7 ∨ k = 8 ∨ k = 9 ∨ k = 10 ∨ k = 11 ∨ k = 12 ∨ k = 13 ∨ k = 14 ∨ k = 15 := by omega
        · clear hk16
          have cv : (convert 38 9 (.slice (some ⟨wr.heap.size, 0, none⟩) 1 1)).run Tryd.prog (wr.alloc (.cells #[.int .u8 97] 5)) = .ok (.string ⟨#[97]⟩) (wr.alloc (.cells #[.int .u8 97] 5)) := conv_one wr 97 (by decide)
          have ca : ((⟨#[110]⟩ : ByteArray) ++ (⟨#[97]⟩ : ByteArray)) = ⟨#[110, 97]⟩ := by decide +kernel
          have cb : bits .and .i64 0 3 = 0 := by decide +kernel
          go_wp2_with fail
          refine (SE.out _ (S.out.below ((Below.refl _ _).alloc (Nat.le_refl _) _))).mono ?_
          rintro r w3 ⟨rfl, S3⟩
          clear cv ca cb
          go_wp2_with fail
          go_roundg (16 - (0 + 1))
          case measure => have := G.out; omega
          case rel => exact ⟨1, by omega, rfl, by go_num, S3⟩
        · clear hk16
          have cv : (convert 38 9 (.slice (some ⟨wr.heap.size, 0, none⟩) 1 1)).run Tryd.prog (wr.alloc (.cells #[.int .u8 98] 5)) = .ok (.string ⟨#[98]⟩) (wr.alloc (.cells #[.int .u8 98] 5)) := conv_one wr 98 (by decide)
          have ca : ((⟨#[110]⟩ : ByteArray) ++ (⟨#[98]⟩ : ByteArray)) = ⟨#[110, 98]⟩ := by decide +kernel
          have cb : bits .and .i64 1 3 = 1 := by decide +kernel
          go_wp2_with fail
          refine (SE.out _ (S.out.below ((Below.refl _ _).alloc (Nat.le_refl _) _))).mono ?_
          rintro r w3 ⟨rfl, S3⟩
          clear cv ca cb
          go_wp2_with fail
          go_roundg (16 - (1 + 1))
          case measure => have := G.out; omega
          case rel => exact ⟨2, by omega, rfl, by go_num, S3⟩
        · clear hk16
          have cv : (convert 38 9 (.slice (some ⟨wr.heap.size, 0, none⟩) 1 1)).run Tryd.prog (wr.alloc (.cells #[.int .u8 99] 5)) = .ok (.string ⟨#[99]⟩) (wr.alloc (.cells #[.int .u8 99] 5)) := conv_one wr 99 (by decide)
          have ca : ((⟨#[110]⟩ : ByteArray) ++ (⟨#[99]⟩ : ByteArray)) = ⟨#[110, 99]⟩ := by decide +kernel
          have cb : bits .and .i64 2 3 = 2 := by decide +kernel
          go_wp2_with fail
          refine (SE.out _ (S.out.below ((Below.refl _ _).alloc (Nat.le_refl _) _))).mono ?_
          rintro r w3 ⟨rfl, S3⟩
          clear cv ca cb
          go_wp2_with fail
          go_roundg (16 - (2 + 1))
          case measure => have := G.out; omega
          case rel => exact ⟨3, by omega, rfl, by go_num, S3⟩
        · clear hk16
          have cv : (convert 38 9 (.slice (some ⟨wr.heap.size, 0, none⟩) 1 1)).run Tryd.prog (wr.alloc (.cells #[.int .u8 100] 5)) = .ok (.string ⟨#[100]⟩) (wr.alloc (.cells #[.int .u8 100] 5)) := conv_one wr 100 (by decide)
          have ca : ((⟨#[110]⟩ : ByteArray) ++ (⟨#[100]⟩ : ByteArray)) = ⟨#[110, 100]⟩ := by decide +kernel
          have cb : bits .and .i64 3 3 = 3 := by decide +kernel
          go_wp2_with fail
          refine (SE.out _ (S.out.below ((Below.refl _ _).alloc (Nat.le_refl _) _))).mono ?_
          rintro r w3 ⟨rfl, S3⟩
          clear cv ca cb
          go_wp2_with fail
          go_roundg (16 - (3 + 1))
          case measure => have := G.out; omega
          case rel => exact ⟨4, by omega, rfl, by go_num, S3⟩
        · clear hk16
          have cv : (convert 38 9 (.slice (some ⟨wr.heap.size, 0, none⟩) 1 1)).run Tryd.prog (wr.alloc (.cells #[.int .u8 101] 5)) = .ok (.string ⟨#[101]⟩) (wr.alloc (.cells #[.int .u8 101] 5)) := conv_one wr 101 (by decide)
          have ca : ((⟨#[110]⟩ : ByteArray) ++ (⟨#[101]⟩ : ByteArray)) = ⟨#[110, 101]⟩ := by decide +kernel
          have cb : bits .and .i64 4 3 = 0 := by decide +kernel
          go_wp2_with fail
          refine (SE.out _ (S.out.below ((Below.refl _ _).alloc (Nat.le_refl _) _))).mono ?_
          rintro r w3 ⟨rfl, S3⟩
          clear cv ca cb
          go_wp2_with fail
          go_roundg (16 - (4 + 1))
          case measure => have := G.out; omega
          case rel => exact ⟨5, by omega, rfl, by go_num, S3⟩
        · clear hk16
          have cv : (convert 38 9 (.slice (some ⟨wr.heap.size, 0, none⟩) 1 1)).run Tryd.prog (wr.alloc (.cells #[.int .u8 102] 5)) = .ok (.string ⟨#[102]⟩) (wr.alloc (.cells #[.int .u8 102] 5)) := conv_one wr 102 (by decide)
          have ca : ((⟨#[110]⟩ : ByteArray) ++ (⟨#[102]⟩ : ByteArray)) = ⟨#[110, 102]⟩ := by decide +kernel
          have cb : bits .and .i64 5 3 = 1 := by decide +kernel
          go_wp2_with fail
          refine (SE.out _ (S.out.below ((Below.refl _ _).alloc (Nat.le_refl _) _))).mono ?_
          rintro r w3 ⟨rfl, S3⟩
          clear cv ca cb
          go_wp2_with fail
          go_roundg (16 - (5 + 1))
          case measure => have := G.out; omega
          case rel => exact ⟨6, by omega, rfl, by go_num, S3⟩
        · clear hk16
          have cv : (convert 38 9 (.slice (some ⟨wr.heap.size, 0, none⟩) 1 1)).run Tryd.prog (wr.alloc (.cells #[.int .u8 103] 5)) = .ok (.string ⟨#[103]⟩) (wr.alloc (.cells #[.int .u8 103] 5)) := conv_one wr 103 (by decide)
          have ca : ((⟨#[110]⟩ : ByteArray) ++ (⟨#[103]⟩ : ByteArray)) = ⟨#[110, 103]⟩ := by decide +kernel
          have cb : bits .and .i64 6 3 = 2 := by decide +kernel
          go_wp2_with fail
          refine (SE.out _ (S.out.below ((Below.refl _ _).alloc (Nat.le_refl _) _))).mono ?_
          rintro r w3 ⟨rfl, S3⟩
          clear cv ca cb
          go_wp2_with fail
          go_roundg (16 - (6 + 1))
          case measure => have := G.out; omega
          case rel => exact ⟨7, by omega, rfl, by go_num, S3⟩
        · clear hk16
          have cv : (convert 38 9 (.slice (some ⟨wr.heap.size, 0, none⟩) 1 1)).run Tryd.prog (wr.alloc (.cells #[.int .u8 104] 5)) = .ok (.string ⟨#[104]⟩) (wr.alloc (.cells #[.int .u8 104] 5)) := conv_one wr 104 (by decide)
          have ca : ((⟨#[110]⟩ : ByteArray) ++ (⟨#[104]⟩ : ByteArray)) = ⟨#[110, 104]⟩ := by decide +kernel
          have cb : bits .and .i64 7 3 = 3 := by decide +kernel
          go_wp2_with fail
          refine (SE.out _ (S.out.below ((Below.refl _ _).alloc (Nat.le_refl _) _))).mono ?_
          rintro r w3 ⟨rfl, S3⟩
          clear cv ca cb
          go_wp2_with fail
          go_roundg (16 - (7 + 1))
          case measure => have := G.out; omega
          case rel => exact ⟨8, by omega, rfl, by go_num, S3⟩
        · clear hk16
          have cv : (convert 38 9 (.slice (some ⟨wr.heap.size, 0, none⟩) 1 1)).run Tryd.prog (wr.alloc (.cells #[.int .u8 105] 5)) = .ok (.string ⟨#[105]⟩) (wr.alloc (.cells #[.int .u8 105] 5)) := conv_one wr 105 (by decide)
          have ca : ((⟨#[110]⟩ : ByteArray) ++ (⟨#[105]⟩ : ByteArray)) = ⟨#[110, 105]⟩ := by decide +kernel
          have cb : bits .and .i64 8 3 = 0 := by decide +kernel
          go_wp2_with fail
          refine (SE.out _ (S.out.below ((Below.refl _ _).alloc (Nat.le_refl _) _))).mono ?_
          rintro r w3 ⟨rfl, S3⟩
          clear cv ca cb
          go_wp2_with fail
          go_roundg (16 - (8 + 1))
          case measure => have := G.out; omega
          case rel => exact ⟨9, by omega, rfl, by go_num, S3⟩
        · clear hk16
          have cv : (convert 38 9 (.slice (some ⟨wr.heap.size, 0, none⟩) 1 1)).run Tryd.prog (wr.alloc (.cells #[.int .u8 106] 5)) = .ok (.string ⟨#[106]⟩) (wr.alloc (.cells #[.int .u8 106] 5)) := conv_one wr 106 (by decide)
          have ca : ((⟨#[110]⟩ : ByteArray) ++ (⟨#[106]⟩ : ByteArray)) = ⟨#[110, 106]⟩ := by decide +kernel
          have cb : bits .and .i64 9 3 = 1 := by decide +kernel
          go_wp2_with fail
          refine (SE.out _ (S.out.below ((Below.refl _ _).alloc (Nat.le_refl _) _))).mono ?_
          rintro r w3 ⟨rfl, S3⟩
          clear cv ca cb
          go_wp2_with fail
          go_roundg (16 - (9 + 1))
          case measure => have := G.out; omega
          case rel => exact ⟨10, by omega, rfl, by go_num, S3⟩
        · clear hk16
          have cv : (convert 38 9 (.slice (some ⟨wr.heap.size, 0, none⟩) 1 1)).run Tryd.prog (wr.alloc (.cells #[.int .u8 107] 5)) = .ok (.string ⟨#[107]⟩) (wr.alloc (.cells #[.int .u8 107] 5)) := conv_one wr 107 (by decide)
          have ca : ((⟨#[110]⟩ : ByteArray) ++ (⟨#[107]⟩ : ByteArray)) = ⟨#[110, 107]⟩ := by decide +kernel
          have cb : bits .and .i64 10 3 = 2 := by decide +kernel
          go_wp2_with fail
          refine (SE.out _ (S.out.below ((Below.refl _ _).alloc (Nat.le_refl _) _))).mono ?_
          rintro r w3 ⟨rfl, S3⟩
          clear cv ca cb
          go_wp2_with fail
          go_roundg (16 - (10 + 1))
          case measure => have := G.out; omega
          case rel => exact ⟨11, by omega, rfl, by go_num, S3⟩
        · clear hk16
          have cv : (convert 38 9 (.slice (some ⟨wr.heap.size, 0, none⟩) 1 1)).run Tryd.prog (wr.alloc (.cells #[.int .u8 108] 5)) = .ok (.string ⟨#[108]⟩) (wr.alloc (.cells #[.int .u8 108] 5)) := conv_one wr 108 (by decide)
          have ca : ((⟨#[110]⟩ : ByteArray) ++ (⟨#[108]⟩ : ByteArray)) = ⟨#[110, 108]⟩ := by decide +kernel
          have cb : bits .and .i64 11 3 = 3 := by decide +kernel
          go_wp2_with fail
          refine (SE.out _ (S.out.below ((Below.refl _ _).alloc (Nat.le_refl _) _))).mono ?_
          rintro r w3 ⟨rfl, S3⟩
          clear cv ca cb
          go_wp2_with fail
          go_roundg (16 - (11 + 1))
          case measure => have := G.out; omega
          case rel => exact ⟨12, by omega, rfl, by go_num, S3⟩
        · clear hk16
          have cv : (convert 38 9 (.slice (some ⟨wr.heap.size, 0, none⟩) 1 1)).run Tryd.prog (wr.alloc (.cells #[.int .u8 109] 5)) = .ok (.string ⟨#[109]⟩) (wr.alloc (.cells #[.int .u8 109] 5)) := conv_one wr 109 (by decide)
          have ca : ((⟨#[110]⟩ : ByteArray) ++ (⟨#[109]⟩ : ByteArray)) = ⟨#[110, 109]⟩ := by decide +kernel
          have cb : bits .and .i64 12 3 = 0 := by decide +kernel
          go_wp2_with fail
          refine (SE.out _ (S.out.below ((Below.refl _ _).alloc (Nat.le_refl _) _))).mono ?_
          rintro r w3 ⟨rfl, S3⟩
          clear cv ca cb
          go_wp2_with fail
          go_roundg (16 - (12 + 1))
          case measure => have := G.out; omega
          case rel => exact ⟨13, by omega, rfl, by go_num, S3⟩
        · clear hk16
          have cv : (convert 38 9 (.slice (some ⟨wr.heap.size, 0, none⟩) 1 1)).run Tryd.prog (wr.alloc (.cells #[.int .u8 110] 5)) = .ok (.string ⟨#[110]⟩) (wr.alloc (.cells #[.int .u8 110] 5)) := conv_one wr 110 (by decide)
          have ca : ((⟨#[110]⟩ : ByteArray) ++ (⟨#[110]⟩ : ByteArray)) = ⟨#[110, 110]⟩ := by decide +kernel
          have cb : bits .and .i64 13 3 = 1 := by decide +kernel
          go_wp2_with fail
          refine (SE.out _ (S.out.below ((Below.refl _ _).alloc (Nat.le_refl _) _))).mono ?_
          rintro r w3 ⟨rfl, S3⟩
          clear cv ca cb
          go_wp2_with fail
          go_roundg (16 - (13 + 1))
          case measure => have := G.out; omega
          case rel => exact ⟨14, by omega, rfl, by go_num, S3⟩
        · clear hk16
          have cv : (convert 38 9 (.slice (some ⟨wr.heap.size, 0, none⟩) 1 1)).run Tryd.prog (wr.alloc (.cells #[.int .u8 111] 5)) = .ok (.string ⟨#[111]⟩) (wr.alloc (.cells #[.int .u8 111] 5)) := conv_one wr 111 (by decide)
          have ca : ((⟨#[110]⟩ : ByteArray) ++ (⟨#[111]⟩ : ByteArray)) = ⟨#[110, 111]⟩ := by decide +kernel
          have cb : bits .and .i64 14 3 = 2 := by decide +kernel
          go_wp2_with fail
          refine (SE.out _ (S.out.below ((Below.refl _ _).alloc (Nat.le_refl _) _))).mono ?_
          rintro r w3 ⟨rfl, S3⟩
          clear cv ca cb
          go_wp2_with fail
          go_roundg (16 - (14 + 1))
          case measure => have := G.out; omega
          case rel => exact ⟨15, by omega, rfl, by go_num, S3⟩
        · clear hk16
          have cv : (convert 38 9 (.slice (some ⟨wr.heap.size, 0, none⟩) 1 1)).run Tryd.prog (wr.alloc (.cells #[.int .u8 112] 5)) = .ok (.string ⟨#[112]⟩) (wr.alloc (.cells #[.int .u8 112] 5)) := conv_one wr 112 (by decide)
          have ca : ((⟨#[110]⟩ : ByteArray) ++ (⟨#[112]⟩ : ByteArray)) = ⟨#[110, 112]⟩ := by decide +kernel
          have cb : bits .and .i64 15 3 = 3 := by decide +kernel
          go_wp2_with fail
          refine (SE.out _ (S.out.below ((Below.refl _ _).alloc (Nat.le_refl _) _))).mono ?_
          rintro r w3 ⟨rfl, S3⟩
          clear cv ca cb
          go_wp2_with fail
          go_roundg (16 - (15 + 1))
          case measure => have := G.out; omega
          case rel => exact ⟨16, by omega, rfl, by go_num, S3⟩
      · have hk16' : ¬ (k : Int) < 16 := by omega
        have S8 : Hid (Sx w t b 17 path (Nn 16) [] wr) := by
          have e : k = 16 := by omega
          rw [e] at S
          exact S
        clear S
        have hgi : (g : Int) < 16 := by omega
        have cw : IntKind.u8.wrap (97 + (g : Int)) = 97 + (g : Int) := wrap_u8 (by omega) (by omega)
        have cw2 : IntKind.i64.wrap (97 + (g : Int)) = 97 + (g : Int) := wrap64 (by omega) (by omega)
        obtain ⟨c, hc⟩ : ∃ c, c = UInt8.ofNat (97 + g) := ⟨_, rfl⟩
        have cv : (convert 38 9 (.slice (some ⟨wr.heap.size, 0, none⟩) 1 1)).run Tryd.prog (wr.alloc (.cells #[.int .u8 (97 + (g : Int))] 5)) = .ok (.string ⟨#[c]⟩) (wr.alloc (.cells #[.int .u8 (97 + (g : Int))] 5)) := by
          have q := conv_one wr (97 + g) (by omega)
          rw [show ((97 + g : Nat) : Int) = 97 + (g : Int) by omega, ← hc] at q
          exact q
        have ca : ((⟨#[110]⟩ : ByteArray) ++ (⟨#[c]⟩ : ByteArray)) = nm g := by
          apply ByteArray.ext
          rw [ByteArray.data_append, hc]
          rfl
        clear hc
        have T8 := Lib.hid (S8.out.below ((Below.refl _ wr).alloc (Nat.le_refl _) (.cells #[.int .u8 (97 + (g : Int))] 5)))
        go_wp2_with fail
        refine (sx_no (⟨#[120]⟩, ⟨#[115]⟩, 0) T8.out okX (by omega) no16 le16).mono ?_
        rintro e w9 ⟨rfl, h9⟩
        have S9 : Hid (Sx w t b 18 path (Nn 16) [] w9) := Lib.hid h9
        clear h9 T8 cv ca cw cw2
        go_wp2_with fail
        refine (sx_set (nm g, ⟨#[122]⟩, 0) S9.out (okZ g hg16) (by omega) (f2 g hg16)).mono ?_
        rintro e w10 ⟨rfl, h10⟩
        have S10 : Hid (Sx w t b 19 path (N1 g) [] w10) := Lib.hid h10
        clear h10
        go_wp2_with fail
        refine (sx_list S10.out).mono ?_
        rintro e w11 ⟨a11, c11, rfl, h11⟩
        have S11 : Hid (Sx w t b 19 path (N1 g) [] w11) := Lib.hid h11
        clear h11
        rw [show (N1 g).length + ([] : List Bd).length = 16 from f3 g hg16]
        by_cases ep : path = ⟨#[47, 113]⟩
        · have q1 : (path.toList == (⟨#[47, 113]⟩ : ByteArray).toList) = true := by rw [ep]; exact beq_self_eq_true _
          have q2 : (path.toList == [47, 113]) = true := by rw [ep]; exact qT
          have NE : Hid ((⟨#[47, 114]⟩ : ByteArray) ≠ path) := Lib.hid (by rw [ep]; decide +kernel)
          clear ep
          go_wp2_with fail
          refine (sx_other ⟨#[47, 114]⟩ (⟨#[120]⟩, ⟨#[115]⟩, 0) S11.out okX okR NE.out (by omega)).mono ?_
          rintro e w12 ⟨rfl, h12⟩
          have S12 : Hid (Sx w t b 20 path (N1 g) [ofE ⟨#[47, 114]⟩ (⟨#[120]⟩, ⟨#[115]⟩, 0)] w12) := Lib.hid h12
          clear h12
          go_wp2_with fail
          refine (sx_drop (nm g) S12.out (nm_size g) (f6 g hg16)).mono ?_
          rintro e w13 ⟨rfl, h13⟩
          have S13 : Hid (Sx w t b 20 path (N2 g) [ofE ⟨#[47, 114]⟩ (⟨#[120]⟩, ⟨#[115]⟩, 0)] w13) := Lib.hid h13
          clear h13
          go_wp2_with fail
          refine (sx_dropNo (nm g) S13.out (nm_size g) (f7 g hg16)).mono ?_
          rintro e w14 ⟨rfl, h14⟩
          have S14 : Hid (Sx w t b 20 path (N2 g) [ofE ⟨#[47, 114]⟩ (⟨#[120]⟩, ⟨#[115]⟩, 0)] w14) := Lib.hid h14
          clear h14
          go_wp2_with fail
          refine (sx_set (⟨#[120]⟩, ⟨#[115]⟩, 0) S14.out okX (by omega) (f8 g hg16)).mono ?_
          rintro e w15 ⟨rfl, h15⟩
          have S15 : Hid (Sx w t b 21 path (N3 g) [ofE ⟨#[47, 114]⟩ (⟨#[120]⟩, ⟨#[115]⟩, 0)] w15) := Lib.hid h15
          clear h15
          go_wp2_with fail
          refine (sx_no (⟨#[121]⟩, ⟨#[115]⟩, 0) S15.out okY (by omega) (f9 g hg16) (Nat.le_of_eq (f10 g hg16).symm)).mono ?_
          rintro e w16 ⟨rfl, h16⟩
          have S16 : Hid (Sx w t b 22 path (N3 g) [ofE ⟨#[47, 114]⟩ (⟨#[120]⟩, ⟨#[115]⟩, 0)] w16) := Lib.hid h16
          clear h16
          have LV := Lib.hid (sx_leave S16.out)
          rw [f10 g hg16] at LV
          go_wp2_with fail
          refine (LV.out).mono ?_
          rintro e w17 ⟨rfl, h17⟩
          have S17 : Hid (Sx w t b 22 path [] [ofE ⟨#[47, 114]⟩ (⟨#[120]⟩, ⟨#[115]⟩, 0)] w17) := Lib.hid h17
          clear h17
          go_wp2_with fail
          refine (sx_leave S17.out).mono ?_
          rintro e w18 ⟨rfl, h18⟩
          have S18 : Hid (Sx w t b 22 path [] [ofE ⟨#[47, 114]⟩ (⟨#[120]⟩, ⟨#[115]⟩, 0)] w18) := Lib.hid h18
          clear h18
          go_wp2_with fail
          refine (sx_list S18.out).mono ?_
          rintro e w19 ⟨a19, c19, rfl, h19⟩
          have S19 : Hid (Sx w t b 22 path [] [ofE ⟨#[47, 114]⟩ (⟨#[120]⟩, ⟨#[115]⟩, 0)] w19) := Lib.hid h19
          clear h19
          rw [show ([] : List Ent).length + [ofE ⟨#[47, 114]⟩ (⟨#[120]⟩, ⟨#[115]⟩, 0)].length = 1 from rfl]
          go_wp2_with fail
          refine (sx_leave (sx_turn S19.out)).mono ?_
          rintro e w20 ⟨rfl, h20⟩
          have S20 : Hid (Sx w t b 22 ⟨#[47, 114]⟩ [] [] w20) := Lib.hid h20
          clear h20
          go_wp2_with fail
          refine (sx_list S20.out).mono ?_
          rintro e w21 ⟨a21, c21, rfl, h21⟩
          have S21 : Hid (Sx w t b 22 ⟨#[47, 114]⟩ [] [] w21) := Lib.hid h21
          clear h21
          rw [show ([] : List Ent).length + ([] : List Bd).length = 0 from rfl]
          go_wp2_with fail
          go_ret
          exact ⟨rfl, S21.out.be⟩
        · have q1 : (path.toList == (⟨#[47, 113]⟩ : ByteArray).toList) = false := teq_no ep
          have q2 : (path.toList == [47, 113]) = false := by
            have := teq_no ep
            rwa [show (⟨#[47, 113]⟩ : ByteArray).toList = [47, 113] by rw [ByteArray.toList_eq]] at this
          have NE : Hid ((⟨#[47, 113]⟩ : ByteArray) ≠ path) := Lib.hid (fun e => ep e.symm)
          clear ep
          go_wp2_with fail
          refine (sx_other ⟨#[47, 113]⟩ (⟨#[120]⟩, ⟨#[115]⟩, 0) S11.out okX okQ NE.out (by omega)).mono ?_
          rintro e w12 ⟨rfl, h12⟩
          have S12 : Hid (Sx w t b 20 path (N1 g) [ofE ⟨#[47, 113]⟩ (⟨#[120]⟩, ⟨#[115]⟩, 0)] w12) := Lib.hid h12
          clear h12
          go_wp2_with fail
          refine (sx_drop (nm g) S12.out (nm_size g) (f6 g hg16)).mono ?_
          rintro e w13 ⟨rfl, h13⟩
          have S13 : Hid (Sx w t b 20 path (N2 g) [ofE ⟨#[47, 113]⟩ (⟨#[120]⟩, ⟨#[115]⟩, 0)] w13) := Lib.hid h13
          clear h13
          go_wp2_with fail
          refine (sx_dropNo (nm g) S13.out (nm_size g) (f7 g hg16)).mono ?_
          rintro e w14 ⟨rfl, h14⟩
          have S14 : Hid (Sx w t b 20 path (N2 g) [ofE ⟨#[47, 113]⟩ (⟨#[120]⟩, ⟨#[115]⟩, 0)] w14) := Lib.hid h14
          clear h14
          go_wp2_with fail
          refine (sx_set (⟨#[120]⟩, ⟨#[115]⟩, 0) S14.out okX (by omega) (f8 g hg16)).mono ?_
          rintro e w15 ⟨rfl, h15⟩
          have S15 : Hid (Sx w t b 21 path (N3 g) [ofE ⟨#[47, 113]⟩ (⟨#[120]⟩, ⟨#[115]⟩, 0)] w15) := Lib.hid h15
          clear h15
          go_wp2_with fail
          refine (sx_no (⟨#[121]⟩, ⟨#[115]⟩, 0) S15.out okY (by omega) (f9 g hg16) (Nat.le_of_eq (f10 g hg16).symm)).mono ?_
          rintro e w16 ⟨rfl, h16⟩
          have S16 : Hid (Sx w t b 22 path (N3 g) [ofE ⟨#[47, 113]⟩ (⟨#[120]⟩, ⟨#[115]⟩, 0)] w16) := Lib.hid h16
          clear h16
          have LV := Lib.hid (sx_leave S16.out)
          rw [f10 g hg16] at LV
          go_wp2_with fail
          refine (LV.out).mono ?_
          rintro e w17 ⟨rfl, h17⟩
          have S17 : Hid (Sx w t b 22 path [] [ofE ⟨#[47, 113]⟩ (⟨#[120]⟩, ⟨#[115]⟩, 0)] w17) := Lib.hid h17
          clear h17
          go_wp2_with fail
          refine (sx_leave S17.out).mono ?_
          rintro e w18 ⟨rfl, h18⟩
          have S18 : Hid (Sx w t b 22 path [] [ofE ⟨#[47, 113]⟩ (⟨#[120]⟩, ⟨#[115]⟩, 0)] w18) := Lib.hid h18
          clear h18
          go_wp2_with fail
          refine (sx_list S18.out).mono ?_
          rintro e w19 ⟨a19, c19, rfl, h19⟩
          have S19 : Hid (Sx w t b 22 path [] [ofE ⟨#[47, 113]⟩ (⟨#[120]⟩, ⟨#[115]⟩, 0)] w19) := Lib.hid h19
          clear h19
          rw [show ([] : List Ent).length + [ofE ⟨#[47, 113]⟩ (⟨#[120]⟩, ⟨#[115]⟩, 0)].length = 1 from rfl]
          go_wp2_with fail
          refine (sx_leave (sx_turn S19.out)).mono ?_
          rintro e w20 ⟨rfl, h20⟩
          have S20 : Hid (Sx w t b 22 ⟨#[47, 113]⟩ [] [] w20) := Lib.hid h20
          clear h20
          go_wp2_with fail
          refine (sx_list S20.out).mono ?_
          rintro e w21 ⟨a21, c21, rfl, h21⟩
          have S21 : Hid (Sx w t b 22 ⟨#[47, 113]⟩ [] [] w21) := Lib.hid h21
          clear h21
          rw [show ([] : List Ent).length + ([] : List Bd).length = 0 from rfl]
          go_wp2_with fail
          go_ret
          exact ⟨rfl, S21.out.be⟩
end Ac
end Go.Proofs.YtiddgagfdijjeaaDoor
