/-
  THE LAW known: it stands.
-/
import Derived.Test.YtmkdmfjdhajiaaaGreatDoorConcatK
import Derived.Test.YtmkdmfjdhajiaaaGreatDoorValidK
import Derived.Test.YtmkdmfjdhajiaaaGreatDoorBestK
import Derived.Test.YtmkdmfjdhajiaaaGreatDoorParseK
import Derived.Test.YtmkdmfjdhajiaaaGreatDoorGlob
namespace Go.Proofs.YtmkdmfjdhajiaaaGreatDoor
open Go.RowKit Go.Sort Go.Lib
/-- The two lists of known. -/
def Four (w : World) (p q : Nat) : Prop := w.cell? ⟨p, 0, none⟩ = some (.string ⟨#[99, 112, 117]⟩) ∧ w.cell? ⟨p, 1, none⟩ = some (.int .i64 1) ∧ w.cell? ⟨p, 2, none⟩ = some (.string ⟨#[109, 101, 109, 111, 114, 121]⟩) ∧ w.cell? ⟨p, 3, none⟩ = some (.int .i64 2) ∧ w.cell? ⟨q, 0, none⟩ = some (.string ⟨#[109, 101, 109, 111, 114, 121]⟩) ∧ w.cell? ⟨q, 1, none⟩ = some (.int .i64 3)
theorem Four.below {w w' : World} {p q : Nat} (h : Four w p q) (hb : Below w.heap.size w w') : Four w' p q :=
  ⟨(hb.cell (block_lt_of_cell h.1)).trans h.1, (hb.cell (block_lt_of_cell h.2.1)).trans h.2.1, (hb.cell (block_lt_of_cell h.2.2.1)).trans h.2.2.1, (hb.cell (block_lt_of_cell h.2.2.2.1)).trans h.2.2.2.1, (hb.cell (block_lt_of_cell h.2.2.2.2.1)).trans h.2.2.2.2.1, (hb.cell (block_lt_of_cell h.2.2.2.2.2)).trans h.2.2.2.2.2⟩
set_option maxHeartbeats 2000000 in
theorem both_known (p q : Nat) (w : World) (F : Four w p q) :
    Calls Tryz.prog 31 #[.slice (some ⟨p, 0, none⟩) 2 2, .slice (some ⟨q, 0, none⟩) 1 1] w fun e w' => e = .returned (.bool true) ∧ Below w.heap.size w w' := by
  have F0 := Lib.hid F
  clear F
  go_enter Tryz.func31, Tryz.ntmps31
  go_wp2_with fail
  refine (valid_two p w F0.out.1 F0.out.2.1 F0.out.2.2.1 F0.out.2.2.2.1).mono ?_
  rintro e w1 ⟨rfl, hb⟩
  have B1 := Lib.hid hb
  have F1 := Lib.hid (F0.out.below hb)
  clear hb F0
  go_wp2_with fail
  refine (valid_one q w1 F1.out.2.2.2.2.1 F1.out.2.2.2.2.2).mono ?_
  rintro e w2 ⟨rfl, hb⟩
  have B2 := Lib.hid (B1.out.trans (hb.mono B1.out.size))
  clear hb F1 B1
  go_wp2_with fail
  go_ret
  exact ⟨rfl, B2.out⟩
theorem four_cells {w : World} {p q : Nat} (F : Four w p q) : (∀ j u, [Value.string ⟨#[99, 112, 117]⟩, .int .i64 1, .string ⟨#[109, 101, 109, 111, 114, 121]⟩, .int .i64 2][j]? = some u → w.cell? ⟨p, 0 + j, none⟩ = some u) ∧ (∀ j u, [Value.string ⟨#[109, 101, 109, 111, 114, 121]⟩, .int .i64 3][j]? = some u → w.cell? ⟨q, 0 + j, none⟩ = some u) := by
  obtain ⟨c0, c1, c2, c3, c4, c5⟩ := F
  refine ⟨fun j u hj => ?_, fun j u hj => ?_⟩
  · match j, hj with
    | 0, hj => cases hj; exact c0
    | 1, hj => cases hj; exact c1
    | 2, hj => cases hj; exact c2
    | 3, hj => cases hj; exact c3
    | (j + 4), hj => simp at hj
  · match j, hj with
    | 0, hj => cases hj; exact c4
    | 1, hj => cases hj; exact c5
    | (j + 2), hj => simp at hj
theorem four_one : ∀ u ∈ [Value.string ⟨#[99, 112, 117]⟩, .int .i64 1, .string ⟨#[109, 101, 109, 111, 114, 121]⟩, .int .i64 2], u.oneCell' = true := by
  intro u hu
  simp only [List.mem_cons, List.not_mem_nil, or_false] at hu
  rcases hu with rfl | rfl | rfl | rfl <;> rfl
set_option maxHeartbeats 4000000 in
set_option maxRecDepth 100000 in
theorem plus_known (p q : Nat) (w : World) (F : Four w p q) :
    Calls Tryz.prog 12 #[.slice (some ⟨p, 0, none⟩) 2 2, .slice (some ⟨q, 0, none⟩) 1 1] w fun e w' => ∃ g cap, e = .returned (.tuple #[.slice (some ⟨g, 0, none⟩) 2 cap, .int .i64 0]) ∧ w'.cell? ⟨g, 2, none⟩ = some (.string ⟨#[109, 101, 109, 111, 114, 121]⟩) ∧ w'.cell? ⟨g, 3, none⟩ = some (.int .i64 5) ∧ Below w.heap.size w w' := by
  have F0 := Lib.hid F
  clear F
  go_enter Tryz.func12, Tryz.ntmps12
  go_wp2_with fail
  refine (both_known p q w F0.out).mono ?_
  rintro e w1 ⟨rfl, hb⟩
  have B1 := Lib.hid hb
  have F1 := Lib.hid (F0.out.below hb)
  clear hb F0
  go_wp2_with fail
  have F2 := Lib.hid (F1.out.below ((Below.refl _ w1).alloc (Nat.le_refl _) (.cells #[.slice (some ⟨p, 0, none⟩) 2 2, .slice (some ⟨q, 0, none⟩) 1 1] 22)))
  refine (concat_two _ p q 2 1 2 1 _ _ _ (by rfl) (by rfl) (by decide) (by decide) (four_cells F2.out).1 (four_cells F2.out).2 four_one (two_one _ _) (by rw [World.cell?_alloc_new]; rfl) (by rw [World.cell?_alloc_new]; rfl)).mono ?_
  rintro e w2 ⟨v, rfl, own, hb⟩
  obtain ⟨g, cap, rfl, hbg, hg, hc⟩ := row_of_owns own (by decide)
  have B2 := Lib.hid (B1.out.trans ((((Below.refl _ w1).alloc (Nat.le_refl _) _).trans (hb.mono (by simp))).mono B1.out.size))
  have S2 : Hid (Six w2 g) := Lib.hid (Six.of fun j u hj => (hc j u hj).1)
  clear hb own hc F1 F2 B1
  go_wp2_with fail
  refine (normal_three g cap w2 S2.out).mono ?_
  rintro e w3 ⟨g3, cap3, rfl, h2, h3, hb⟩
  have B3 := Lib.hid (B2.out.trans (hb.mono B2.out.size))
  clear hb S2 B2
  go_wp2_with fail
  go_ret2
  exact ⟨g3, cap3, rfl, h2, h3, B3.out⟩
theorem Glob.below {w w' : World} (h : Glob w) (hb : Below w.heap.size w w') : Glob w' := ⟨h.1.below hb, tab_below h.2 hb⟩
set_option maxHeartbeats 8000000 in
set_option maxRecDepth 100000 in
theorem known_ok : KnownOk := by
  intro w G
  have G0 := Lib.hid G
  clear G
  go_enter Tryz.func4, Tryz.ntmps4
  go_wp2_with fail
  refine (parse_a w G0.out.1).mono ?_
  rintro e w1 ⟨rfl, hb⟩
  have B1 := Lib.hid hb
  have G1 := Lib.hid (G0.out.below hb)
  clear hb G0
  go_wp2_with fail
  refine (parse_b w1 G1.out.1).mono ?_
  rintro e w2 ⟨rfl, hb⟩
  have B2 := Lib.hid (B1.out.trans (hb.mono B1.out.size))
  have G2 := Lib.hid (G1.out.below hb)
  clear hb G1 B1
  go_wp2_with fail
  refine (parse_c w2 G2.out.1).mono ?_
  rintro e w3 ⟨rfl, hb⟩
  have B3 := Lib.hid (B2.out.trans (hb.mono B2.out.size))
  have G3 := Lib.hid (G2.out.below hb)
  clear hb G2 B2
  go_wp2_with fail
  have BA := Lib.hid (((Below.refl _ w3).alloc (Nat.le_refl _) (.cells #[.string ⟨#[99, 112, 117]⟩, .int .i64 1, .string ⟨#[109, 101, 109, 111, 114, 121]⟩, .int .i64 2] 36)).alloc (by simp) (.cells #[.string ⟨#[109, 101, 109, 111, 114, 121]⟩, .int .i64 3] 36))
  refine (plus_known _ _ _ ?_).mono ?_
  · refine ⟨?_, ?_, ?_, ?_, ?_, ?_⟩
    all_goals go_simp
  rintro e w4 ⟨g, cap, rfl, h2, h3, hb⟩
  have B4 := Lib.hid (B3.out.trans ((BA.out.trans (hb.mono BA.out.size)).mono B3.out.size))
  have G4 := Lib.hid (G3.out.below (BA.out.trans (hb.mono BA.out.size)))
  clear hb G3 B3 BA
  go_wp2_with fail
  refine (print_any 1024000 (by decide) w4 G4.out.1 G4.out.2).mono ?_
  rintro e w5 ⟨rfl, hb⟩
  rw [best_a]
  have B5 := Lib.hid (B4.out.trans (hb.mono B4.out.size))
  have G5 := Lib.hid (G4.out.below hb)
  clear hb G4 B4
  go_wp2_with fail
  refine (print_any 500 (by decide) w5 G5.out.1 G5.out.2).mono ?_
  rintro e w6 ⟨rfl, hb⟩
  rw [best_b]
  have B6 := Lib.hid (B5.out.trans (hb.mono B5.out.size))
  clear hb G5 B5
  go_wp2_with fail
  go_ret
  exact ⟨rfl, B6.out⟩
end Go.Proofs.YtmkdmfjdhajiaaaGreatDoor
