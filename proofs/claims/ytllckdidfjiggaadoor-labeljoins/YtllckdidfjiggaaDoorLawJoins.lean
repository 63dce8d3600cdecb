/-
  THE WALK of LabelJoins.
-/
import Derived.Test.YtllckdidfjiggaaDoorFixed
import Derived.Test.YtllckdidfjiggaaDoorRefJoin
namespace Go.Proofs.YtllckdidfjiggaaDoor
open Go.RowKit
set_option maxHeartbeats 4000000 in
set_option maxRecDepth 100000 in
theorem labelJoins_walk (v : Value) (ts : List ByteArray) (w : World) (hm : HasM w) (hv : Strs w v ts) (hs : (∀ t ∈ ts, t.size ≤ 140737488355328) ∧ ts.length ≤ 8796093021952) :
    Calls Tryd.prog 5 #[v] w fun e w' => e = .returned (.bool true) ∧ Below w.heap.size w w' := by
  have H := Lib.hid hm
  have V := Lib.hid hv
  have hlen := hs.2
  clear hm hv hs
  go_enter Tryd.func5, Tryd.ntmps5
  go_wp2_with fail
  refine (fixed_ok w H.out).mono ?_
  rintro e w1 ⟨rfl, hb⟩
  have B1 := Lib.hid hb
  have V1 := Lib.hid (V.out.below hb)
  clear hb H V
  go_wp2_with (at_builtin; refine app_copy rfl _ _ rfl rfl V1.out rfl (by omega) ?_)
  intro v2 w2 own hb
  have B2 := Lib.hid (B1.out.trans (hb.mono B1.out.size))
  have V2 := Lib.hid (V1.out.below hb)
  have S2 := Lib.hid own.strs
  clear hb own V1 B1
  go_wp2_with fail
  refine (join_any v2 ts w2 S2.out).mono ?_
  rintro e w3 ⟨rfl, hb⟩
  have B3 := Lib.hid (B2.out.trans (hb.mono B2.out.size))
  have V3 := Lib.hid (V2.out.below hb)
  have S3 := Lib.hid (S2.out.below hb)
  clear hb V2 S2 B2
  obtain ⟨⟨r1, r2⟩, hr⟩ : ∃ r, r = joinR ts := ⟨_, rfl⟩
  rw [← hr]
  have RJ : Hid (∀ W, Strs W v ts → Calls Tryd.prog 18 #[v] W fun e w' => e = .returned (.tuple #[.string r1, .int .i64 r2]) ∧ Below W.heap.size W w') := Lib.hid fun W h => by
    have := refJoin_any v ts W h hlen
    rw [← hr] at this
    exact this
  clear hr
  go_wp2_with fail
  refine (RJ.out w3 V3.out).mono ?_
  rintro e w4 ⟨rfl, hb⟩
  have B4 := Lib.hid (B3.out.trans (hb.mono B3.out.size))
  have V4 := Lib.hid (V3.out.below hb)
  have S4 := Lib.hid (S3.out.below hb)
  clear hb V3 S3 B3 RJ
  go_wp2_with fail
  refine (sameTexts_yes v2 v ts w4 S4.out V4.out).mono ?_
  rintro e w5 ⟨rfl, hb⟩
  have B5 := Lib.hid (B4.out.trans (hb.mono B4.out.size))
  clear hb V4 S4 B4
  go_wp2_with fail
  go_ret
  exact ⟨rfl, B5.out⟩
end Go.Proofs.YtllckdidfjiggaaDoor
