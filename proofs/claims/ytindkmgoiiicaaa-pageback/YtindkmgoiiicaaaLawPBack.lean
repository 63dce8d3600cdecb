/-
  PageBack.
-/
import Derived.Test.YtindkmgoiiicaaaLawPBYS
import Derived.Test.YtindkmgoiiicaaaLawPBYN
import Derived.Test.YtindkmgoiiicaaaLawPBYP
import Derived.Test.YtindkmgoiiicaaaLawPBNS
import Derived.Test.YtindkmgoiiicaaaLawPBNN
import Derived.Test.YtindkmgoiiicaaaLawPBNP
namespace Go.Proofs.Ytindkmgoiiicaaa
open Go.RowKit Go.Maps
theorem pageBack_walk (v0 : Value) (n : Nd) (at' : Int) (x : BitVec 32) (v3 : Value) (b : List UInt8) (w : World) (hn : Nin w v0 n) (hs : Szs n) (ha : -9223372036854775808 ≤ at' ∧ at' < 9223372036854775808) (hb : Bytes w v3 b) (hbl : b.length ≤ 140737488351232) :
    Calls Try.prog 5 #[v0, .int .i64 at', .int .u32 (Sm.u x), v3] w fun e w' => e = .returned (.bool true) ∧ Below w.heap.size w w' := by
  obtain ⟨nv, rfl, hl⟩ := hn
  obtain ⟨a3, c3, e3, _, _⟩ := hb.len
  obtain ⟨nb, hnb⟩ : ∃ nb, nb = b.length := ⟨_, rfl⟩
  rw [← hnb] at e3
  subst e3
  by_cases h5 : nb = 512
  · by_cases hp : Pg b
    · cases hf : fitB n with
      | true => exact back_YP n nv at' x a3 nb c3 b w hl hs ha hb hnb hbl hf h5 hp
      | false => exact back_NP n nv at' x a3 nb c3 b w hl hs ha hb hnb hbl hf h5 hp
    · cases hf : fitB n with
      | true => exact back_YN n nv at' x a3 nb c3 b w hl hs ha hb hnb hbl hf h5 hp
      | false => exact back_NN n nv at' x a3 nb c3 b w hl hs ha hb hnb hbl hf h5 hp
  · cases hf : fitB n with
    | true => exact back_YS n nv at' x a3 nb c3 b w hl hs ha hb hnb hbl hf h5
    | false => exact back_NS n nv at' x a3 nb c3 b w hl hs ha hb hnb hbl hf h5
end Go.Proofs.Ytindkmgoiiicaaa
