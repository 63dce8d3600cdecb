/-
  DevCarried: two devices apart.
-/
import Derived.Test.YtlnjclabnpenmaaStA
import Derived.Test.YtlnjclabnpenmaaOfA
namespace Go.Proofs.Ytlnjclabnpenmaa
open Go.RowKit Go.Maps
theorem ops_at {w : World} {a : Option Addr} {n cap : Nat} {l : List OpD} (H : Ops w (.slice a n cap) l) {k : Nat} {o : OpD} (ho : l[k]? = some o) : o.At w ∧ ∃ b off, a = some ⟨b, off, none⟩ ∧ b < w.heap.size ∧ ∀ i u, o.cells[i]? = some u → w.cell? ⟨b, off + k * 8 + i, none⟩ = some u := by
  obtain ⟨hAt, a', cap', e', _, _, hcc⟩ := H
  simp only [Value.slice.injEq] at e'
  obtain ⟨bb, off, ea, hcell⟩ := hcc (by intro e; rw [e] at ho; simp at ho)
  exact ⟨hAt o (List.mem_of_getElem? ho), bb, off, by rw [e'.1, ea], block_lt_of_cell (hcell k o ho 0 _ rfl), fun i u hu => hcell k o ho i u hu⟩
theorem play_lit {B : Nat} {w : World} {d mb mp : Nat} {cv : Value} {s : DS} (h : Dv B w d mb mp cv s) (hws : s.ws < 137438953471) (o : OpD) (ho : o.At w) :
    Calls Try.prog 22 #[.pointer (some ⟨d, 0, none⟩), .agg #[.bool o.two, .int .i64 o.kind, .int .i64 o.blk, .int .i64 o.n, .int .i64 o.len, .int .u8 (c8 o.fill), o.bv, o.fv]] w fun e w' => ∃ s' r, e = .returned (.int .i64 r) ∧ Left B w d mb mp cv w' s' ∧ Step s o s' r := play_any h hws o ho
/-- The second device, made at block c. -/
abbrev Xd (c : Nat) (W : World) (s : DS) : Prop := Dv c W (c + 2) c (c + 1) (.slice none 0 0) s
theorem xd_kept {b c : Nat} {W W' : World} {cv : Value} {s sx : DS} (hx : Xd c W sx) (hd : Dv b W (b + 2) b (b + 1) cv s) (hbc : b + 3 ≤ c) (hk : Kept (Foot (b + 2) b (b + 1) cv) W W') : Xd c W' sx := by
  refine hx.kept hk (fun k hf hg => ?_)
  have hc : cv.ownBlock ≠ some k := fun e => by
    obtain ⟨cur, hcur⟩ := row_block hd.cache e
    rcases hf with rfl | rfl | rfl | hf
    · rw [hx.self] at hcur; simp at hcur
    · rw [hx.med] at hcur; simp at hcur
    · obtain ⟨M, hM, _⟩ := hx.latest
      obtain ⟨es, q, hm⟩ := map_block hM
      rw [hm] at hcur; simp at hcur
    · cases hf
  have hck : c ≤ k ∨ False := by
    rcases hf with rfl | rfl | rfl | hf
    · exact .inl (by omega)
    · exact .inl (by omega)
    · exact .inl (by omega)
    · cases hf
  rcases hck with hck | hck
  · rcases hg with rfl | rfl | rfl | hg
    · omega
    · omega
    · omega
    · exact hc hg
  · exact hck
/-- Both devices, and the bytes that are kept. -/
def Ph (b c : Nat) (w W : World) (s sx : DS) (vk : Value) (M : List UInt8) : Prop := St b w W s ∧ Xd c W sx ∧ Own 0 W vk M ∧ b + 3 ≤ c
theorem ph_kept {b c : Nat} {w W W' : World} {cv cv' : Value} {s s' sx : DS} {vk : Value} {M : List UInt8} (h : Ph b c w W s sx vk M) (hd : Dv b W (b + 2) b (b + 1) cv s) (hd' : Dv b W' (b + 2) b (b + 1) cv' s') (hk : Kept (Foot (b + 2) b (b + 1) cv) W W') : Ph b c w W' s' sx vk M := by
  obtain ⟨⟨_, h1, h2⟩, hx, ho, hbc⟩ := h
  exact ⟨(st_next hd h1 h2 hd' hk).1, xd_kept hx hd hbc hk, ho.kept hk (hd.bytes_ne ho), hbc⟩
theorem ph_below {b c : Nat} {w W W' : World} {s sx : DS} {vk : Value} {M : List UInt8} (h : Ph b c w W s sx vk M) (hb : Below W.heap.size W W') : Ph b c w W' s sx vk M :=
  ⟨(st_below h.1 hb).1, h.2.1.below hb, h.2.2.1.below hb, h.2.2.2⟩
theorem ph_set {b c g : Nat} {w W : World} {s sx : DS} {vk : Value} {M : List UInt8} {cur : Array Value} (h : Ph b c w W s sx vk M) (hg : W.heap[g]? = some (.cells cur 5 (0, 0))) (hbg : b ≤ g) (hne : vk.ownBlock ≠ some g) (k : Nat) (u : Value) : Ph b c w (W.setCell ⟨g, k, none⟩ u) s sx vk M := by
  obtain ⟨⟨⟨cv, hd⟩, h1, h2⟩, hx, ho, hbc⟩ := h
  have K : Kept (fun j => j = g) W (W.setCell ⟨g, k, none⟩ u) := kept_set W _ u rfl
  have ne : ∀ {B d mb mp : Nat} {cv : Value} {s : DS}, Dv B W d mb mp cv s → ¬ Foot d mb mp cv g := fun {B d mb mp cv s} hd hf => by
    rcases hf with rfl | rfl | rfl | hf
    · rw [hd.self] at hg; simp at hg
    · rw [hd.med] at hg; simp at hg
    · obtain ⟨M, hM, _⟩ := hd.latest
      obtain ⟨es, q, hm⟩ := map_block hM
      rw [hm] at hg; simp at hg
    · obtain ⟨cur2, hc2⟩ := row_block hd.cache hf
      rw [hc2] at hg; simp at hg
  exact ⟨⟨⟨cv, hd.kept K (fun j hf e => ne hd (e ▸ hf))⟩, h1.setCell (p := ⟨g, k, none⟩) hbg u, by rw [show (W.setCell ⟨g, k, none⟩ u).heap.size = W.heap.size by simp [World.setCell]]; exact h2⟩, hx.kept K (fun j hf e => ne hx (e ▸ hf)), ho.kept K (fun j hj e => hne (by rw [hj, e])), hbc⟩
theorem up_nat (k : Nat) (h : k < 1000) : up (k : Int) = ((k + 1 : Nat) : Int) := by unfold up wrap64; omega
theorem read_new {c i : Nat} {M : List UInt8} (hi : i < 64) : rdD ⟨64, M, [], false, 0, false, (c : Int), 0, 0, 0⟩ (i : Int) = (⟨64, M, [], false, 0, false, up (c : Int), 0, 0, 0⟩, raw M i, 0) := by
  unfold rdD
  rw [if_neg (by unfold hasB; simp; omega), if_neg (by exact Bool.noConfusion), Int.toNat_natCast]
  rfl
end Go.Proofs.Ytlnjclabnpenmaa
