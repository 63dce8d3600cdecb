/-
  Replay: the set of texts in memory; text; slices.Sorted(maps.Keys(m)).
-/
import Derived.Test.YtfkoiehnkelpoaaDoorWtI
import Derived.Test.YtfkoiehnkelpoaaDoorShelfS
import Derived.Sort.KeysCollected
namespace Go.Proofs.YtfkoiehnkelpoaaDoor
open Go.RowKit Go.Maps Go.Sort Go.Shelf
namespace Wt
def kT : Kd ByteArray := ⟨fun t => [.string t], 1, 9, 53, 16, ⟨#[]⟩⟩
theorem okT : kT.Ok := ⟨fun _ => rfl, by decide, fun x u hu => by simp only [kT, List.mem_cons, List.not_mem_nil, or_false] at hu; rw [hu]; rfl, Tryd.underlying53, ⟨_, (by kernel_rfl : (Tryd.prog.info? 9).map (fun i => (i.zero, i.size, i.bytes)) = some (some (.string ⟨#[]⟩), 1, 16)), rfl⟩, by decide⟩
theorem rowT_at {w : World} {a : Option Addr} {n cap : Nat} {xs : List ByteArray} (H : Row kT w (.slice a n cap) xs) (k : Nat) (hk : k < xs.length) :
    ∃ b off, a = some ⟨b, off, none⟩ ∧ w.cell? ⟨b, off + k, none⟩ = some (.string (xs.getD k ⟨#[]⟩)) := by
  obtain ⟨b, off, ea, h⟩ := H.at k hk
  have hc := h 0 _ rfl
  have e : kT.k = 1 := rfl
  rw [e, Nat.mul_one, Nat.add_zero] at hc
  exact ⟨b, off, ea, hc⟩
theorem lawS : Keyed Tryd.prog 9 := string_keyed Tryd.underlying9
theorem isKeyS (l : List UInt8) : WideAt.IsKeyLit (.string l) := by trivial
def Seen (D : DataW Unit) (ls : List ByteArray) : Prop := IsMap D ∧ ∀ t : ByteArray, (Maps.has D (.string t.data.toList) = true ↔ t ∈ ls)
theorem seen_none : Seen (.map []) [] := ⟨⟨[], rfl⟩, fun t => by simp [Maps.has_eq]⟩
theorem data_inj {s t : ByteArray} (h : s.data.toList = t.data.toList) : s = t := by rw [← list_txt s, ← list_txt t, h]
theorem Seen.put {D : DataW Unit} {ls : List ByteArray} (h : Seen D ls) (l : ByteArray) (d : DataW Unit) : Seen (D.put (.string l.data.toList) d) (ls ++ [l]) := by
  refine ⟨h.1.put _ _, fun u => ?_⟩
  by_cases e : u = l
  · subst e
    rw [has_put_same h.1 (isKeyS _)]
    simp
  · rw [has_put_other (fun h => e (data_inj (by injection h))), h.2]
    simp [e]
theorem Seen.del {D : DataW Unit} {ls : List ByteArray} (h : Seen D ls) (l : ByteArray) : Seen (D.del (.string l.data.toList)) (ls.filter (fun t => decide (t ≠ l))) := by
  refine ⟨h.1.del _, fun u => ?_⟩
  by_cases e : u = l
  · subst e
    rw [has_del_same]
    simp
  · rw [has_del_other (fun h => e (data_inj (by injection h))), h.2]
    simp [e]
theorem make_seen (w : World) : (Instr.makeMap 74 none).run Tryd.prog w = .ok (.map (some w.heap.size)) (w.alloc (.map #[] 0)) := by
  first | rfl | simp [Instr.makeMap, run_underlying Tryd.underlying74, Result.andThen]
/-- The text of an event's thing. -/
def tx (e : Ev) : ByteArray := e.p ++ ⟨#[32]⟩ ++ e.n
def rpS (kind : Int) (path : ByteArray) (ls : List ByteArray) (e : Ev) : List ByteArray :=
  if e.k = kind ∧ L.underB e.p path = true then (if e.g = true then ls.filter (fun t => decide (t ≠ tx e)) else ls ++ [tx e]) else ls
def rpL (kind : Int) (path : ByteArray) (names : List ByteArray) (l : List Ev) : List ByteArray := l.foldl (rpS kind path) names
theorem rpL_succ (kind : Int) (path : ByteArray) (names : List ByteArray) (l : List Ev) (k : Nat) (h : k < l.length) : rpL kind path names (l.take (k + 1)) = rpS kind path (rpL kind path names (l.take k)) (l.getD k Ev.z) := by
  unfold rpL; rw [take_onez l k Ev.z h, List.foldl_append]; rfl
/-- Rising, with just these. -/
def Ri (F ls : List ByteArray) : Prop := F.Pairwise (fun a b => a.data.toList < b.data.toList) ∧ ∀ t, t ∈ F ↔ t ∈ ls
theorem Ri.one {F G ls : List ByteArray} (h : Ri F ls) (k : Ri G ls) : F = G := by
  have hp : F.Perm G := (List.perm_ext_iff_of_nodup (h.1.imp fun {a b} hab e => by subst e; exact absurd hab (List.lt_irrefl _)) (k.1.imp fun {a b} hab e => by subst e; exact absurd hab (List.lt_irrefl _))).2 fun t => (h.2 t).trans (k.2 t).symm
  exact hp.eq_of_pairwise (fun a b _ _ h1 h2 => absurd (List.lt_trans h1 h2) (List.lt_irrefl _)) h.1 k.1
set_option maxHeartbeats 4000000 in
set_option maxRecDepth 100000 in
theorem text_any (x : Ev) (w : World) (hp : x.p.size ≤ 1000) (hn : x.n.size ≤ 140737488355328) : Calls Tryd.prog 40 #[x.val] w fun e w' => e = .returned (.string (tx x)) ∧ Below w.heap.size w w' := by
  obtain ⟨v, k, g, p, n⟩ := x
  unfold Ev.val tx
  simp only at hp hn ⊢
  have B : Hid (∀ o, Below w.heap.size w (w.alloc o)) := below_alR w
  have s1 : (p ++ (⟨#[32]⟩ : ByteArray)).size = p.size + 1 := by rw [ByteArray.size_append]; rfl
  go_enter Tryd.func40, Tryd.ntmps40
  go_wp2_with fail
  go_ret
  exact ⟨rfl, B.out _⟩
theorem sortsA (m : Nat) : AnyZ.SortsIn Tryd.prog Tryd.sortedA_ren Fence.wide m :=
  ⟨fun blk off cap ss W hH hblk hsz => callsIn_wide.2 (AnyM.slices_Sort_string Tryd.sortA blk off cap ss W hH hblk hsz),
   fun p cap W => callsIn_wide.2 (AnyM.slices_Sort_string_none Tryd.sortA p cap W)⟩
theorem keys_any (mb : Option Nat) (W : World) : Calls Tryd.prog 42 #[.map mb] W fun e w' => e = .returned (.func (.func 59) #[] #[.pointer (some ⟨W.heap.size, 0, none⟩)]) ∧ w' = W.alloc (.cells #[.map mb] 74) :=
  callsIn_wide.1 (AnyZ.keys_in Tryd.keysA Fence.wide 5 trivial rfl mb W)
theorem cells_st (xs : List (List UInt8)) : cellsR kT (xs.map txt) = xs.map encStr := by
  induction xs with
  | nil => rfl
  | cons x r ih => rw [List.map_cons, cellsR, List.flatMap_cons, ← cellsR, ih]; rfl
theorem sorted_any (b n : Nat) (D : DataW Unit) (ls : List ByteArray) (w : World) (hown : w.ownsMap Tryd.prog 9 unitElem b n D) (hS : Seen D ls) (hn : n * 16 ≤ 140737488355328) :
    Calls Tryd.prog 41 #[.func (.func 59) #[] #[.pointer (some ⟨w.heap.size, 0, none⟩)]] (w.alloc (.cells #[.map (some b)] 74)) fun e w' =>
      ∃ v F, e = .returned v ∧ OwnR kT (w.heap.size + 1) w' v F ∧ Ri F ls ∧ Below (w.heap.size + 1) (w.alloc (.cells #[.map (some b)] 74)) w' := by
  have hbl := hown.lt
  have hsz : Maps.size D ≤ n := hown.size_le
  have hseq : SeqGives Fence.wide 2 Tryd.prog 59 #[.pointer (some ⟨w.heap.size, 0, none⟩)] encStr (fun ss => ss.Perm (strKeys D)) (Maps.size D) (w.alloc (.cells #[.map (some b)] 74)) :=
    AnyZ.keys_gives (ρ := Tryd.keysA_ren) { Tryd.keysA with } Fence.wide _ trivial rfl (by omega) w.heap.size b n D _ (by simp) (by simp) (hown.alloc _)
  have cS := AnyZ.sorted_in Tryd.sortedA Fence.wide 5 trivial trivial trivial trivial rfl (by omega) (sortsA _) (enters_of Tryd.func58 (by kernel_rfl) rfl) 59 #[.pointer (some ⟨w.heap.size, 0, none⟩)] trivial (enters_of Tryd.func59 (by kernel_rfl) rfl) _ _ (by unfold maxLen; omega) (by omega) _ hseq
  refine (callsIn_wide.1 cS).mono ?_
  rintro e w' ⟨v, ss, rfl, hp, hrow, _, hb⟩
  have e3 : (w.alloc (.cells #[.map (some b)] 74)).heap.size = w.heap.size + 1 := by simp
  obtain ⟨fs, e, hpw⟩ := hown.tidy lawS
  obtain ⟨gs, eg, hk⟩ := hown.keysOf
  subst e
  injection eg with eg
  subst eg
  have hstr : ∀ p ∈ fs, ∃ x, p.1 = .string x := fun p hp' => by
    obtain ⟨key, hkey⟩ := hk p hp'
    obtain ⟨x, _, hx, _⟩ := Maps.keyOf_str Tryd.underlying9 hkey
    exact ⟨x, hx⟩
  have hnd : (strKeys (.map fs : DataW Unit)).Nodup := by
    refine List.pairwise_map.2 (hpw.imp_of_mem fun {p q} hp' hq' hne e => hne ?_)
    obtain ⟨x, hx⟩ := hstr p hp'
    obtain ⟨y, hy⟩ := hstr q hq'
    rw [hx, hy] at e ⊢
    simp only [strOf] at e
    rw [e]
  have hmem : ∀ x : List UInt8, x ∈ strKeys (.map fs : DataW Unit) ↔ txt x ∈ ls := fun x => by
    rw [← hS.2 (txt x), txt_list, has_eq, List.any_eq_true]
    show x ∈ fs.map (fun p => strOf p.1) ↔ _
    rw [List.mem_map]
    constructor
    · rintro ⟨p, hp', rfl⟩
      obtain ⟨a, ha⟩ := hstr p hp'
      exact ⟨p, hp', by rw [ha]; simp [Lit.sameKey, strOf]⟩
    · rintro ⟨p, hp', hs⟩
      obtain ⟨a, ha⟩ := hstr p hp'
      rw [ha] at hs
      exact ⟨p, hp', by rw [ha]; simpa [Lit.sameKey, strOf] using hs⟩
  have e2 : ss.length = (ss.mergeSort (fun x y => decide (x ≤ y))).length := by rw [List.length_mergeSort]
  refine ⟨v, (ss.mergeSort (fun x y => decide (x ≤ y))).map txt, rfl, ?_, ⟨?_, ?_⟩, by rw [e3] at hb; exact hb⟩
  · rw [e2, e3] at hrow
    show w'.ownsRow _ _ _ _ _ _
    rw [cells_st, List.length_map]
    exact hrow
  · have tr : ∀ a b c : List UInt8, leB a b = true → leB b c = true → leB a c = true := fun a b c h1 h2 => by simp only [leB, decide_eq_true_eq] at *; exact List.le_trans h1 h2
    have tot : ∀ a b : List UInt8, (leB a b || leB b a) = true := fun a b => by simp only [leB, Bool.or_eq_true, decide_eq_true_eq]; exact List.le_total a b
    have h1 : (ss.mergeSort leB).Pairwise (fun a b => leB a b = true) := List.pairwise_mergeSort tr tot ss
    have h2 : (ss.mergeSort leB).Nodup := (((List.mergeSort_perm ss leB).trans hp).nodup_iff).2 hnd
    refine List.pairwise_map.2 ((h1.and h2).imp fun {a b} hab => ?_)
    rw [txt_list, txt_list]
    have hle := hab.1
    simp only [leB, decide_eq_true_eq] at hle
    exact Classical.byContradiction fun h => hab.2 (List.le_antisymm hle h)
  · intro t
    rw [List.mem_map]
    constructor
    · rintro ⟨x, hx, rfl⟩
      exact (hmem x).1 (((List.mergeSort_perm ss leB).trans hp).mem_iff.1 hx)
    · intro ht
      refine ⟨t.data.toList, ((List.mergeSort_perm ss leB).trans hp).mem_iff.2 ((hmem _).2 (by rw [list_txt]; exact ht)), list_txt t⟩
end Wt
end Go.Proofs.YtfkoiehnkelpoaaDoor
