/-
  The calls of the log, on the book of WalRoom.
-/
import Derived.Test.YtddnplpaoldbpaaWaX
import Derived.Test.YtddnplpaoldbpaaWaW
namespace Go.Proofs.Ytddnplpaoldbpaa
open Go.RowKit Go.Maps
/-- The book of WalRoom against the log and its device. -/
structure Rm (b : Nat) (w W : World) (nn k l fr en by_ ct : Nat) (cv pv : Value) (ds : DS) (s : LS) (c f : Nat) : Prop where
  wl : Wl b W (b + 2) b (b + 1) cv ds l pv s
  fst : s.fst = 2
  n : s.n = nn
  dead : s.dead = false
  fs : s.fs = fr
  es : s.es = en
  by_ : s.pay.length = by_
  ct : s.pend = ct
  ea : s.ea = (3 + (en - 5)) % nn
  f5 : 5 ≤ fr
  en2 : en ≤ 5 + 39 * k
  idle : Idle ds
  cache : ds.cache = []
  dn : ds.n = 64
  cw : ds.cw = (c : Int)
  cf : ds.cf = (f : Int)
  c2 : c ≤ 39 * k
  f2 : f ≤ k
  ws : ds.ws ≤ 39 * k
  bel : Below w.heap.size w W
variable {b : Nat} {w W W' : World} {nn k l fr en by_ ct : Nat} {cv pv : Value} {ds : DS} {s : LS} {c f : Nat}
theorem Rm.facts (h : Rm b w W nn k l fr en by_ ct cv pv ds s c f) : fr ≤ en ∧ en ≤ fr + nn ∧ by_ ≤ 464 * (nn - (en - fr)) ∧ ct ≤ by_ ∧ 8 ≤ nn := by
  have q := h.wl.lg.fit
  have q1 := q.f2; have q2 := q.f3; have q3 := q.pl; have q4 := q.pp; have q5 := q.lo
  rw [h.fs, h.es] at q1
  rw [h.fs, h.es, h.n] at q2
  rw [h.fs, h.es, h.n, h.by_] at q3
  rw [h.ct, h.by_] at q4
  rw [h.n] at q5
  exact ⟨q1, q2, q3, q4, q5⟩
theorem Rm.below (h : Rm b w W nn k l fr en by_ ct cv pv ds s c f) (hb : Below W.heap.size W W') : Rm b w W' nn k l fr en by_ ct cv pv ds s c f :=
  ⟨h.wl.below hb, h.fst, h.n, h.dead, h.fs, h.es, h.by_, h.ct, h.ea, h.f5, h.en2, h.idle, h.cache, h.dn, h.cw, h.cf, h.c2, h.f2, h.ws, h.bel.trans (hb.mono h.bel.size)⟩
theorem Rm.up (h : Rm b w W nn k l fr en by_ ct cv pv ds s c f) : Rm b w W nn (k + 1) l fr en by_ ct cv pv ds s c f :=
  ⟨h.wl, h.fst, h.n, h.dead, h.fs, h.es, h.by_, h.ct, h.ea, h.f5, by have := h.en2; omega, h.idle, h.cache, h.dn, h.cw, h.cf, by have := h.c2; omega, by have := h.f2; omega, by have := h.ws; omega, h.bel⟩
theorem Rm.free (h : Rm b w W nn k l fr en by_ ct cv pv ds s c f) : s.free = nn - (en - fr) := by unfold LS.free; rw [h.n, h.es, h.fs]
theorem Rm.stamps (h : Rm b w W nn k l fr en by_ ct cv pv ds s c f) (hk : k ≤ 1099511627776) : s.stamps = 512 := by
  have := h.en2
  unfold LS.stamps; rw [h.es]; omega
theorem Rm.room (h : Rm b w W nn k l fr en by_ ct cv pv ds s c f) (hk : k ≤ 1099511627776) (hn : nn ≤ 39) : roomL s = min 32768 (464 * (nn - (en - fr)) - by_ - 4) := by
  unfold roomL
  rw [if_neg (by rw [h.dead]; simp), h.free, h.stamps hk, h.by_, Nat.min_eq_left (show nn - (en - fr) ≤ 512 by omega)]
theorem Rm.lt (h : Rm b w W nn k l fr en by_ ct cv pv ds s c f) (x : Nat) (hx : Foot (b + 2) b (b + 1) cv x ∨ x = l ∨ some x = pv.ownBlock) : b ≤ x ∧ x < W.heap.size := by
  rcases hx with hx | rfl | hx
  · exact h.wl.dv.foot_lt x hx
  · exact ⟨h.wl.lg.b, lt_of_heap h.wl.lg.self⟩
  · exact World.ownsRow.lt h.wl.lg.pay x hx.symm
/-- What Append answers. -/
theorem Rm.appE (h : Rm b w W nn k l fr en by_ ct cv pv ds s c f) (hk : k ≤ 1099511627776) (hn : nn ≤ 39) (t : Nat) :
    Go.Proofs.Ytddnplpaoldbpaa.appE s t = if t < 1 ∨ 32768 < t then 23 else if nn - (en - fr) < (by_ + 4 + t + 463) / 464 then 4 else 0 := by
  unfold Go.Proofs.Ytddnplpaoldbpaa.appE LS.need
  rw [if_neg (by rw [h.dead]; simp), h.free, h.stamps hk, h.by_]
  split
  · rfl
  · split
    · rfl
    · rw [if_neg (by omega)]
theorem rm_app_no (h : Rm b w W nn k l fr en by_ ct cv pv ds s c f) (hk : k ≤ 1099511627776) (hn : nn ≤ 39) (t : ByteArray) (e0 : Int) (he : (if t.size < 1 ∨ 32768 < t.size then 23 else if nn - (en - fr) < (by_ + 4 + t.size + 463) / 464 then 4 else 0 : Int) = e0) (hne : e0 ≠ 0) :
    Calls Try.prog 12 #[.pointer (some ⟨l, 0, none⟩), .string t] W fun e w' => e = .returned (.int .i64 e0) ∧ Rm b w w' nn (k + 1) l fr en by_ ct cv pv ds s c f ∧ Kept (fun x => Foot (b + 2) b (b + 1) cv x ∨ x = l ∨ some x = pv.ownBlock) W w' := by
  have E := h.appE hk hn t.size
  rw [he] at E
  refine (append_no h.wl.lg t (by rw [E]; exact hne)).mono ?_
  rintro e w' ⟨rfl, hb⟩
  rw [E]
  exact ⟨rfl, (h.below hb).up, Below.kept hb _⟩
theorem rm_app_ok (h : Rm b w W nn k l fr en by_ ct cv pv ds s c f) (hb : w.heap.size ≤ b) (hB : b ≤ W.heap.size) (hk : k ≤ 1099511627776) (hn : nn ≤ 39) (t : ByteArray) (he : (if t.size < 1 ∨ 32768 < t.size then 23 else if nn - (en - fr) < (by_ + 4 + t.size + 463) / 464 then 4 else 0 : Int) = 0) :
    Calls Try.prog 12 #[.pointer (some ⟨l, 0, none⟩), .string t] W fun e w' => ∃ pv' s', e = .returned (.int .i64 0) ∧ Rm b w w' nn (k + 1) l fr en (by_ + 4 + t.size) (ct + 1) cv pv' ds s' c f ∧ Kept (fun x => Foot (b + 2) b (b + 1) cv x ∨ x = l ∨ some x = pv.ownBlock) W w' := by
  have E := h.appE hk hn t.size
  rw [he] at E
  refine (append_ok h.wl.lg t E).mono ?_
  rintro e w' ⟨pv', rfl, hl, hkp, _⟩
  have u := h.up
  refine ⟨pv', _, rfl, ⟨⟨h.wl.dv.kept hkp (fun x hx q => ?_), hl⟩, h.fst, h.n, h.dead, h.fs, h.es, ?_, ?_, h.ea, h.f5, u.en2, h.idle, h.cache, h.dn, h.cw, h.cf, u.c2, u.f2, u.ws, h.bel.trans ((hkp.below hB (fun x hx => (h.lt x (.inr hx)).1)).mono hb)⟩, hkp.mono (fun _ _ q => .inr q)⟩
  · rcases q with q | q
    · exact h.wl.l_ne (q ▸ hx)
    · exact h.wl.dv.bytes_ne h.wl.lg.pay x q.symm hx
  · show (s.pay ++ (leB 4 t.data.toList.length ++ t.data.toList)).length = _
    rw [List.length_append, List.length_append, leB_length, str_size, h.by_]; omega
  · show s.pend + 1 = _
    rw [h.ct]
theorem rm_sync (h : Rm b w W nn k l fr en by_ ct cv pv ds s c f) (hb : w.heap.size ≤ b) (hB : b ≤ W.heap.size) (hk : k ≤ 1099511627776) (hn : nn ≤ 39) (T : Nat) (hT : T = (by_ + 463) / 464) :
    Calls Try.prog 13 #[.pointer (some ⟨l, 0, none⟩)] W fun e w' => ∃ cv' pv' ds' s', e = .returned (.int .i64 0) ∧ Rm b w w' nn (k + 1) l fr (en + T) 0 0 cv' pv' ds' s' (c + T) (f + 1) ∧ Kept (fun x => Foot (b + 2) b (b + 1) cv x ∨ x = l ∨ some x = pv.ownBlock) W w' := by
  have h1 := h.ws; have h2 := h.c2; have h3 := h.f2; have h4 := h.en2
  obtain ⟨g1, g2, g3, g4, g5⟩ := h.facts
  have g6 := h.f5
  have eT : s.T = T := by unfold LS.T; rw [h.by_, hT]
  have T39 : T ≤ 39 := by omega
  obtain ⟨ds', d1, d2, d3, d4, d5, d6, d7⟩ := brD_ok s s.T ds c f h.idle (fun i => at_lt h.wl.lg.fit (by rw [h.fst, h.n, h.dn]; omega) i) h.cw h.cf (by omega) (by omega)
  have E : sync s ds = (ds', s.next, 0) := by
    unfold sync
    rw [if_neg (by rw [h.dead]; simp), d1, if_neg (fun q => q rfl)]
  have S := sync_any h.wl (by omega) (by rw [h.cache]; show 0 + 600 < _; omega)
  rw [E] at S
  refine S.mono ?_
  rintro e w' ⟨cv', pv', rfl, hw, hkp, _, _⟩
  rw [eT] at d5 d7
  refine ⟨cv', pv', ds', s.next, rfl, ⟨hw, h.fst, h.n, h.dead, h.fs, ?_, rfl, rfl, ?_, h.f5, by omega, d2, d3, by rw [d4]; exact h.dn, d5, d6, by omega, by omega, by omega, h.bel.trans ((hkp.below hB (fun x hx => (h.lt x (by rcases hx with q | q; exact .inl q; exact .inr (.inl q))).1)).mono hb)⟩, hkp.mono (fun _ _ q => by rcases q with q | q; exact .inl q; exact .inr (.inl q))⟩
  · show s.es + s.T = _
    rw [h.es, eT]
  · show (s.ea + s.T) % s.n = _
    rw [h.ea, eT, h.n, Nat.mod_add_mod]
    congr 1
    omega
theorem rm_drop (h : Rm b w W nn k l fr en by_ ct cv pv ds s c f) (hb : w.heap.size ≤ b) (hB : b ≤ W.heap.size) :
    Calls Try.prog 18 #[.pointer (some ⟨l, 0, none⟩)] W fun e w' => ∃ s', e = .returned (.tuple #[]) ∧ Rm b w w' nn (k + 1) l fr en 0 0 cv (.slice none 0 0) ds s' c f ∧ Kept (fun x => Foot (b + 2) b (b + 1) cv x ∨ x = l ∨ some x = pv.ownBlock) W w' := by
  refine (drop_any h.wl.lg).mono ?_
  rintro e w' ⟨rfl, hl, hkp⟩
  have u := h.up
  exact ⟨_, rfl, ⟨⟨h.wl.dv.kept hkp (fun x hx q => h.wl.l_ne (q ▸ hx)), hl⟩, h.fst, h.n, h.dead, h.fs, h.es, rfl, rfl, h.ea, h.f5, u.en2, h.idle, h.cache, h.dn, h.cw, h.cf, u.c2, u.f2, u.ws, h.bel.trans ((hkp.below hB (fun x hx => by rw [hx]; exact h.wl.lg.b)).mono hb)⟩, hkp.mono (fun _ _ q => .inr (.inl q))⟩
theorem rm_cut (h : Rm b w W nn k l fr en by_ ct cv pv ds s c f) (hb : w.heap.size ≤ b) (hB : b ≤ W.heap.size) :
    Calls Try.prog 16 #[.pointer (some ⟨l, 0, none⟩), .agg #[.int .i64 (en : Int), .int .i64 (((3 + (en - 5)) % nn : Nat) : Int)]] W fun e w' => ∃ s', e = .returned (.int .i64 0) ∧ Rm b w w' nn (k + 1) l en en by_ ct cv pv ds s' c f ∧ Kept (fun x => Foot (b + 2) b (b + 1) cv x ∨ x = l ∨ some x = pv.ownBlock) W w' := by
  have C := cut_end h.wl.lg
  rw [h.es, h.ea] at C
  refine C.mono ?_
  rintro e w' ⟨rfl, hl, hkp⟩
  have u := h.up
  have g := h.facts
  have g6 := h.f5
  exact ⟨_, rfl, ⟨⟨h.wl.dv.kept hkp (fun x hx q => h.wl.l_ne (q ▸ hx)), hl⟩, h.fst, h.n, h.dead, rfl, rfl, h.by_, h.ct, rfl, by omega, u.en2, h.idle, h.cache, h.dn, h.cw, h.cf, u.c2, u.f2, u.ws, h.bel.trans ((hkp.below hB (fun x hx => by rw [hx]; exact h.wl.lg.b)).mono hb)⟩, hkp.mono (fun _ _ q => .inr (.inl q))⟩
theorem rm_end (h : Rm b w W nn k l fr en by_ ct cv pv ds s c f) :
    Calls Try.prog 15 #[.pointer (some ⟨l, 0, none⟩)] W fun e w' => e = .returned (.agg #[.int .i64 (en : Int), .int .i64 (((3 + (en - 5)) % nn : Nat) : Int)]) ∧ Below W.heap.size W w' := by
  have C := end_any h.wl.lg
  rw [h.es, h.ea] at C
  exact C
end Go.Proofs.Ytddnplpaoldbpaa
