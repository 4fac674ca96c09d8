/-
  Layer 28: readEvent.
-/
import Derived.Test.YtkbikflincjhhaaReqR
import Derived.Laws.ResultCell

namespace Go.Proofs.Ytkbikflincjhhaa
set_option linter.unusedSimpArgs false
set_option linter.unusedVariables false
open Go.RowKit Go.WideShapes Go.ChangeShapes Go.ChangeAt Go.Deep
theorem row8_set {W : World} {A : Nat} {a0 a1 a2 a3 a4 a5 a6 a7 x0 x1 x2 x3 x4 x5 x6 x7 : Value} {t : TypeId} (h : W.heap[A]? = some (.cells #[a0, a1, a2, a3, a4, a5, a6, a7] t (0, 0))) :
    ((((((((W.setCell ⟨A, 0, none⟩ x0).setCell ⟨A, 1, none⟩ x1).setCell ⟨A, 2, none⟩ x2).setCell ⟨A, 3, none⟩ x3).setCell ⟨A, 4, none⟩ x4).setCell ⟨A, 5, none⟩ x5).setCell ⟨A, 6, none⟩ x6).setCell ⟨A, 7, none⟩ x7).heap[A]? = some (.cells #[x0, x1, x2, x3, x4, x5, x6, x7] t (0, 0)) := by
  have h0 : (W.setCell ⟨A, 0, none⟩ x0).heap[A]? = some (.cells #[x0, a1, a2, a3, a4, a5, a6, a7] t (0, 0)) := block_setCell h 0 x0
  clear h
  generalize W.setCell ⟨A, 0, none⟩ x0 = W0 at *
  have h1 : (W0.setCell ⟨A, 1, none⟩ x1).heap[A]? = some (.cells #[x0, x1, a2, a3, a4, a5, a6, a7] t (0, 0)) := block_setCell h0 1 x1
  clear h0
  generalize W0.setCell ⟨A, 1, none⟩ x1 = W1 at *
  have h2 : (W1.setCell ⟨A, 2, none⟩ x2).heap[A]? = some (.cells #[x0, x1, x2, a3, a4, a5, a6, a7] t (0, 0)) := block_setCell h1 2 x2
  clear h1
  generalize W1.setCell ⟨A, 2, none⟩ x2 = W2 at *
  have h3 : (W2.setCell ⟨A, 3, none⟩ x3).heap[A]? = some (.cells #[x0, x1, x2, x3, a4, a5, a6, a7] t (0, 0)) := block_setCell h2 3 x3
  clear h2
  generalize W2.setCell ⟨A, 3, none⟩ x3 = W3 at *
  have h4 : (W3.setCell ⟨A, 4, none⟩ x4).heap[A]? = some (.cells #[x0, x1, x2, x3, x4, a5, a6, a7] t (0, 0)) := block_setCell h3 4 x4
  clear h3
  generalize W3.setCell ⟨A, 4, none⟩ x4 = W4 at *
  have h5 : (W4.setCell ⟨A, 5, none⟩ x5).heap[A]? = some (.cells #[x0, x1, x2, x3, x4, x5, a6, a7] t (0, 0)) := block_setCell h4 5 x5
  clear h4
  generalize W4.setCell ⟨A, 5, none⟩ x5 = W5 at *
  have h6 : (W5.setCell ⟨A, 6, none⟩ x6).heap[A]? = some (.cells #[x0, x1, x2, x3, x4, x5, x6, a7] t (0, 0)) := block_setCell h5 6 x6
  clear h5
  generalize W5.setCell ⟨A, 6, none⟩ x6 = W6 at *
  have h7 : (W6.setCell ⟨A, 7, none⟩ x7).heap[A]? = some (.cells #[x0, x1, x2, x3, x4, x5, x6, x7] t (0, 0)) := block_setCell h6 7 x7
  exact h7
theorem res_cell2 {P : Program} {fn : Func} {p u : Tmp} {ty : TypeId} (h : fn.results = #[.cell p ty, .tmp u]) (tmps : Array Value) (w : World) (g : Nat) (ty2 : TypeId) (cs : Array Value) (fr : Nat × Nat) (d : TypeDesc)
    (hp : tmps.getD p undef = .pointer (some ⟨g, 0, none⟩)) (hg : w.heap[g]? = some (.cells cs ty2 fr)) (hu : P.underlying ty = some d) (hd : (match d with | .struct _ | .array _ _ => true | _ => false) = true) (hi : (P.info? ty).map (·.size) = some cs.size) :
    (results fn tmps).run P w = .ok (.tuple #[.agg cs, tmps.getD u undef]) w := by
  have hp' : tmps[p]?.getD undef = .pointer (some ⟨g, 0, none⟩) := by simpa using hp
  simp [results, h, hp', asAddr, run_loadVar_row w g ty2 ty cs fr d hg hu hd hi]
def evC (x : RqM) (lv : Value) : Array Value := #[.int .u8 x.ek, .int .u64 x.key, .int .i64 x.ref, .int .i64 x.amt, .int .i64 x.code, .int .u8 x.ak, .string x.name, lv]
/-- what readEvent leaves -/
def REvIs (p : Nat) (l : List UInt8) (W : World) (e : Ending) (w' : World) : Prop := ∃ (x : RqM) (a : Option Addr) (c : Nat) (err : Int) (ok' : Bool) (l' : List UInt8), e = .returned (.tuple #[.agg (evC x (.slice a x.L.length c)), .int .i64 err]) ∧ LnFrom W.heap.size w' a x.L ∧ RQ w' p ok' l' ∧ Only p W w' ∧ ((err = 0 ∧ ok' = true ∧ l' = []) ↔ decO l = true) ∧ (decO l = true → x = decR l)
/-- the frame: the event's box, the result's -/
structure EvF (w W : World) (p eb ra : Nat) (ok : Bool) (l : List UInt8) (C : Array Value) : Prop where
  rq : RQ W p ok l
  ev : W.heap[eb]? = some (.cells C 37 (0, 0))
  res : W.heap[ra]? = some (.cells #[.int .u8 0, .int .u64 0, .int .i64 0, .int .i64 0, .int .i64 0, .int .u8 0, .string ⟨#[]⟩, .slice none 0 0] 37 (0, 0))
  only : Only p w W
  new : w.heap.size ≤ eb ∧ w.heap.size ≤ ra ∧ eb ≠ ra ∧ p < w.heap.size
theorem EvF.step {w W W' : World} {p eb ra : Nat} {ok ok' : Bool} {l l' : List UInt8} {C : Array Value} (h : EvF w W p eb ra ok l C) (hr : RQ W' p ok' l') (ho : Only p W W') : EvF w W' p eb ra ok' l' C := by
  obtain ⟨n1, n2, n3, n4⟩ := h.new
  exact ⟨hr, (ho.block _ (heap_lt h.ev) (by omega)).trans h.ev, (ho.block _ (heap_lt h.res) (by omega)).trans h.res, h.only.trans ho, h.new⟩
theorem EvF.store {w W : World} {p eb ra : Nat} {ok : Bool} {l : List UInt8} {C : Array Value} (h : EvF w W p eb ra ok l C) (j : Nat) (v : Value) : EvF w (W.setCell ⟨eb, j, none⟩ v) p eb ra ok l (C.setIfInBounds j v) := by
  obtain ⟨n1, n2, n3, n4⟩ := h.new
  exact ⟨h.rq.other (by omega) j v, block_setCell h.ev j v, (block_setCell_other n3 j v).trans h.res, h.only.new n1 j v, h.new⟩
theorem EvF.lt {w W : World} {p eb ra : Nat} {ok : Bool} {l : List UInt8} {C : Array Value} (h : EvF w W p eb ra ok l C) : w.heap.size ≤ W.heap.size := h.only.size
theorem EvF.start {w : World} {p : Nat} {ok : Bool} {l : List UInt8} (h : RQ w p ok l) (C : Array Value) : EvF w ((w.alloc (.cells #[.int .u8 0, .int .u64 0, .int .i64 0, .int .i64 0, .int .i64 0, .int .u8 0, .string ⟨#[]⟩, .slice none 0 0] 37)).alloc (.cells C 37)) p (w.heap.size + 1) w.heap.size ok l C := by
  have b1 := (Below.refl w.heap.size w).alloc (Nat.le_refl _) (.cells #[.int .u8 0, .int .u64 0, .int .i64 0, .int .i64 0, .int .i64 0, .int .u8 0, .string ⟨#[]⟩, .slice none 0 0] 37)
  have hs : (w.alloc (.cells #[.int .u8 0, .int .u64 0, .int .i64 0, .int .i64 0, .int .i64 0, .int .u8 0, .string ⟨#[]⟩, .slice none 0 0] 37)).heap.size = w.heap.size + 1 := by simp
  have b2 := (Below.refl _ (w.alloc (.cells #[.int .u8 0, .int .u64 0, .int .i64 0, .int .i64 0, .int .i64 0, .int .u8 0, .string ⟨#[]⟩, .slice none 0 0] 37))).alloc (Nat.le_refl _) (.cells C 37)
  refine ⟨(h.below b1).below b2, ?_, (b2.block _ (by omega)).trans (heap_new _ _), (Only.of_below b1).trans (Only.of_below b2), by omega, by omega, by omega, h.lt⟩
  have := heap_new (w.alloc (.cells #[.int .u8 0, .int .u64 0, .int .i64 0, .int .i64 0, .int .i64 0, .int .u8 0, .string ⟨#[]⟩, .slice none 0 0] 37)) (.cells C 37)
  rwa [hs] at this
theorem EvF.done {w W : World} {p eb ra : Nat} {ok : Bool} {l : List UInt8} {C : Array Value} (h : EvF w W p eb ra ok l C) (x0 x1 x2 x3 x4 x5 x6 x7 : Value) :
    RQ ((((((((W.setCell ⟨ra, 0, none⟩ x0).setCell ⟨ra, 1, none⟩ x1).setCell ⟨ra, 2, none⟩ x2).setCell ⟨ra, 3, none⟩ x3).setCell ⟨ra, 4, none⟩ x4).setCell ⟨ra, 5, none⟩ x5).setCell ⟨ra, 6, none⟩ x6).setCell ⟨ra, 7, none⟩ x7) p ok l ∧ Only p w ((((((((W.setCell ⟨ra, 0, none⟩ x0).setCell ⟨ra, 1, none⟩ x1).setCell ⟨ra, 2, none⟩ x2).setCell ⟨ra, 3, none⟩ x3).setCell ⟨ra, 4, none⟩ x4).setCell ⟨ra, 5, none⟩ x5).setCell ⟨ra, 6, none⟩ x6).setCell ⟨ra, 7, none⟩ x7) := by
  obtain ⟨n1, n2, n3, n4⟩ := h.new
  have hne : ra ≠ p := by omega
  exact ⟨(((((((h.rq.other hne 0 x0).other hne 1 x1).other hne 2 x2).other hne 3 x3).other hne 4 x4).other hne 5 x5).other hne 6 x6).other hne 7 x7,
    (((((((h.only.new n2 0 x0).new n2 1 x1).new n2 2 x2).new n2 3 x3).new n2 4 x4).new n2 5 x5).new n2 6 x6).new n2 7 x7⟩
theorem LnFrom.done {B : Nat} {W : World} {a : Option Addr} {L : List LnM} (h : LnFrom B W a L) {A : Nat} (hA : A < B) (x0 x1 x2 x3 x4 x5 x6 x7 : Value) : LnFrom B ((((((((W.setCell ⟨A, 0, none⟩ x0).setCell ⟨A, 1, none⟩ x1).setCell ⟨A, 2, none⟩ x2).setCell ⟨A, 3, none⟩ x3).setCell ⟨A, 4, none⟩ x4).setCell ⟨A, 5, none⟩ x5).setCell ⟨A, 6, none⟩ x6).setCell ⟨A, 7, none⟩ x7) a L :=
  (((((((h.set hA 0 x0).set hA 1 x1).set hA 2 x2).set hA 3 x3).set hA 4 x4).set hA 5 x5).set hA 6 x6).set hA 7 x7
theorem row8_facts {w : World} {p : Nat} {a0 a1 a2 a3 a4 a5 a6 a7 : Value} {t : TypeId} (h : w.heap[p]? = some (.cells #[a0, a1, a2, a3, a4, a5, a6, a7] t (0, 0))) :
    (w.cell? ⟨p, 0, none⟩ = some a0 ∧ w.cell? ⟨p, 1, none⟩ = some a1 ∧ w.cell? ⟨p, 2, none⟩ = some a2 ∧ w.cell? ⟨p, 3, none⟩ = some a3 ∧ w.cell? ⟨p, 4, none⟩ = some a4 ∧ w.cell? ⟨p, 5, none⟩ = some a5 ∧ w.cell? ⟨p, 6, none⟩ = some a6 ∧ w.cell? ⟨p, 7, none⟩ = some a7) ∧
    (w.frozen? ⟨p, 0, none⟩ = false ∧ w.frozen? ⟨p, 1, none⟩ = false ∧ w.frozen? ⟨p, 2, none⟩ = false ∧ w.frozen? ⟨p, 3, none⟩ = false ∧ w.frozen? ⟨p, 4, none⟩ = false ∧ w.frozen? ⟨p, 5, none⟩ = false ∧ w.frozen? ⟨p, 6, none⟩ = false ∧ w.frozen? ⟨p, 7, none⟩ = false) :=
  ⟨⟨cell_of_block h 0, cell_of_block h 1, cell_of_block h 2, cell_of_block h 3, cell_of_block h 4, cell_of_block h 5, cell_of_block h 6, cell_of_block h 7⟩, ⟨frozen_of_block h 0, frozen_of_block h 1, frozen_of_block h 2, frozen_of_block h 3, frozen_of_block h 4, frozen_of_block h 5, frozen_of_block h 6, frozen_of_block h 7⟩⟩
theorem vN_true (l : List UInt8) (w : Nat) (h : w ≤ l.length) : vN true l w = getN (l.take w) := if_pos ⟨rfl, h⟩
theorem vN_fl (l : List UInt8) (o w : Nat) (h : o + w ≤ l.length) : vN true (l.drop o) w = fl l o w := vN_true _ _ (by rw [List.length_drop]; omega)
theorem vN_8 (ok : Bool) (l : List UInt8) : 0 ≤ (vN ok l 8 : Int) ∧ (vN ok l 8 : Int) ≤ 18446744073709551615 := by have := vN_lt ok l 8; omega
theorem wr_i64 (n : Nat) (h : n < 4294967296) : IntKind.i64.wrap (n : Int) = (n : Int) ∧ wrap64 (n : Int) = (n : Int) := by
  constructor
  · rw [IntKind.wrap_i64]; omega
  · unfold wrap64; omega
theorem wr_u8 (n : Nat) (h : n < 256) : IntKind.u8.wrap (n : Int) = (n : Int) := by rw [IntKind.wrap_u8]; omega
set_option maxRecDepth 100000 in
set_option maxHeartbeats 1000000 in
theorem rev_2 (p : Nat) (l : List UInt8) (hl : 1 ≤ l.length) (hk : kd l = 2) (w : World) (h : RQ w p true (l.drop 1)) :
    Calls Try.prog 28 #[.pointer (some ⟨p, 0, none⟩), .int .u8 (2 : Int)] w (REvIs p l w) := by
  have F0 := hide (EvF.start h #[.int .u8 2, .int .u64 0, .int .i64 0, .int .i64 0, .int .i64 0, .int .u8 0, .string ⟨#[]⟩, .slice none 0 0])
  have HBS := hide (Nat.le_refl w.heap.size)
  clear h
  go_enter Try.func28, Try.ntmps28
  go_upto_region 8 with (fail)
  generalize (w.alloc (.cells #[.int .u8 0, .int .u64 0, .int .i64 0, .int .i64 0, .int .i64 0, .int .u8 0, .string ⟨#[]⟩, .slice none 0 0] 37)).alloc (.cells #[.int .u8 2, .int .u64 0, .int .i64 0, .int .i64 0, .int .i64 0, .int .u8 0, .string ⟨#[]⟩, .slice none 0 0] 37) = w2 at *
  have HNE := hide F0.out.new
  generalize hra : w.heap.size = ra at F0 HNE ⊢
  have HRA := hide hra
  clear hra
  obtain ⟨⟨e0, e1, e2, e3, e4, e5, e6, e7⟩, -⟩ := row8_facts F0.out.ev
  obtain ⟨⟨g0, g1, g2, g3, g4, g5, g6, g7⟩, ⟨z0, z1, z2, z3, z4, z5, z6, z7⟩⟩ := row8_facts F0.out.res
  have hne : ¬ ra + 1 = ra := by omega
  go_wp2_with fail
  (try simp only [Exit.inBlock, Exit.then])
  refine bodyPost_ret (res_cell2 (P := Try.prog) rfl _ _ ra 37 #[.int .u8 2, .int .u64 0, .int .i64 0, .int .i64 0, .int .i64 0, .int .u8 0, .string ⟨#[]⟩, .slice none 0 0] (0, 0) _ rfl (row8_set F0.out.res) Try.underlying37 rfl (by kernel_rfl)) rfl ?_
  obtain ⟨hd1, hd2⟩ := F0.out.done (.int .u8 2) (.int .u64 0) (.int .i64 0) (.int .i64 0) (.int .i64 0) (.int .u8 0) (.string ⟨#[]⟩) (.slice none 0 0)
  refine ⟨{ rq0 with k := 2, ek := 2 }, none, 0, 0, _, _, rfl, LnFrom.nil _ _ _, hd1, hd2, ?_, fun _ => (decR_2 hk).symm⟩
  unfold decO
  rw [lenOf_0 (by omega), decide_eq_true_eq, hk]
  constructor
  · rintro ⟨-, -, h3⟩
    have := congrArg List.length h3
    rw [List.length_drop] at this
    simp at this
    exact ⟨by omega, by decide, by decide, by omega, fun h => absurd h (by decide)⟩
  · rintro ⟨-, -, -, h4, -⟩
    exact ⟨rfl, rfl, List.drop_of_length_le (by omega)⟩
set_option maxRecDepth 100000 in
set_option maxHeartbeats 1000000 in
theorem rev_3 (p : Nat) (l : List UInt8) (hl : 1 ≤ l.length) (hk : kd l = 3) (w : World) (h : RQ w p true (l.drop 1)) :
    Calls Try.prog 28 #[.pointer (some ⟨p, 0, none⟩), .int .u8 (3 : Int)] w (REvIs p l w) := by
  have F0 := hide (EvF.start h #[.int .u8 3, .int .u64 0, .int .i64 0, .int .i64 0, .int .i64 0, .int .u8 0, .string ⟨#[]⟩, .slice none 0 0])
  have HBS := hide (Nat.le_refl w.heap.size)
  clear h
  go_enter Try.func28, Try.ntmps28
  go_upto_region 8 with (fail)
  generalize (w.alloc (.cells #[.int .u8 0, .int .u64 0, .int .i64 0, .int .i64 0, .int .i64 0, .int .u8 0, .string ⟨#[]⟩, .slice none 0 0] 37)).alloc (.cells #[.int .u8 3, .int .u64 0, .int .i64 0, .int .i64 0, .int .i64 0, .int .u8 0, .string ⟨#[]⟩, .slice none 0 0] 37) = w2 at *
  have HNE := hide F0.out.new
  generalize hra : w.heap.size = ra at F0 HNE ⊢
  have HRA := hide hra
  clear hra
  obtain ⟨⟨e0, e1, e2, e3, e4, e5, e6, e7⟩, -⟩ := row8_facts F0.out.ev
  obtain ⟨⟨g0, g1, g2, g3, g4, g5, g6, g7⟩, ⟨z0, z1, z2, z3, z4, z5, z6, z7⟩⟩ := row8_facts F0.out.res
  have hne : ¬ ra + 1 = ra := by omega
  go_wp2_with fail
  (try simp only [Exit.inBlock, Exit.then])
  refine bodyPost_ret (res_cell2 (P := Try.prog) rfl _ _ ra 37 #[.int .u8 3, .int .u64 0, .int .i64 0, .int .i64 0, .int .i64 0, .int .u8 0, .string ⟨#[]⟩, .slice none 0 0] (0, 0) _ rfl (row8_set F0.out.res) Try.underlying37 rfl (by kernel_rfl)) rfl ?_
  obtain ⟨hd1, hd2⟩ := F0.out.done (.int .u8 3) (.int .u64 0) (.int .i64 0) (.int .i64 0) (.int .i64 0) (.int .u8 0) (.string ⟨#[]⟩) (.slice none 0 0)
  refine ⟨{ rq0 with k := 3, ek := 3 }, none, 0, 0, _, _, rfl, LnFrom.nil _ _ _, hd1, hd2, ?_, fun _ => (decR_3 hk).symm⟩
  unfold decO
  rw [lenOf_0 (by omega), decide_eq_true_eq, hk]
  constructor
  · rintro ⟨-, -, h3⟩
    have := congrArg List.length h3
    rw [List.length_drop] at this
    simp at this
    exact ⟨by omega, by decide, by decide, by omega, fun h => absurd h (by decide)⟩
  · rintro ⟨-, -, -, h4, -⟩
    exact ⟨rfl, rfl, List.drop_of_length_le (by omega)⟩
set_option maxRecDepth 100000 in
set_option maxHeartbeats 1000000 in
theorem rev_5 (p : Nat) (l : List UInt8) (hl : 1 ≤ l.length) (hk : kd l = 5) (w : World) (h : RQ w p true (l.drop 1)) :
    Calls Try.prog 28 #[.pointer (some ⟨p, 0, none⟩), .int .u8 (5 : Int)] w (REvIs p l w) := by
  have F0 := hide (EvF.start h #[.int .u8 5, .int .u64 0, .int .i64 0, .int .i64 0, .int .i64 0, .int .u8 0, .string ⟨#[]⟩, .slice none 0 0])
  have HBS := hide (Nat.le_refl w.heap.size)
  clear h
  have HC1 := hide (fun W hw => rq_number p true (l.drop 1) 8 (by decide) (by decide) W hw)
  unfold RNIs at HC1
  rw [List.drop_drop] at HC1
  obtain ⟨n1, hn1⟩ : ∃ n : Nat, vN true (l.drop 1) 8 = n := ⟨_, rfl⟩
  have hbn1 := vN_lt true (l.drop 1) 8
  rw [hn1] at HC1 hbn1
  have HVn1 := hide hn1
  clear hn1
  obtain ⟨o1, ho1⟩ : ∃ o, (true && decide (8 ≤ (l.drop 1).length)) = o := ⟨_, rfl⟩
  rw [ho1] at HC1
  have HO1 := hide ho1
  clear ho1
  have b1 : 0 ≤ (n1 : Int) ∧ (n1 : Int) ≤ 18446744073709551615 := by omega
  clear hbn1
  have HC2 := hide (fun W hw => rq_number p o1 (l.drop 9) 4 (by decide) (by decide) W hw)
  unfold RNIs at HC2
  rw [List.drop_drop] at HC2
  obtain ⟨n2, hn2⟩ : ∃ n : Nat, vN o1 (l.drop 9) 4 = n := ⟨_, rfl⟩
  have hbn2 := vN_lt o1 (l.drop 9) 4
  rw [hn2] at HC2 hbn2
  have HVn2 := hide hn2
  clear hn2
  obtain ⟨o2, ho2⟩ : ∃ o, (o1 && decide (4 ≤ (l.drop 9).length)) = o := ⟨_, rfl⟩
  rw [ho2] at HC2
  have HO2 := hide ho2
  clear ho2
  have cn2 := wr_i64 n2 (by omega)
  obtain ⟨cn2a, cn2b⟩ := cn2
  have dn2 : 0 ≤ (n2 : Int) ∧ (n2 : Int) ≤ 4294967295 := by omega
  clear hbn2
  go_enter Try.func28, Try.ntmps28
  go_upto_region 9 with (fail)
  generalize (w.alloc (.cells #[.int .u8 0, .int .u64 0, .int .i64 0, .int .i64 0, .int .i64 0, .int .u8 0, .string ⟨#[]⟩, .slice none 0 0] 37)).alloc (.cells #[.int .u8 5, .int .u64 0, .int .i64 0, .int .i64 0, .int .i64 0, .int .u8 0, .string ⟨#[]⟩, .slice none 0 0] 37) = w2 at *
  have HNE := hide F0.out.new
  generalize hra : w.heap.size = ra at F0 HNE ⊢
  have HRA := hide hra
  clear hra
  go_wp2_with fail
  refine (HC1.out _ F0.out.rq).mono ?_
  rintro e v1 ⟨rfl, hr, ho⟩
  have FR1 := hide (F0.out.step hr ho)
  clear hr ho
  obtain ⟨⟨e0, e1, e2, e3, e4, e5, e6, e7⟩, ⟨z0, z1, z2, z3, z4, z5, z6, z7⟩⟩ := row8_facts FR1.out.ev
  have FS1x1 := hide (show EvF w (v1.setCell ⟨ra + 1, 1, none⟩ (.int .u64 (n1 : Int))) p (ra + 1) ra _ _ #[.int .u8 5, .int .u64 (n1 : Int), .int .i64 0, .int .i64 0, .int .i64 0, .int .u8 0, .string ⟨#[]⟩, .slice none 0 0] from FR1.out.store 1 (.int .u64 (n1 : Int)))
  go_upto_region 16 with (fail)
  clear e0 e1 e2 e3 e4 e5 e6 e7 z0 z1 z2 z3 z4 z5 z6 z7
  generalize (v1.setCell ⟨ra + 1, 1, none⟩ (.int .u64 (n1 : Int))) = u1 at *
  go_wp2_with fail
  refine (HC2.out _ FS1x1.out.rq).mono ?_
  rintro e v2 ⟨rfl, hr, ho⟩
  have FR2 := hide (FS1x1.out.step hr ho)
  clear hr ho
  obtain ⟨⟨e0, e1, e2, e3, e4, e5, e6, e7⟩, ⟨z0, z1, z2, z3, z4, z5, z6, z7⟩⟩ := row8_facts FR2.out.ev
  have FS2x1 := hide (show EvF w (v2.setCell ⟨ra + 1, 2, none⟩ (.int .i64 (n2 : Int))) p (ra + 1) ra _ _ #[.int .u8 5, .int .u64 (n1 : Int), .int .i64 (n2 : Int), .int .i64 0, .int .i64 0, .int .u8 0, .string ⟨#[]⟩, .slice none 0 0] from FR2.out.store 2 (.int .i64 (n2 : Int)))
  go_upto_region 24 with (fail)
  clear e0 e1 e2 e3 e4 e5 e6 e7 z0 z1 z2 z3 z4 z5 z6 z7
  generalize (v2.setCell ⟨ra + 1, 2, none⟩ (.int .i64 (n2 : Int))) = u2 at *
  obtain ⟨⟨e0, e1, e2, e3, e4, e5, e6, e7⟩, -⟩ := row8_facts FS2x1.out.ev
  obtain ⟨⟨g0, g1, g2, g3, g4, g5, g6, g7⟩, ⟨z0, z1, z2, z3, z4, z5, z6, z7⟩⟩ := row8_facts FS2x1.out.res
  have hne : ¬ ra + 1 = ra := by omega
  go_wp2_with fail
  (try simp only [Exit.inBlock, Exit.then])
  refine bodyPost_ret (res_cell2 (P := Try.prog) rfl _ _ ra 37 #[.int .u8 5, .int .u64 (n1 : Int), .int .i64 (n2 : Int), .int .i64 0, .int .i64 0, .int .u8 0, .string ⟨#[]⟩, .slice none 0 0] (0, 0) _ rfl (row8_set FS2x1.out.res) Try.underlying37 rfl (by kernel_rfl)) rfl ?_
  obtain ⟨hd1, hd2⟩ := FS2x1.out.done (.int .u8 5) (.int .u64 (n1 : Int)) (.int .i64 (n2 : Int)) (.int .i64 0) (.int .i64 0) (.int .u8 0) (.string ⟨#[]⟩) (.slice none 0 0)
  refine ⟨{ rq0 with k := 5, ek := 5, key := n1, ref := n2 }, none, 0, 0, _, _, rfl, LnFrom.nil _ _ _, hd1, hd2, ?_, fun hd => ?_⟩
  · unfold decO
    rw [lenOf_5 hk, decide_eq_true_eq, hk]
    constructor
    · rintro ⟨-, h2, h3⟩
      have h4 := congrArg List.length h3
      rw [List.length_drop] at h4
      simp at h4
      have g2 := h2
      rw [← HO2.out, Bool.and_eq_true, decide_eq_true_eq, List.length_drop] at g2
      have g1 := g2.1
      rw [← HO1.out, Bool.and_eq_true, decide_eq_true_eq, List.length_drop] at g1
      exact ⟨by omega, by decide, by decide, by omega, fun h => absurd h (by decide)⟩
    · rintro ⟨-, -, -, h4, -⟩
      refine ⟨rfl, ?_, List.drop_of_length_le (by omega)⟩
      have q1 : o1 = true := by rw [← HO1.out]; simp; omega
      have q2 : o2 = true := by rw [← HO2.out, q1]; simp; omega
      exact q2
  · rw [decR_5 hk]
    have h4 : l.length = 13 := by
      have := of_decide_eq_true hd
      rw [lenOf_5 hk] at this
      omega
    have q1 : o1 = true := by rw [← HO1.out]; simp; omega
    have y1 : n1 = fl l 1 8 := by rw [← HVn1.out]; exact vN_fl l 1 8 (by omega)
    have y2 : n2 = fl l 9 4 := by rw [← HVn2.out, q1]; exact vN_fl l 9 4 (by omega)
    rw [y1, y2]
set_option maxRecDepth 100000 in
set_option maxHeartbeats 1000000 in
theorem rev_6 (p : Nat) (l : List UInt8) (hl : 1 ≤ l.length) (hk : kd l = 6) (w : World) (h : RQ w p true (l.drop 1)) :
    Calls Try.prog 28 #[.pointer (some ⟨p, 0, none⟩), .int .u8 (6 : Int)] w (REvIs p l w) := by
  have F0 := hide (EvF.start h #[.int .u8 6, .int .u64 0, .int .i64 0, .int .i64 0, .int .i64 0, .int .u8 0, .string ⟨#[]⟩, .slice none 0 0])
  have HBS := hide (Nat.le_refl w.heap.size)
  clear h
  have HC1 := hide (fun W hw => rq_number p true (l.drop 1) 8 (by decide) (by decide) W hw)
  unfold RNIs at HC1
  rw [List.drop_drop] at HC1
  obtain ⟨n1, hn1⟩ : ∃ n : Nat, vN true (l.drop 1) 8 = n := ⟨_, rfl⟩
  have hbn1 := vN_lt true (l.drop 1) 8
  rw [hn1] at HC1 hbn1
  have HVn1 := hide hn1
  clear hn1
  obtain ⟨o1, ho1⟩ : ∃ o, (true && decide (8 ≤ (l.drop 1).length)) = o := ⟨_, rfl⟩
  rw [ho1] at HC1
  have HO1 := hide ho1
  clear ho1
  have b1 : 0 ≤ (n1 : Int) ∧ (n1 : Int) ≤ 18446744073709551615 := by omega
  clear hbn1
  have HC2 := hide (fun W hw => rq_number p o1 (l.drop 9) 4 (by decide) (by decide) W hw)
  unfold RNIs at HC2
  rw [List.drop_drop] at HC2
  obtain ⟨n2, hn2⟩ : ∃ n : Nat, vN o1 (l.drop 9) 4 = n := ⟨_, rfl⟩
  have hbn2 := vN_lt o1 (l.drop 9) 4
  rw [hn2] at HC2 hbn2
  have HVn2 := hide hn2
  clear hn2
  obtain ⟨o2, ho2⟩ : ∃ o, (o1 && decide (4 ≤ (l.drop 9).length)) = o := ⟨_, rfl⟩
  rw [ho2] at HC2
  have HO2 := hide ho2
  clear ho2
  have cn2 := wr_i64 n2 (by omega)
  obtain ⟨cn2a, cn2b⟩ := cn2
  have dn2 : 0 ≤ (n2 : Int) ∧ (n2 : Int) ≤ 4294967295 := by omega
  clear hbn2
  have HC3 := hide (fun W hw => rq_signed p o2 (l.drop 13) W hw)
  unfold RNIs at HC3
  rw [List.drop_drop] at HC3
  obtain ⟨n3, hn3⟩ : ∃ n : Nat, vN o2 (l.drop 13) 8 = n := ⟨_, rfl⟩
  have hbn3 := vN_lt o2 (l.drop 13) 8
  rw [hn3] at HC3 hbn3
  have HVn3 := hide hn3
  clear hn3
  obtain ⟨o3, ho3⟩ : ∃ o, (o2 && decide (8 ≤ (l.drop 13).length)) = o := ⟨_, rfl⟩
  rw [ho3] at HC3
  have HO3 := hide ho3
  clear ho3
  go_enter Try.func28, Try.ntmps28
  go_upto_region 9 with (fail)
  generalize (w.alloc (.cells #[.int .u8 0, .int .u64 0, .int .i64 0, .int .i64 0, .int .i64 0, .int .u8 0, .string ⟨#[]⟩, .slice none 0 0] 37)).alloc (.cells #[.int .u8 6, .int .u64 0, .int .i64 0, .int .i64 0, .int .i64 0, .int .u8 0, .string ⟨#[]⟩, .slice none 0 0] 37) = w2 at *
  have HNE := hide F0.out.new
  generalize hra : w.heap.size = ra at F0 HNE ⊢
  have HRA := hide hra
  clear hra
  go_wp2_with fail
  refine (HC1.out _ F0.out.rq).mono ?_
  rintro e v1 ⟨rfl, hr, ho⟩
  have FR1 := hide (F0.out.step hr ho)
  clear hr ho
  obtain ⟨⟨e0, e1, e2, e3, e4, e5, e6, e7⟩, ⟨z0, z1, z2, z3, z4, z5, z6, z7⟩⟩ := row8_facts FR1.out.ev
  have FS1x1 := hide (show EvF w (v1.setCell ⟨ra + 1, 1, none⟩ (.int .u64 (n1 : Int))) p (ra + 1) ra _ _ #[.int .u8 6, .int .u64 (n1 : Int), .int .i64 0, .int .i64 0, .int .i64 0, .int .u8 0, .string ⟨#[]⟩, .slice none 0 0] from FR1.out.store 1 (.int .u64 (n1 : Int)))
  go_upto_region 18 with (fail)
  clear e0 e1 e2 e3 e4 e5 e6 e7 z0 z1 z2 z3 z4 z5 z6 z7
  generalize (v1.setCell ⟨ra + 1, 1, none⟩ (.int .u64 (n1 : Int))) = u1 at *
  go_wp2_with fail
  refine (HC2.out _ FS1x1.out.rq).mono ?_
  rintro e v2 ⟨rfl, hr, ho⟩
  have FR2 := hide (FS1x1.out.step hr ho)
  clear hr ho
  obtain ⟨⟨e0, e1, e2, e3, e4, e5, e6, e7⟩, ⟨z0, z1, z2, z3, z4, z5, z6, z7⟩⟩ := row8_facts FR2.out.ev
  have FS2x1 := hide (show EvF w (v2.setCell ⟨ra + 1, 2, none⟩ (.int .i64 (n2 : Int))) p (ra + 1) ra _ _ #[.int .u8 6, .int .u64 (n1 : Int), .int .i64 (n2 : Int), .int .i64 0, .int .i64 0, .int .u8 0, .string ⟨#[]⟩, .slice none 0 0] from FR2.out.store 2 (.int .i64 (n2 : Int)))
  go_upto_region 19 with (fail)
  clear e0 e1 e2 e3 e4 e5 e6 e7 z0 z1 z2 z3 z4 z5 z6 z7
  generalize (v2.setCell ⟨ra + 1, 2, none⟩ (.int .i64 (n2 : Int))) = u2 at *
  go_wp2_with fail
  refine (HC3.out _ FS2x1.out.rq).mono ?_
  rintro e v3 ⟨rfl, hr, ho⟩
  have FR3 := hide (FS2x1.out.step hr ho)
  clear hr ho
  obtain ⟨⟨e0, e1, e2, e3, e4, e5, e6, e7⟩, ⟨z0, z1, z2, z3, z4, z5, z6, z7⟩⟩ := row8_facts FR3.out.ev
  have FS3x1 := hide (show EvF w (v3.setCell ⟨ra + 1, 3, none⟩ (.int .i64 (wrap64 (n3 : Int)))) p (ra + 1) ra _ _ #[.int .u8 6, .int .u64 (n1 : Int), .int .i64 (n2 : Int), .int .i64 (wrap64 (n3 : Int)), .int .i64 0, .int .u8 0, .string ⟨#[]⟩, .slice none 0 0] from FR3.out.store 3 (.int .i64 (wrap64 (n3 : Int))))
  go_upto_region 24 with (fail)
  clear e0 e1 e2 e3 e4 e5 e6 e7 z0 z1 z2 z3 z4 z5 z6 z7
  generalize (v3.setCell ⟨ra + 1, 3, none⟩ (.int .i64 (wrap64 (n3 : Int)))) = u3 at *
  obtain ⟨⟨e0, e1, e2, e3, e4, e5, e6, e7⟩, -⟩ := row8_facts FS3x1.out.ev
  obtain ⟨⟨g0, g1, g2, g3, g4, g5, g6, g7⟩, ⟨z0, z1, z2, z3, z4, z5, z6, z7⟩⟩ := row8_facts FS3x1.out.res
  have hne : ¬ ra + 1 = ra := by omega
  go_wp2_with fail
  (try simp only [Exit.inBlock, Exit.then])
  refine bodyPost_ret (res_cell2 (P := Try.prog) rfl _ _ ra 37 #[.int .u8 6, .int .u64 (n1 : Int), .int .i64 (n2 : Int), .int .i64 (wrap64 (n3 : Int)), .int .i64 0, .int .u8 0, .string ⟨#[]⟩, .slice none 0 0] (0, 0) _ rfl (row8_set FS3x1.out.res) Try.underlying37 rfl (by kernel_rfl)) rfl ?_
  obtain ⟨hd1, hd2⟩ := FS3x1.out.done (.int .u8 6) (.int .u64 (n1 : Int)) (.int .i64 (n2 : Int)) (.int .i64 (wrap64 (n3 : Int))) (.int .i64 0) (.int .u8 0) (.string ⟨#[]⟩) (.slice none 0 0)
  refine ⟨{ rq0 with k := 6, ek := 6, key := n1, ref := n2, amt := wrap64 n3 }, none, 0, 0, _, _, rfl, LnFrom.nil _ _ _, hd1, hd2, ?_, fun hd => ?_⟩
  · unfold decO
    rw [lenOf_6 hk, decide_eq_true_eq, hk]
    constructor
    · rintro ⟨-, h2, h3⟩
      have h4 := congrArg List.length h3
      rw [List.length_drop] at h4
      simp at h4
      have g3 := h2
      rw [← HO3.out, Bool.and_eq_true, decide_eq_true_eq, List.length_drop] at g3
      have g2 := g3.1
      rw [← HO2.out, Bool.and_eq_true, decide_eq_true_eq, List.length_drop] at g2
      have g1 := g2.1
      rw [← HO1.out, Bool.and_eq_true, decide_eq_true_eq, List.length_drop] at g1
      exact ⟨by omega, by decide, by decide, by omega, fun h => absurd h (by decide)⟩
    · rintro ⟨-, -, -, h4, -⟩
      refine ⟨rfl, ?_, List.drop_of_length_le (by omega)⟩
      have q1 : o1 = true := by rw [← HO1.out]; simp; omega
      have q2 : o2 = true := by rw [← HO2.out, q1]; simp; omega
      have q3 : o3 = true := by rw [← HO3.out, q2]; simp; omega
      exact q3
  · rw [decR_6 hk]
    have h4 : l.length = 21 := by
      have := of_decide_eq_true hd
      rw [lenOf_6 hk] at this
      omega
    have q1 : o1 = true := by rw [← HO1.out]; simp; omega
    have q2 : o2 = true := by rw [← HO2.out, q1]; simp; omega
    have y1 : n1 = fl l 1 8 := by rw [← HVn1.out]; exact vN_fl l 1 8 (by omega)
    have y2 : n2 = fl l 9 4 := by rw [← HVn2.out, q1]; exact vN_fl l 9 4 (by omega)
    have y3 : n3 = fl l 13 8 := by rw [← HVn3.out, q2]; exact vN_fl l 13 8 (by omega)
    rw [y1, y2, y3]
set_option maxRecDepth 100000 in
set_option maxHeartbeats 1000000 in
theorem rev_7 (p : Nat) (l : List UInt8) (hl : 1 ≤ l.length) (hk : kd l = 7) (w : World) (h : RQ w p true (l.drop 1)) :
    Calls Try.prog 28 #[.pointer (some ⟨p, 0, none⟩), .int .u8 (7 : Int)] w (REvIs p l w) := by
  have F0 := hide (EvF.start h #[.int .u8 7, .int .u64 0, .int .i64 0, .int .i64 0, .int .i64 0, .int .u8 0, .string ⟨#[]⟩, .slice none 0 0])
  have HBS := hide (Nat.le_refl w.heap.size)
  clear h
  have HC1 := hide (fun W hw => rq_number p true (l.drop 1) 8 (by decide) (by decide) W hw)
  unfold RNIs at HC1
  rw [List.drop_drop] at HC1
  obtain ⟨n1, hn1⟩ : ∃ n : Nat, vN true (l.drop 1) 8 = n := ⟨_, rfl⟩
  have hbn1 := vN_lt true (l.drop 1) 8
  rw [hn1] at HC1 hbn1
  have HVn1 := hide hn1
  clear hn1
  obtain ⟨o1, ho1⟩ : ∃ o, (true && decide (8 ≤ (l.drop 1).length)) = o := ⟨_, rfl⟩
  rw [ho1] at HC1
  have HO1 := hide ho1
  clear ho1
  have b1 : 0 ≤ (n1 : Int) ∧ (n1 : Int) ≤ 18446744073709551615 := by omega
  clear hbn1
  have HC2 := hide (fun W hw => rq_signed p o1 (l.drop 9) W hw)
  unfold RNIs at HC2
  rw [List.drop_drop] at HC2
  obtain ⟨n2, hn2⟩ : ∃ n : Nat, vN o1 (l.drop 9) 8 = n := ⟨_, rfl⟩
  have hbn2 := vN_lt o1 (l.drop 9) 8
  rw [hn2] at HC2 hbn2
  have HVn2 := hide hn2
  clear hn2
  obtain ⟨o2, ho2⟩ : ∃ o, (o1 && decide (8 ≤ (l.drop 9).length)) = o := ⟨_, rfl⟩
  rw [ho2] at HC2
  have HO2 := hide ho2
  clear ho2
  have HC3 := hide (fun W hw => rq_number p o2 (l.drop 17) 2 (by decide) (by decide) W hw)
  unfold RNIs at HC3
  rw [List.drop_drop] at HC3
  obtain ⟨n3, hn3⟩ : ∃ n : Nat, vN o2 (l.drop 17) 2 = n := ⟨_, rfl⟩
  have hbn3 := vN_lt o2 (l.drop 17) 2
  rw [hn3] at HC3 hbn3
  have HVn3 := hide hn3
  clear hn3
  obtain ⟨o3, ho3⟩ : ∃ o, (o2 && decide (2 ≤ (l.drop 17).length)) = o := ⟨_, rfl⟩
  rw [ho3] at HC3
  have HO3 := hide ho3
  clear ho3
  have cn3 := wr_i64 n3 (by omega)
  obtain ⟨cn3a, cn3b⟩ := cn3
  have dn3 : 0 ≤ (n3 : Int) ∧ (n3 : Int) ≤ 4294967295 := by omega
  clear hbn3
  go_enter Try.func28, Try.ntmps28
  go_upto_region 9 with (fail)
  generalize (w.alloc (.cells #[.int .u8 0, .int .u64 0, .int .i64 0, .int .i64 0, .int .i64 0, .int .u8 0, .string ⟨#[]⟩, .slice none 0 0] 37)).alloc (.cells #[.int .u8 7, .int .u64 0, .int .i64 0, .int .i64 0, .int .i64 0, .int .u8 0, .string ⟨#[]⟩, .slice none 0 0] 37) = w2 at *
  have HNE := hide F0.out.new
  generalize hra : w.heap.size = ra at F0 HNE ⊢
  have HRA := hide hra
  clear hra
  go_wp2_with fail
  refine (HC1.out _ F0.out.rq).mono ?_
  rintro e v1 ⟨rfl, hr, ho⟩
  have FR1 := hide (F0.out.step hr ho)
  clear hr ho
  obtain ⟨⟨e0, e1, e2, e3, e4, e5, e6, e7⟩, ⟨z0, z1, z2, z3, z4, z5, z6, z7⟩⟩ := row8_facts FR1.out.ev
  have FS1x1 := hide (show EvF w (v1.setCell ⟨ra + 1, 1, none⟩ (.int .u64 (n1 : Int))) p (ra + 1) ra _ _ #[.int .u8 7, .int .u64 (n1 : Int), .int .i64 0, .int .i64 0, .int .i64 0, .int .u8 0, .string ⟨#[]⟩, .slice none 0 0] from FR1.out.store 1 (.int .u64 (n1 : Int)))
  go_upto_region 22 with (fail)
  clear e0 e1 e2 e3 e4 e5 e6 e7 z0 z1 z2 z3 z4 z5 z6 z7
  generalize (v1.setCell ⟨ra + 1, 1, none⟩ (.int .u64 (n1 : Int))) = u1 at *
  go_wp2_with fail
  refine (HC2.out _ FS1x1.out.rq).mono ?_
  rintro e v2 ⟨rfl, hr, ho⟩
  have FR2 := hide (FS1x1.out.step hr ho)
  clear hr ho
  obtain ⟨⟨e0, e1, e2, e3, e4, e5, e6, e7⟩, ⟨z0, z1, z2, z3, z4, z5, z6, z7⟩⟩ := row8_facts FR2.out.ev
  have FS2x1 := hide (show EvF w (v2.setCell ⟨ra + 1, 3, none⟩ (.int .i64 (wrap64 (n2 : Int)))) p (ra + 1) ra _ _ #[.int .u8 7, .int .u64 (n1 : Int), .int .i64 0, .int .i64 (wrap64 (n2 : Int)), .int .i64 0, .int .u8 0, .string ⟨#[]⟩, .slice none 0 0] from FR2.out.store 3 (.int .i64 (wrap64 (n2 : Int))))
  go_upto_region 23 with (fail)
  clear e0 e1 e2 e3 e4 e5 e6 e7 z0 z1 z2 z3 z4 z5 z6 z7
  generalize (v2.setCell ⟨ra + 1, 3, none⟩ (.int .i64 (wrap64 (n2 : Int)))) = u2 at *
  go_wp2_with fail
  refine (HC3.out _ FS2x1.out.rq).mono ?_
  rintro e v3 ⟨rfl, hr, ho⟩
  have FR3 := hide (FS2x1.out.step hr ho)
  clear hr ho
  obtain ⟨⟨e0, e1, e2, e3, e4, e5, e6, e7⟩, ⟨z0, z1, z2, z3, z4, z5, z6, z7⟩⟩ := row8_facts FR3.out.ev
  have FS3x1 := hide (show EvF w (v3.setCell ⟨ra + 1, 4, none⟩ (.int .i64 (n3 : Int))) p (ra + 1) ra _ _ #[.int .u8 7, .int .u64 (n1 : Int), .int .i64 0, .int .i64 (wrap64 (n2 : Int)), .int .i64 (n3 : Int), .int .u8 0, .string ⟨#[]⟩, .slice none 0 0] from FR3.out.store 4 (.int .i64 (n3 : Int)))
  go_upto_region 24 with (fail)
  clear e0 e1 e2 e3 e4 e5 e6 e7 z0 z1 z2 z3 z4 z5 z6 z7
  generalize (v3.setCell ⟨ra + 1, 4, none⟩ (.int .i64 (n3 : Int))) = u3 at *
  obtain ⟨⟨e0, e1, e2, e3, e4, e5, e6, e7⟩, -⟩ := row8_facts FS3x1.out.ev
  obtain ⟨⟨g0, g1, g2, g3, g4, g5, g6, g7⟩, ⟨z0, z1, z2, z3, z4, z5, z6, z7⟩⟩ := row8_facts FS3x1.out.res
  have hne : ¬ ra + 1 = ra := by omega
  go_wp2_with fail
  (try simp only [Exit.inBlock, Exit.then])
  refine bodyPost_ret (res_cell2 (P := Try.prog) rfl _ _ ra 37 #[.int .u8 7, .int .u64 (n1 : Int), .int .i64 0, .int .i64 (wrap64 (n2 : Int)), .int .i64 (n3 : Int), .int .u8 0, .string ⟨#[]⟩, .slice none 0 0] (0, 0) _ rfl (row8_set FS3x1.out.res) Try.underlying37 rfl (by kernel_rfl)) rfl ?_
  obtain ⟨hd1, hd2⟩ := FS3x1.out.done (.int .u8 7) (.int .u64 (n1 : Int)) (.int .i64 0) (.int .i64 (wrap64 (n2 : Int))) (.int .i64 (n3 : Int)) (.int .u8 0) (.string ⟨#[]⟩) (.slice none 0 0)
  refine ⟨{ rq0 with k := 7, ek := 7, key := n1, amt := wrap64 n2, code := n3 }, none, 0, 0, _, _, rfl, LnFrom.nil _ _ _, hd1, hd2, ?_, fun hd => ?_⟩
  · unfold decO
    rw [lenOf_7 (Or.inl hk), decide_eq_true_eq, hk]
    constructor
    · rintro ⟨-, h2, h3⟩
      have h4 := congrArg List.length h3
      rw [List.length_drop] at h4
      simp at h4
      have g3 := h2
      rw [← HO3.out, Bool.and_eq_true, decide_eq_true_eq, List.length_drop] at g3
      have g2 := g3.1
      rw [← HO2.out, Bool.and_eq_true, decide_eq_true_eq, List.length_drop] at g2
      have g1 := g2.1
      rw [← HO1.out, Bool.and_eq_true, decide_eq_true_eq, List.length_drop] at g1
      exact ⟨by omega, by decide, by decide, by omega, fun h => absurd h (by decide)⟩
    · rintro ⟨-, -, -, h4, -⟩
      refine ⟨rfl, ?_, List.drop_of_length_le (by omega)⟩
      have q1 : o1 = true := by rw [← HO1.out]; simp; omega
      have q2 : o2 = true := by rw [← HO2.out, q1]; simp; omega
      have q3 : o3 = true := by rw [← HO3.out, q2]; simp; omega
      exact q3
  · rw [decR_7 hk]
    have h4 : l.length = 19 := by
      have := of_decide_eq_true hd
      rw [lenOf_7 (Or.inl hk)] at this
      omega
    have q1 : o1 = true := by rw [← HO1.out]; simp; omega
    have q2 : o2 = true := by rw [← HO2.out, q1]; simp; omega
    have y1 : n1 = fl l 1 8 := by rw [← HVn1.out]; exact vN_fl l 1 8 (by omega)
    have y2 : n2 = fl l 9 8 := by rw [← HVn2.out, q1]; exact vN_fl l 9 8 (by omega)
    have y3 : n3 = fl l 17 2 := by rw [← HVn3.out, q2]; exact vN_fl l 17 2 (by omega)
    rw [y1, y2, y3]
set_option maxRecDepth 100000 in
set_option maxHeartbeats 1000000 in
theorem rev_8 (p : Nat) (l : List UInt8) (hl : 1 ≤ l.length) (hk : kd l = 8) (w : World) (h : RQ w p true (l.drop 1)) :
    Calls Try.prog 28 #[.pointer (some ⟨p, 0, none⟩), .int .u8 (8 : Int)] w (REvIs p l w) := by
  have F0 := hide (EvF.start h #[.int .u8 8, .int .u64 0, .int .i64 0, .int .i64 0, .int .i64 0, .int .u8 0, .string ⟨#[]⟩, .slice none 0 0])
  have HBS := hide (Nat.le_refl w.heap.size)
  clear h
  have HC1 := hide (fun W hw => rq_number p true (l.drop 1) 8 (by decide) (by decide) W hw)
  unfold RNIs at HC1
  rw [List.drop_drop] at HC1
  obtain ⟨n1, hn1⟩ : ∃ n : Nat, vN true (l.drop 1) 8 = n := ⟨_, rfl⟩
  have hbn1 := vN_lt true (l.drop 1) 8
  rw [hn1] at HC1 hbn1
  have HVn1 := hide hn1
  clear hn1
  obtain ⟨o1, ho1⟩ : ∃ o, (true && decide (8 ≤ (l.drop 1).length)) = o := ⟨_, rfl⟩
  rw [ho1] at HC1
  have HO1 := hide ho1
  clear ho1
  have b1 : 0 ≤ (n1 : Int) ∧ (n1 : Int) ≤ 18446744073709551615 := by omega
  clear hbn1
  have HC2 := hide (fun W hw => rq_signed p o1 (l.drop 9) W hw)
  unfold RNIs at HC2
  rw [List.drop_drop] at HC2
  obtain ⟨n2, hn2⟩ : ∃ n : Nat, vN o1 (l.drop 9) 8 = n := ⟨_, rfl⟩
  have hbn2 := vN_lt o1 (l.drop 9) 8
  rw [hn2] at HC2 hbn2
  have HVn2 := hide hn2
  clear hn2
  obtain ⟨o2, ho2⟩ : ∃ o, (o1 && decide (8 ≤ (l.drop 9).length)) = o := ⟨_, rfl⟩
  rw [ho2] at HC2
  have HO2 := hide ho2
  clear ho2
  have HC3 := hide (fun W hw => rq_number p o2 (l.drop 17) 2 (by decide) (by decide) W hw)
  unfold RNIs at HC3
  rw [List.drop_drop] at HC3
  obtain ⟨n3, hn3⟩ : ∃ n : Nat, vN o2 (l.drop 17) 2 = n := ⟨_, rfl⟩
  have hbn3 := vN_lt o2 (l.drop 17) 2
  rw [hn3] at HC3 hbn3
  have HVn3 := hide hn3
  clear hn3
  obtain ⟨o3, ho3⟩ : ∃ o, (o2 && decide (2 ≤ (l.drop 17).length)) = o := ⟨_, rfl⟩
  rw [ho3] at HC3
  have HO3 := hide ho3
  clear ho3
  have cn3 := wr_i64 n3 (by omega)
  obtain ⟨cn3a, cn3b⟩ := cn3
  have dn3 : 0 ≤ (n3 : Int) ∧ (n3 : Int) ≤ 4294967295 := by omega
  clear hbn3
  go_enter Try.func28, Try.ntmps28
  go_upto_region 9 with (fail)
  generalize (w.alloc (.cells #[.int .u8 0, .int .u64 0, .int .i64 0, .int .i64 0, .int .i64 0, .int .u8 0, .string ⟨#[]⟩, .slice none 0 0] 37)).alloc (.cells #[.int .u8 8, .int .u64 0, .int .i64 0, .int .i64 0, .int .i64 0, .int .u8 0, .string ⟨#[]⟩, .slice none 0 0] 37) = w2 at *
  have HNE := hide F0.out.new
  generalize hra : w.heap.size = ra at F0 HNE ⊢
  have HRA := hide hra
  clear hra
  go_wp2_with fail
  refine (HC1.out _ F0.out.rq).mono ?_
  rintro e v1 ⟨rfl, hr, ho⟩
  have FR1 := hide (F0.out.step hr ho)
  clear hr ho
  obtain ⟨⟨e0, e1, e2, e3, e4, e5, e6, e7⟩, ⟨z0, z1, z2, z3, z4, z5, z6, z7⟩⟩ := row8_facts FR1.out.ev
  have FS1x1 := hide (show EvF w (v1.setCell ⟨ra + 1, 1, none⟩ (.int .u64 (n1 : Int))) p (ra + 1) ra _ _ #[.int .u8 8, .int .u64 (n1 : Int), .int .i64 0, .int .i64 0, .int .i64 0, .int .u8 0, .string ⟨#[]⟩, .slice none 0 0] from FR1.out.store 1 (.int .u64 (n1 : Int)))
  go_upto_region 22 with (fail)
  clear e0 e1 e2 e3 e4 e5 e6 e7 z0 z1 z2 z3 z4 z5 z6 z7
  generalize (v1.setCell ⟨ra + 1, 1, none⟩ (.int .u64 (n1 : Int))) = u1 at *
  go_wp2_with fail
  refine (HC2.out _ FS1x1.out.rq).mono ?_
  rintro e v2 ⟨rfl, hr, ho⟩
  have FR2 := hide (FS1x1.out.step hr ho)
  clear hr ho
  obtain ⟨⟨e0, e1, e2, e3, e4, e5, e6, e7⟩, ⟨z0, z1, z2, z3, z4, z5, z6, z7⟩⟩ := row8_facts FR2.out.ev
  have FS2x1 := hide (show EvF w (v2.setCell ⟨ra + 1, 3, none⟩ (.int .i64 (wrap64 (n2 : Int)))) p (ra + 1) ra _ _ #[.int .u8 8, .int .u64 (n1 : Int), .int .i64 0, .int .i64 (wrap64 (n2 : Int)), .int .i64 0, .int .u8 0, .string ⟨#[]⟩, .slice none 0 0] from FR2.out.store 3 (.int .i64 (wrap64 (n2 : Int))))
  go_upto_region 23 with (fail)
  clear e0 e1 e2 e3 e4 e5 e6 e7 z0 z1 z2 z3 z4 z5 z6 z7
  generalize (v2.setCell ⟨ra + 1, 3, none⟩ (.int .i64 (wrap64 (n2 : Int)))) = u2 at *
  go_wp2_with fail
  refine (HC3.out _ FS2x1.out.rq).mono ?_
  rintro e v3 ⟨rfl, hr, ho⟩
  have FR3 := hide (FS2x1.out.step hr ho)
  clear hr ho
  obtain ⟨⟨e0, e1, e2, e3, e4, e5, e6, e7⟩, ⟨z0, z1, z2, z3, z4, z5, z6, z7⟩⟩ := row8_facts FR3.out.ev
  have FS3x1 := hide (show EvF w (v3.setCell ⟨ra + 1, 4, none⟩ (.int .i64 (n3 : Int))) p (ra + 1) ra _ _ #[.int .u8 8, .int .u64 (n1 : Int), .int .i64 0, .int .i64 (wrap64 (n2 : Int)), .int .i64 (n3 : Int), .int .u8 0, .string ⟨#[]⟩, .slice none 0 0] from FR3.out.store 4 (.int .i64 (n3 : Int)))
  go_upto_region 24 with (fail)
  clear e0 e1 e2 e3 e4 e5 e6 e7 z0 z1 z2 z3 z4 z5 z6 z7
  generalize (v3.setCell ⟨ra + 1, 4, none⟩ (.int .i64 (n3 : Int))) = u3 at *
  obtain ⟨⟨e0, e1, e2, e3, e4, e5, e6, e7⟩, -⟩ := row8_facts FS3x1.out.ev
  obtain ⟨⟨g0, g1, g2, g3, g4, g5, g6, g7⟩, ⟨z0, z1, z2, z3, z4, z5, z6, z7⟩⟩ := row8_facts FS3x1.out.res
  have hne : ¬ ra + 1 = ra := by omega
  go_wp2_with fail
  (try simp only [Exit.inBlock, Exit.then])
  refine bodyPost_ret (res_cell2 (P := Try.prog) rfl _ _ ra 37 #[.int .u8 8, .int .u64 (n1 : Int), .int .i64 0, .int .i64 (wrap64 (n2 : Int)), .int .i64 (n3 : Int), .int .u8 0, .string ⟨#[]⟩, .slice none 0 0] (0, 0) _ rfl (row8_set FS3x1.out.res) Try.underlying37 rfl (by kernel_rfl)) rfl ?_
  obtain ⟨hd1, hd2⟩ := FS3x1.out.done (.int .u8 8) (.int .u64 (n1 : Int)) (.int .i64 0) (.int .i64 (wrap64 (n2 : Int))) (.int .i64 (n3 : Int)) (.int .u8 0) (.string ⟨#[]⟩) (.slice none 0 0)
  refine ⟨{ rq0 with k := 8, ek := 8, key := n1, amt := wrap64 n2, code := n3 }, none, 0, 0, _, _, rfl, LnFrom.nil _ _ _, hd1, hd2, ?_, fun hd => ?_⟩
  · unfold decO
    rw [lenOf_7 (Or.inr hk), decide_eq_true_eq, hk]
    constructor
    · rintro ⟨-, h2, h3⟩
      have h4 := congrArg List.length h3
      rw [List.length_drop] at h4
      simp at h4
      have g3 := h2
      rw [← HO3.out, Bool.and_eq_true, decide_eq_true_eq, List.length_drop] at g3
      have g2 := g3.1
      rw [← HO2.out, Bool.and_eq_true, decide_eq_true_eq, List.length_drop] at g2
      have g1 := g2.1
      rw [← HO1.out, Bool.and_eq_true, decide_eq_true_eq, List.length_drop] at g1
      exact ⟨by omega, by decide, by decide, by omega, fun h => absurd h (by decide)⟩
    · rintro ⟨-, -, -, h4, -⟩
      refine ⟨rfl, ?_, List.drop_of_length_le (by omega)⟩
      have q1 : o1 = true := by rw [← HO1.out]; simp; omega
      have q2 : o2 = true := by rw [← HO2.out, q1]; simp; omega
      have q3 : o3 = true := by rw [← HO3.out, q2]; simp; omega
      exact q3
  · rw [decR_8 hk]
    have h4 : l.length = 19 := by
      have := of_decide_eq_true hd
      rw [lenOf_7 (Or.inr hk)] at this
      omega
    have q1 : o1 = true := by rw [← HO1.out]; simp; omega
    have q2 : o2 = true := by rw [← HO2.out, q1]; simp; omega
    have y1 : n1 = fl l 1 8 := by rw [← HVn1.out]; exact vN_fl l 1 8 (by omega)
    have y2 : n2 = fl l 9 8 := by rw [← HVn2.out, q1]; exact vN_fl l 9 8 (by omega)
    have y3 : n3 = fl l 17 2 := by rw [← HVn3.out, q2]; exact vN_fl l 17 2 (by omega)
    rw [y1, y2, y3]
set_option maxRecDepth 100000 in
set_option maxHeartbeats 1000000 in
theorem rev_4 (p : Nat) (l : List UInt8) (hl : 1 ≤ l.length) (hk : kd l = 4) (w : World) (h : RQ w p true (l.drop 1)) :
    Calls Try.prog 28 #[.pointer (some ⟨p, 0, none⟩), .int .u8 (4 : Int)] w (REvIs p l w) := by
  have F0 := hide (EvF.start h #[.int .u8 4, .int .u64 0, .int .i64 0, .int .i64 0, .int .i64 0, .int .u8 0, .string ⟨#[]⟩, .slice none 0 0])
  have HBS := hide (Nat.le_refl w.heap.size)
  clear h
  have HC1 := hide (fun W hw => rq_number p true (l.drop 1) 8 (by decide) (by decide) W hw)
  unfold RNIs at HC1
  rw [List.drop_drop] at HC1
  obtain ⟨n1, hn1⟩ : ∃ n : Nat, vN true (l.drop 1) 8 = n := ⟨_, rfl⟩
  have hbn1 := vN_lt true (l.drop 1) 8
  rw [hn1] at HC1 hbn1
  have HVn1 := hide hn1
  clear hn1
  obtain ⟨o1, ho1⟩ : ∃ o, (true && decide (8 ≤ (l.drop 1).length)) = o := ⟨_, rfl⟩
  rw [ho1] at HC1
  have HO1 := hide ho1
  clear ho1
  have b1 : 0 ≤ (n1 : Int) ∧ (n1 : Int) ≤ 18446744073709551615 := by omega
  clear hbn1
  have HC2 := hide (fun W hw => rq_post p o1 (l.drop 9) W hw)
  unfold RPIs at HC2
  go_enter Try.func28, Try.ntmps28
  go_upto_region 9 with (fail)
  generalize (w.alloc (.cells #[.int .u8 0, .int .u64 0, .int .i64 0, .int .i64 0, .int .i64 0, .int .u8 0, .string ⟨#[]⟩, .slice none 0 0] 37)).alloc (.cells #[.int .u8 4, .int .u64 0, .int .i64 0, .int .i64 0, .int .i64 0, .int .u8 0, .string ⟨#[]⟩, .slice none 0 0] 37) = w2 at *
  have HNE := hide F0.out.new
  generalize hra : w.heap.size = ra at F0 HNE ⊢
  have HRA := hide hra
  clear hra
  go_wp2_with fail
  refine (HC1.out _ F0.out.rq).mono ?_
  rintro e v1 ⟨rfl, hr, ho⟩
  have FR1 := hide (F0.out.step hr ho)
  clear hr ho
  obtain ⟨⟨e0, e1, e2, e3, e4, e5, e6, e7⟩, ⟨z0, z1, z2, z3, z4, z5, z6, z7⟩⟩ := row8_facts FR1.out.ev
  have FS1x1 := hide (show EvF w (v1.setCell ⟨ra + 1, 1, none⟩ (.int .u64 (n1 : Int))) p (ra + 1) ra _ _ #[.int .u8 4, .int .u64 (n1 : Int), .int .i64 0, .int .i64 0, .int .i64 0, .int .u8 0, .string ⟨#[]⟩, .slice none 0 0] from FR1.out.store 1 (.int .u64 (n1 : Int)))
  go_upto_region 14 with (fail)
  clear e0 e1 e2 e3 e4 e5 e6 e7 z0 z1 z2 z3 z4 z5 z6 z7
  generalize (v1.setCell ⟨ra + 1, 1, none⟩ (.int .u64 (n1 : Int))) = u1 at *
  go_wp2_with fail
  refine (HC2.out _ FS1x1.out.rq).mono ?_
  rintro e v2 ⟨a, cc, rfl, hin, ⟨ok', l', hr, hgood⟩, ho⟩
  have FR2 := hide (FS1x1.out.step hr ho)
  have LN2 := hide hin
  have HG := hide hgood
  have HVS := hide (show ra < u1.heap.size from heap_lt FS1x1.out.res)
  have HVE := hide (show ra + 1 < u1.heap.size from heap_lt FS1x1.out.ev)
  clear hr ho hin hgood
  obtain ⟨⟨e0, e1, e2, e3, e4, e5, e6, e7⟩, ⟨z0, z1, z2, z3, z4, z5, z6, z7⟩⟩ := row8_facts FR2.out.ev
  have FS2x1 := hide (show EvF w (v2.setCell ⟨ra + 1, 7, none⟩ (.slice a (poL o1 (l.drop 9)).length cc)) p (ra + 1) ra _ _ #[.int .u8 4, .int .u64 (n1 : Int), .int .i64 0, .int .i64 0, .int .i64 0, .int .u8 0, .string ⟨#[]⟩, .slice a (poL o1 (l.drop 9)).length cc] from FR2.out.store 7 (.slice a (poL o1 (l.drop 9)).length cc))
  have LS2x1 := hide (LN2.out.set (g := ra + 1) HVE.out 7 (.slice a (poL o1 (l.drop 9)).length cc))
  go_upto_region 24 with (fail)
  clear e0 e1 e2 e3 e4 e5 e6 e7 z0 z1 z2 z3 z4 z5 z6 z7
  generalize (v2.setCell ⟨ra + 1, 7, none⟩ (.slice a (poL o1 (l.drop 9)).length cc)) = u2 at *
  obtain ⟨⟨e0, e1, e2, e3, e4, e5, e6, e7⟩, -⟩ := row8_facts FS2x1.out.ev
  obtain ⟨⟨g0, g1, g2, g3, g4, g5, g6, g7⟩, ⟨z0, z1, z2, z3, z4, z5, z6, z7⟩⟩ := row8_facts FS2x1.out.res
  have hne : ¬ ra + 1 = ra := by omega
  go_wp2_with fail
  (try simp only [Exit.inBlock, Exit.then])
  refine bodyPost_ret (res_cell2 (P := Try.prog) rfl _ _ ra 37 #[.int .u8 4, .int .u64 (n1 : Int), .int .i64 0, .int .i64 0, .int .i64 0, .int .u8 0, .string ⟨#[]⟩, .slice a (poL o1 (l.drop 9)).length cc] (0, 0) _ rfl (row8_set FS2x1.out.res) Try.underlying37 rfl (by kernel_rfl)) rfl ?_
  obtain ⟨hd1, hd2⟩ := FS2x1.out.done (.int .u8 4) (.int .u64 (n1 : Int)) (.int .i64 0) (.int .i64 0) (.int .i64 0) (.int .u8 0) (.string ⟨#[]⟩) (.slice a (poL o1 (l.drop 9)).length cc)
  refine ⟨{ rq0 with k := 4, ek := 4, key := n1, L := poL o1 (l.drop 9) }, a, cc, poE o1 (l.drop 9), _, _, rfl, ?_, hd1, hd2, ?_, fun hd => ?_⟩
  · exact (LS2x1.out.done HVS.out _ _ _ _ _ _ _ _).mono (by have := HVS.out; have := HRA.out; omega)
  · unfold decO
    rw [lenOf_4 (Or.inl hk), decide_eq_true_eq, hk]
    have h9 : (l.drop 9).getD 0 0 = l.getD 9 0 := by simp [List.getD]
    constructor
    · rintro ⟨h1, h2, h3⟩
      have hp : poOk o1 (l.drop 9) = true := by
        cases hpo : poOk o1 (l.drop 9) with
        | true => rfl
        | false => unfold poE at h1; rw [hpo] at h1; cases h1
      obtain ⟨-, h5⟩ := HG.out hp
      unfold poOk at hp
      rw [Bool.and_eq_true, decide_eq_true_eq, h9, List.length_drop] at hp
      have h4 := congrArg List.length h3
      rw [h5, List.length_drop, List.length_drop, h9] at h4
      simp only [List.length_nil] at h4
      exact ⟨by omega, by decide, by decide, by omega, fun _ => by omega⟩
    · rintro ⟨-, -, -, h4, h8⟩
      have h8 := h8 (by decide)
      have q1 : o1 = true := by rw [← HO1.out]; simp; omega
      have hp : poOk o1 (l.drop 9) = true := by
        unfold poOk
        rw [q1, Bool.true_and, decide_eq_true_eq, h9, List.length_drop]
        omega
      obtain ⟨h5, h6⟩ := HG.out hp
      refine ⟨by unfold poE; rw [hp]; rfl, h5, ?_⟩
      rw [h6, h9]
      exact List.drop_of_length_le (by rw [List.length_drop]; omega)
  · rw [decR_4 hk]
    obtain ⟨-, -, -, h4, h8⟩ := of_decide_eq_true hd
    rw [lenOf_4 (Or.inl hk)] at h4
    have h8 := h8 (Or.inl hk)
    have h9 : (l.drop 9).getD 0 0 = l.getD 9 0 := by simp [List.getD]
    have q1 : o1 = true := by rw [← HO1.out]; simp; omega
    have hp : poOk o1 (l.drop 9) = true := by
      unfold poOk
      rw [q1, Bool.true_and, decide_eq_true_eq, h9, List.length_drop]
      omega
    have y1 : n1 = fl l 1 8 := by rw [← HVn1.out]; exact vN_fl l 1 8 (by omega)
    rw [y1]
    unfold poL
    rw [hp, if_pos rfl, h9]
set_option maxRecDepth 100000 in
set_option maxHeartbeats 1000000 in
theorem rev_9 (p : Nat) (l : List UInt8) (hl : 1 ≤ l.length) (hk : kd l = 9) (w : World) (h : RQ w p true (l.drop 1)) :
    Calls Try.prog 28 #[.pointer (some ⟨p, 0, none⟩), .int .u8 (9 : Int)] w (REvIs p l w) := by
  have F0 := hide (EvF.start h #[.int .u8 9, .int .u64 0, .int .i64 0, .int .i64 0, .int .i64 0, .int .u8 0, .string ⟨#[]⟩, .slice none 0 0])
  have HBS := hide (Nat.le_refl w.heap.size)
  clear h
  have HC1 := hide (fun W hw => rq_number p true (l.drop 1) 8 (by decide) (by decide) W hw)
  unfold RNIs at HC1
  rw [List.drop_drop] at HC1
  obtain ⟨n1, hn1⟩ : ∃ n : Nat, vN true (l.drop 1) 8 = n := ⟨_, rfl⟩
  have hbn1 := vN_lt true (l.drop 1) 8
  rw [hn1] at HC1 hbn1
  have HVn1 := hide hn1
  clear hn1
  obtain ⟨o1, ho1⟩ : ∃ o, (true && decide (8 ≤ (l.drop 1).length)) = o := ⟨_, rfl⟩
  rw [ho1] at HC1
  have HO1 := hide ho1
  clear ho1
  have b1 : 0 ≤ (n1 : Int) ∧ (n1 : Int) ≤ 18446744073709551615 := by omega
  clear hbn1
  have HC2 := hide (fun W hw => rq_post p o1 (l.drop 9) W hw)
  unfold RPIs at HC2
  go_enter Try.func28, Try.ntmps28
  go_upto_region 9 with (fail)
  generalize (w.alloc (.cells #[.int .u8 0, .int .u64 0, .int .i64 0, .int .i64 0, .int .i64 0, .int .u8 0, .string ⟨#[]⟩, .slice none 0 0] 37)).alloc (.cells #[.int .u8 9, .int .u64 0, .int .i64 0, .int .i64 0, .int .i64 0, .int .u8 0, .string ⟨#[]⟩, .slice none 0 0] 37) = w2 at *
  have HNE := hide F0.out.new
  generalize hra : w.heap.size = ra at F0 HNE ⊢
  have HRA := hide hra
  clear hra
  go_wp2_with fail
  refine (HC1.out _ F0.out.rq).mono ?_
  rintro e v1 ⟨rfl, hr, ho⟩
  have FR1 := hide (F0.out.step hr ho)
  clear hr ho
  obtain ⟨⟨e0, e1, e2, e3, e4, e5, e6, e7⟩, ⟨z0, z1, z2, z3, z4, z5, z6, z7⟩⟩ := row8_facts FR1.out.ev
  have FS1x1 := hide (show EvF w (v1.setCell ⟨ra + 1, 1, none⟩ (.int .u64 (n1 : Int))) p (ra + 1) ra _ _ #[.int .u8 9, .int .u64 (n1 : Int), .int .i64 0, .int .i64 0, .int .i64 0, .int .u8 0, .string ⟨#[]⟩, .slice none 0 0] from FR1.out.store 1 (.int .u64 (n1 : Int)))
  go_upto_region 14 with (fail)
  clear e0 e1 e2 e3 e4 e5 e6 e7 z0 z1 z2 z3 z4 z5 z6 z7
  generalize (v1.setCell ⟨ra + 1, 1, none⟩ (.int .u64 (n1 : Int))) = u1 at *
  go_wp2_with fail
  refine (HC2.out _ FS1x1.out.rq).mono ?_
  rintro e v2 ⟨a, cc, rfl, hin, ⟨ok', l', hr, hgood⟩, ho⟩
  have FR2 := hide (FS1x1.out.step hr ho)
  have LN2 := hide hin
  have HG := hide hgood
  have HVS := hide (show ra < u1.heap.size from heap_lt FS1x1.out.res)
  have HVE := hide (show ra + 1 < u1.heap.size from heap_lt FS1x1.out.ev)
  clear hr ho hin hgood
  obtain ⟨⟨e0, e1, e2, e3, e4, e5, e6, e7⟩, ⟨z0, z1, z2, z3, z4, z5, z6, z7⟩⟩ := row8_facts FR2.out.ev
  have FS2x1 := hide (show EvF w (v2.setCell ⟨ra + 1, 7, none⟩ (.slice a (poL o1 (l.drop 9)).length cc)) p (ra + 1) ra _ _ #[.int .u8 9, .int .u64 (n1 : Int), .int .i64 0, .int .i64 0, .int .i64 0, .int .u8 0, .string ⟨#[]⟩, .slice a (poL o1 (l.drop 9)).length cc] from FR2.out.store 7 (.slice a (poL o1 (l.drop 9)).length cc))
  have LS2x1 := hide (LN2.out.set (g := ra + 1) HVE.out 7 (.slice a (poL o1 (l.drop 9)).length cc))
  go_upto_region 24 with (fail)
  clear e0 e1 e2 e3 e4 e5 e6 e7 z0 z1 z2 z3 z4 z5 z6 z7
  generalize (v2.setCell ⟨ra + 1, 7, none⟩ (.slice a (poL o1 (l.drop 9)).length cc)) = u2 at *
  obtain ⟨⟨e0, e1, e2, e3, e4, e5, e6, e7⟩, -⟩ := row8_facts FS2x1.out.ev
  obtain ⟨⟨g0, g1, g2, g3, g4, g5, g6, g7⟩, ⟨z0, z1, z2, z3, z4, z5, z6, z7⟩⟩ := row8_facts FS2x1.out.res
  have hne : ¬ ra + 1 = ra := by omega
  go_wp2_with fail
  (try simp only [Exit.inBlock, Exit.then])
  refine bodyPost_ret (res_cell2 (P := Try.prog) rfl _ _ ra 37 #[.int .u8 9, .int .u64 (n1 : Int), .int .i64 0, .int .i64 0, .int .i64 0, .int .u8 0, .string ⟨#[]⟩, .slice a (poL o1 (l.drop 9)).length cc] (0, 0) _ rfl (row8_set FS2x1.out.res) Try.underlying37 rfl (by kernel_rfl)) rfl ?_
  obtain ⟨hd1, hd2⟩ := FS2x1.out.done (.int .u8 9) (.int .u64 (n1 : Int)) (.int .i64 0) (.int .i64 0) (.int .i64 0) (.int .u8 0) (.string ⟨#[]⟩) (.slice a (poL o1 (l.drop 9)).length cc)
  refine ⟨{ rq0 with k := 9, ek := 9, key := n1, L := poL o1 (l.drop 9) }, a, cc, poE o1 (l.drop 9), _, _, rfl, ?_, hd1, hd2, ?_, fun hd => ?_⟩
  · exact (LS2x1.out.done HVS.out _ _ _ _ _ _ _ _).mono (by have := HVS.out; have := HRA.out; omega)
  · unfold decO
    rw [lenOf_4 (Or.inr hk), decide_eq_true_eq, hk]
    have h9 : (l.drop 9).getD 0 0 = l.getD 9 0 := by simp [List.getD]
    constructor
    · rintro ⟨h1, h2, h3⟩
      have hp : poOk o1 (l.drop 9) = true := by
        cases hpo : poOk o1 (l.drop 9) with
        | true => rfl
        | false => unfold poE at h1; rw [hpo] at h1; cases h1
      obtain ⟨-, h5⟩ := HG.out hp
      unfold poOk at hp
      rw [Bool.and_eq_true, decide_eq_true_eq, h9, List.length_drop] at hp
      have h4 := congrArg List.length h3
      rw [h5, List.length_drop, List.length_drop, h9] at h4
      simp only [List.length_nil] at h4
      exact ⟨by omega, by decide, by decide, by omega, fun _ => by omega⟩
    · rintro ⟨-, -, -, h4, h8⟩
      have h8 := h8 (by decide)
      have q1 : o1 = true := by rw [← HO1.out]; simp; omega
      have hp : poOk o1 (l.drop 9) = true := by
        unfold poOk
        rw [q1, Bool.true_and, decide_eq_true_eq, h9, List.length_drop]
        omega
      obtain ⟨h5, h6⟩ := HG.out hp
      refine ⟨by unfold poE; rw [hp]; rfl, h5, ?_⟩
      rw [h6, h9]
      exact List.drop_of_length_le (by rw [List.length_drop]; omega)
  · rw [decR_9 hk]
    obtain ⟨-, -, -, h4, h8⟩ := of_decide_eq_true hd
    rw [lenOf_4 (Or.inr hk)] at h4
    have h8 := h8 (Or.inr hk)
    have h9 : (l.drop 9).getD 0 0 = l.getD 9 0 := by simp [List.getD]
    have q1 : o1 = true := by rw [← HO1.out]; simp; omega
    have hp : poOk o1 (l.drop 9) = true := by
      unfold poOk
      rw [q1, Bool.true_and, decide_eq_true_eq, h9, List.length_drop]
      omega
    have y1 : n1 = fl l 1 8 := by rw [← HVn1.out]; exact vN_fl l 1 8 (by omega)
    rw [y1]
    unfold poL
    rw [hp, if_pos rfl, h9]
set_option maxRecDepth 100000 in
set_option maxHeartbeats 1000000 in
theorem rev_1 (p : Nat) (l : List UInt8) (hl : 1 ≤ l.length) (hk : kd l = 1) (w : World) (h : RQ w p true (l.drop 1)) :
    Calls Try.prog 28 #[.pointer (some ⟨p, 0, none⟩), .int .u8 (1 : Int)] w (REvIs p l w) := by
  have F0 := hide (EvF.start h #[.int .u8 1, .int .u64 0, .int .i64 0, .int .i64 0, .int .i64 0, .int .u8 0, .string ⟨#[]⟩, .slice none 0 0])
  have HBS := hide (Nat.le_refl w.heap.size)
  clear h
  have HC1 := hide (fun W hw => rq_number p true (l.drop 1) 2 (by decide) (by decide) W hw)
  unfold RNIs at HC1
  rw [List.drop_drop] at HC1
  obtain ⟨n1, hn1⟩ : ∃ n : Nat, vN true (l.drop 1) 2 = n := ⟨_, rfl⟩
  have hbn1 := vN_lt true (l.drop 1) 2
  rw [hn1] at HC1 hbn1
  have HVn1 := hide hn1
  clear hn1
  obtain ⟨o1, ho1⟩ : ∃ o, (true && decide (2 ≤ (l.drop 1).length)) = o := ⟨_, rfl⟩
  rw [ho1] at HC1
  have HO1 := hide ho1
  clear ho1
  obtain ⟨cn1a, cn1b⟩ := wr_i64 n1 (by omega)
  have dn1 : 0 ≤ (n1 : Int) ∧ (n1 : Int) ≤ 65535 := by omega
  clear hbn1
  have HC2 := hide (fun W hw => rq_number p o1 (l.drop 3) 1 (by decide) (by decide) W hw)
  unfold RNIs at HC2
  rw [List.drop_drop] at HC2
  obtain ⟨n2, hn2⟩ : ∃ n : Nat, vN o1 (l.drop 3) 1 = n := ⟨_, rfl⟩
  have hbn2 := vN_lt o1 (l.drop 3) 1
  rw [hn2] at HC2 hbn2
  have HVn2 := hide hn2
  clear hn2
  obtain ⟨o2, ho2⟩ : ∃ o, (o1 && decide (1 ≤ (l.drop 3).length)) = o := ⟨_, rfl⟩
  rw [ho2] at HC2
  have HO2 := hide ho2
  clear ho2
  have cn2 := wr_u8 n2 (by omega)
  have dn2 : 0 ≤ (n2 : Int) ∧ (n2 : Int) ≤ 255 := by omega
  clear hbn2
  have HC3 := hide (fun W hw => rq_text p o2 (l.drop 4) W hw)
  unfold RTIs at HC3
  rw [List.drop_drop] at HC3
  have h44 : (l.drop 4).getD 0 0 = l.getD 4 0 := by simp [List.getD]
  rw [h44] at HC3
  obtain ⟨o3, ho3⟩ : ∃ o, txOk o2 (l.drop 4) = o := ⟨_, rfl⟩
  obtain ⟨nm, hnm⟩ : ∃ o, txV o2 (l.drop 4) = o := ⟨_, rfl⟩
  rw [ho3, hnm] at HC3
  have HO3 := hide ho3
  have HNM := hide hnm
  have H44 := hide h44
  clear ho3 hnm h44
  go_enter Try.func28, Try.ntmps28
  go_upto_region 4 with (fail)
  generalize (w.alloc (.cells #[.int .u8 0, .int .u64 0, .int .i64 0, .int .i64 0, .int .i64 0, .int .u8 0, .string ⟨#[]⟩, .slice none 0 0] 37)).alloc (.cells #[.int .u8 1, .int .u64 0, .int .i64 0, .int .i64 0, .int .i64 0, .int .u8 0, .string ⟨#[]⟩, .slice none 0 0] 37) = w2 at *
  have HNE := hide F0.out.new
  generalize hra : w.heap.size = ra at F0 HNE ⊢
  have HRA := hide hra
  clear hra
  go_wp2_with fail
  refine (HC1.out _ F0.out.rq).mono ?_
  rintro e v1 ⟨rfl, hr, ho⟩
  have FR1 := hide (F0.out.step hr ho)
  clear hr ho
  go_wp2_with fail
  refine (HC2.out _ FR1.out.rq).mono ?_
  rintro e v2 ⟨rfl, hr, ho⟩
  have FR2 := hide (FR1.out.step hr ho)
  clear hr ho
  go_wp2_with fail
  refine (HC3.out _ FR2.out.rq).mono ?_
  rintro e v3 ⟨rfl, hr, ho⟩
  have FR3 := hide (FR2.out.step hr ho)
  clear hr ho
  obtain ⟨⟨e0, e1, e2, e3, e4, e5, e6, e7⟩, ⟨z0, z1, z2, z3, z4, z5, z6, z7⟩⟩ := row8_facts FR3.out.ev
  have FS3x1 := hide (show EvF w (v3.setCell ⟨ra + 1, 4, none⟩ (.int .i64 (n1 : Int))) p (ra + 1) ra _ _ #[.int .u8 1, .int .u64 0, .int .i64 0, .int .i64 0, .int .i64 (n1 : Int), .int .u8 0, .string ⟨#[]⟩, .slice none 0 0] from FR3.out.store 4 (.int .i64 (n1 : Int)))
  have FS3x2 := hide (show EvF w ((v3.setCell ⟨ra + 1, 4, none⟩ (.int .i64 (n1 : Int))).setCell ⟨ra + 1, 5, none⟩ (.int .u8 (n2 : Int))) p (ra + 1) ra _ _ #[.int .u8 1, .int .u64 0, .int .i64 0, .int .i64 0, .int .i64 (n1 : Int), .int .u8 (n2 : Int), .string ⟨#[]⟩, .slice none 0 0] from FS3x1.out.store 5 (.int .u8 (n2 : Int)))
  have FS3x3 := hide (show EvF w (((v3.setCell ⟨ra + 1, 4, none⟩ (.int .i64 (n1 : Int))).setCell ⟨ra + 1, 5, none⟩ (.int .u8 (n2 : Int))).setCell ⟨ra + 1, 6, none⟩ (.string nm)) p (ra + 1) ra _ _ #[.int .u8 1, .int .u64 0, .int .i64 0, .int .i64 0, .int .i64 (n1 : Int), .int .u8 (n2 : Int), .string nm, .slice none 0 0] from FS3x2.out.store 6 (.string nm))
  go_upto_region 5 with (fail)
  clear e0 e1 e2 e3 e4 e5 e6 e7 z0 z1 z2 z3 z4 z5 z6 z7
  generalize (((v3.setCell ⟨ra + 1, 4, none⟩ (.int .i64 (n1 : Int))).setCell ⟨ra + 1, 5, none⟩ (.int .u8 (n2 : Int))).setCell ⟨ra + 1, 6, none⟩ (.string nm)) = u3 at *
  obtain ⟨⟨e0, e1, e2, e3, e4, e5, e6, e7⟩, -⟩ := row8_facts FS3x3.out.ev
  obtain ⟨⟨g0, g1, g2, g3, g4, g5, g6, g7⟩, ⟨z0, z1, z2, z3, z4, z5, z6, z7⟩⟩ := row8_facts FS3x3.out.res
  have hne : ¬ ra + 1 = ra := by omega
  go_wp2_with fail
  (try simp only [Exit.inBlock, Exit.then])
  refine bodyPost_ret (res_cell2 (P := Try.prog) rfl _ _ ra 37 #[.int .u8 1, .int .u64 0, .int .i64 0, .int .i64 0, .int .i64 (n1 : Int), .int .u8 (n2 : Int), .string nm, .slice none 0 0] (0, 0) _ rfl (row8_set FS3x3.out.res) Try.underlying37 rfl (by kernel_rfl)) rfl ?_
  obtain ⟨hd1, hd2⟩ := FS3x3.out.done (.int .u8 1) (.int .u64 0) (.int .i64 0) (.int .i64 0) (.int .i64 (n1 : Int)) (.int .u8 (n2 : Int)) (.string nm) (.slice none 0 0)
  refine ⟨{ rq0 with k := 1, ek := 1, code := n1, ak := n2, name := nm }, none, 0, 0, _, _, rfl, LnFrom.nil _ _ _, hd1, hd2, ?_, fun hd => ?_⟩
  · unfold decO
    rw [lenOf_1 hk, decide_eq_true_eq, hk]
    constructor
    · rintro ⟨-, h2, h3⟩
      have h4 := congrArg List.length h3
      rw [List.length_drop] at h4
      simp only [List.length_nil] at h4
      have g3 := h2
      rw [← HO3.out] at g3
      unfold txOk at g3
      rw [Bool.and_eq_true, decide_eq_true_eq, H44.out, List.length_drop] at g3
      exact ⟨by omega, by decide, by decide, by omega, fun h => absurd h (by decide)⟩
    · rintro ⟨-, -, -, h4, -⟩
      have q1 : o1 = true := by rw [← HO1.out]; simp; omega
      have q2 : o2 = true := by rw [← HO2.out, q1]; simp; omega
      refine ⟨rfl, ?_, List.drop_of_length_le (by omega)⟩
      rw [← HO3.out, q2]
      unfold txOk
      rw [Bool.true_and, decide_eq_true_eq, H44.out, List.length_drop]
      omega
  · rw [decR_1 hk]
    obtain ⟨-, -, -, h4, -⟩ := of_decide_eq_true hd
    rw [lenOf_1 hk] at h4
    have q1 : o1 = true := by rw [← HO1.out]; simp; omega
    have q2 : o2 = true := by rw [← HO2.out, q1]; simp; omega
    have q3 : txOk true (l.drop 4) = true := by
      unfold txOk
      rw [Bool.true_and, decide_eq_true_eq, H44.out, List.length_drop]
      omega
    have y1 : n1 = fl l 1 2 := by rw [← HVn1.out]; exact vN_fl l 1 2 (by omega)
    have y2 : n2 = fl l 3 1 := by rw [← HVn2.out, q1]; exact vN_fl l 3 1 (by omega)
    have y3 : nm = bs (l.drop 5) := by
      rw [← HNM.out, q2]
      unfold txV
      rw [if_pos q3, H44.out, List.drop_drop, List.take_of_length_le (by rw [List.length_drop]; omega)]
    rw [y1, y2, y3]
end Go.Proofs.Ytkbikflincjhhaa
