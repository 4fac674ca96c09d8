/-
  Layer 28: replies read: a transaction.
-/
import Derived.Test.YtkbikflincjhhaaRepV

namespace Go.Proofs.Ytkbikflincjhhaa
set_option linter.unusedSimpArgs false
set_option linter.unusedVariables false
open Go.RowKit Go.WideShapes Go.ChangeShapes Go.ChangeAt Go.Deep
theorem tx_info (c0 c1 c2 c3 c4 c5 c6 c7 : Value) : (Try.prog.info? 68).map (·.size) = some (#[c0, c1, c2, c3, c4, c5, c6, c7] : Array Value).size := by
  show _ = some 8
  kernel_rfl
structure TxF (w W : World) (p tb ra : Nat) (ok : Bool) (l : List UInt8) (C : Array Value) : Prop where
  rq : RQ W p ok l
  box : W.heap[tb]? = some (.cells C 68 (0, 0))
  res : W.heap[ra]? = some (.cells #[.int .i64 0, .int .u8 0, .int .i64 0, .int .i64 0, .int .i64 0, .int .i64 0, .bool false, .slice none 0 0] 68 (0, 0))
  only : Only p w W
  new : w.heap.size ≤ tb ∧ w.heap.size ≤ ra ∧ tb ≠ ra ∧ tb ≠ p ∧ ra ≠ p
theorem TxF.step {w W W' : World} {p tb ra : Nat} {ok ok' : Bool} {l l' : List UInt8} {C : Array Value} (h : TxF w W p tb ra ok l C) (hr : RQ W' p ok' l') (ho : Only p W W') : TxF w W' p tb ra ok' l' C := by
  obtain ⟨n1, n2, n3, n4, n5⟩ := h.new
  exact ⟨hr, (ho.block _ (heap_lt h.box) n4).trans h.box, (ho.block _ (heap_lt h.res) n5).trans h.res, h.only.trans ho, h.new⟩
theorem TxF.store {w W : World} {p tb ra : Nat} {ok : Bool} {l : List UInt8} {C : Array Value} (h : TxF w W p tb ra ok l C) (j : Nat) (v : Value) : TxF w (W.setCell ⟨tb, j, none⟩ v) p tb ra ok l (C.setIfInBounds j v) := by
  obtain ⟨n1, n2, n3, n4, n5⟩ := h.new
  exact ⟨h.rq.other n4 j v, block_setCell h.box j v, (block_setCell_other n3 j v).trans h.res, h.only.new n1 j v, h.new⟩
def oN (ok : Bool) (l : List UInt8) (k : Nat) : Bool := ok && decide (k ≤ l.length)
def aN (ok : Bool) (l : List UInt8) (k m : Nat) : Nat := vN (oN ok l k) (l.drop k) m
theorem oN_next (ok : Bool) (l : List UInt8) (k m : Nat) (hm : 1 ≤ m) : (oN ok l k && decide (m ≤ (l.drop k).length)) = oN ok l (k + m) := by
  unfold oN
  rw [List.length_drop, Bool.and_assoc, Bool.eq_iff_iff]
  simp only [Bool.and_eq_true, decide_eq_true_eq]
  constructor
  · rintro ⟨h1, h2, h3⟩; exact ⟨h1, by omega⟩
  · rintro ⟨h1, h2⟩; exact ⟨h1, by omega, by omega⟩
theorem rni_next {p : Nat} {ok : Bool} {l : List UInt8} {k m : Nat} {v : Value} {W w' : World} {e : Ending} (hm : 1 ≤ m) (h : RNIs p (oN ok l k) (l.drop k) m v W e w') : e = .returned v ∧ RQ w' p (oN ok l (k + m)) (l.drop (k + m)) ∧ Only p W w' := by
  obtain ⟨h1, h2, h3⟩ := h
  rw [oN_next _ _ _ _ hm, List.drop_drop] at h2
  exact ⟨h1, h2, h3⟩
def RTxQ (p : Nat) (n1 n2 n3 n4 n5 : Nat) (f1 f2 : Bool) (PL : List LnM) (PO : Bool) (l26 : List UInt8) (w : World) (e : Ending) (w' : World) : Prop := ∃ (a : Option Addr) (c : Nat),
  e = .returned (.tuple #[.agg #[.int .i64 0, .int .u8 (n1 : Int), .int .i64 (n2 : Int), .int .i64 (n3 : Int), .int .i64 (wrap64 (n4 : Int)), .int .i64 (wrap64 (n5 : Int)), .bool f1, .slice a PL.length c], .bool (f2 && PO)]) ∧
  LnFrom w.heap.size w' a PL ∧ (∃ ok' l', RQ w' p ok' l' ∧ (PO = true → ok' = true ∧ l' = l26.drop (1 + 10 * (l26.getD 0 0).toNat))) ∧ Only p w w'
def RTxIs (p : Nat) (ok : Bool) (l : List UInt8) (w : World) (e : Ending) (w' : World) : Prop :=
  RTxQ p (aN ok l 0 1) (aN ok l 1 4) (aN ok l 5 4) (aN ok l 9 8) (aN ok l 17 8) ((aN ok l 25 1 : Int) == 1) (decide ((aN ok l 25 1 : Int) ≤ 1)) (poL (oN ok l 26) (l.drop 26)) (poOk (oN ok l 26) (l.drop 26)) (l.drop 26) w e w'
set_option maxRecDepth 100000 in
set_option maxHeartbeats 1000000 in
theorem rdTx_any (p : Nat) (ok : Bool) (l : List UInt8) (w : World) (h : RQ w p ok l) :
    Calls Try.prog 50 #[.pointer (some ⟨p, 0, none⟩)] w (RTxIs p ok l w) := by
  have hp := h.lt
  have h0 : RQ w p (oN ok l 0) (l.drop 0) := by rw [show oN ok l 0 = ok by unfold oN; simp, List.drop_zero]; exact h
  have HC1 := hide (fun W hw => (rq_number p (oN ok l 0) (l.drop 0) 1 (by decide) (by decide) W hw).mono fun e w' h => rni_next (by decide) h)
  have HC2 := hide (fun W hw => (rq_number p (oN ok l 1) (l.drop 1) 4 (by decide) (by decide) W hw).mono fun e w' h => rni_next (by decide) h)
  have HC3 := hide (fun W hw => (rq_number p (oN ok l 5) (l.drop 5) 4 (by decide) (by decide) W hw).mono fun e w' h => rni_next (by decide) h)
  have HC4 := hide (fun W hw => (rq_signed p (oN ok l 9) (l.drop 9) W hw).mono fun e w' h => rni_next (by decide) h)
  have HC5 := hide (fun W hw => (rq_signed p (oN ok l 17) (l.drop 17) W hw).mono fun e w' h => rni_next (by decide) h)
  have HC6 := hide (fun W hw => (readFlag_any p (oN ok l 25) (l.drop 25) W hw).mono fun e w' h => rni_next (by decide) h)
  have HC7 := hide (fun W hw => rq_post p (oN ok l 26) (l.drop 26) W hw)
  unfold RPIs at HC7
  unfold RTxIs aN
  have hb1 := vN_lt (oN ok l 0) (l.drop 0) 1
  have hb2 := vN_lt (oN ok l 1) (l.drop 1) 4
  have hb3 := vN_lt (oN ok l 5) (l.drop 5) 4
  simp only [Nat.zero_add, Nat.reduceAdd] at HC1 HC2 HC3 HC4 HC5 HC6
  generalize vN (oN ok l 0) (l.drop 0) 1 = n1 at *
  generalize vN (oN ok l 1) (l.drop 1) 4 = n2 at *
  generalize vN (oN ok l 5) (l.drop 5) 4 = n3 at *
  generalize vN (oN ok l 9) (l.drop 9) 8 = n4 at *
  generalize vN (oN ok l 17) (l.drop 17) 8 = n5 at *
  generalize ((vN (oN ok l 25) (l.drop 25) 1 : Int) == 1) = f1 at *
  generalize (decide ((vN (oN ok l 25) (l.drop 25) 1 : Int) ≤ 1)) = f2 at *
  generalize oN ok l 26 = o26 at *
  generalize l.drop 26 = l26 at *
  have HP := hide (show poE o26 l26 = if poOk o26 l26 = true then 0 else 4 from rfl)
  generalize poE o26 l26 = E at *
  generalize poL o26 l26 = PL at *
  generalize poOk o26 l26 = PO at *
  obtain ⟨cn2a, cn2b⟩ := wr_i64 n2 (by omega)
  obtain ⟨cn3a, cn3b⟩ := wr_i64 n3 (by omega)
  have cn1 : IntKind.u8.wrap (n1 : Int) = (n1 : Int) := by rw [IntKind.wrap_u8]; omega
  have dn1 : 0 ≤ (n1 : Int) ∧ (n1 : Int) ≤ 255 := by omega
  have dn2 : 0 ≤ (n2 : Int) ∧ (n2 : Int) ≤ 4294967295 := by omega
  have dn3 : 0 ≤ (n3 : Int) ∧ (n3 : Int) ≤ 4294967295 := by omega
  clear hb1 hb2 hb3
  have hal := (Below.refl w.heap.size w).alloc (Nat.le_refl _) (.cells #[.int .i64 0, .int .u8 0, .int .i64 0, .int .i64 0, .int .i64 0, .int .i64 0, .bool false, .slice none 0 0] 68)
  have hal2 := (Below.refl _ (w.alloc (.cells #[.int .i64 0, .int .u8 0, .int .i64 0, .int .i64 0, .int .i64 0, .int .i64 0, .bool false, .slice none 0 0] 68))).alloc (Nat.le_refl _) (.cells #[.int .i64 0, .int .u8 0, .int .i64 0, .int .i64 0, .int .i64 0, .int .i64 0, .bool false, .slice none 0 0] 68)
  have hs1 : (w.alloc (.cells #[.int .i64 0, .int .u8 0, .int .i64 0, .int .i64 0, .int .i64 0, .int .i64 0, .bool false, .slice none 0 0] 68)).heap.size = w.heap.size + 1 := by simp
  have F0 := hide (show TxF w ((w.alloc (.cells #[.int .i64 0, .int .u8 0, .int .i64 0, .int .i64 0, .int .i64 0, .int .i64 0, .bool false, .slice none 0 0] 68)).alloc (.cells #[.int .i64 0, .int .u8 0, .int .i64 0, .int .i64 0, .int .i64 0, .int .i64 0, .bool false, .slice none 0 0] 68)) p (w.heap.size + 1) w.heap.size _ _ #[.int .i64 0, .int .u8 0, .int .i64 0, .int .i64 0, .int .i64 0, .int .i64 0, .bool false, .slice none 0 0] from
    ⟨(h0.below hal).below hal2, hs1 ▸ heap_new _ _, (hal2.block _ (by rw [hs1]; omega)).trans (heap_new _ _), ((Only.refl p w).alloc _).alloc _, by omega, by omega, by omega, by omega, by omega⟩)
  clear hal hal2 hs1 h h0 hp
  go_enter Try.func50, Try.ntmps50
  go_upto_region 2 with (fail)
  generalize (w.alloc (.cells #[.int .i64 0, .int .u8 0, .int .i64 0, .int .i64 0, .int .i64 0, .int .i64 0, .bool false, .slice none 0 0] 68)).alloc (.cells #[.int .i64 0, .int .u8 0, .int .i64 0, .int .i64 0, .int .i64 0, .int .i64 0, .bool false, .slice none 0 0] 68) = wz at *
  generalize hra : w.heap.size = ra at F0 ⊢
  generalize htb : ra + 1 = tb at *
  go_wp2_with fail
  refine (HC1.out _ F0.out.rq).mono ?_
  rintro e w1 ⟨rfl, hr, ho⟩
  have F1 := hide (F0.out.step hr ho)
  clear hr ho
  have e1 := cell_of_block F1.out.box 1
  have z1 := frozen_of_block F1.out.box 1
  have F2 := hide (show TxF w (w1.setCell ⟨tb, 1, none⟩ (.int .u8 (n1 : Int))) p tb ra _ _ #[.int .i64 0, .int .u8 (n1 : Int), .int .i64 0, .int .i64 0, .int .i64 0, .int .i64 0, .bool false, .slice none 0 0] from F1.out.store 1 (.int .u8 (n1 : Int)))
  go_wp2_with fail
  clear e1 z1
  refine (HC2.out _ F2.out.rq).mono ?_
  rintro e w3 ⟨rfl, hr, ho⟩
  have F3 := hide (F2.out.step hr ho)
  clear hr ho
  have e2 := cell_of_block F3.out.box 2
  have z2 := frozen_of_block F3.out.box 2
  have F4 := hide (show TxF w (w3.setCell ⟨tb, 2, none⟩ (.int .i64 (n2 : Int))) p tb ra _ _ #[.int .i64 0, .int .u8 (n1 : Int), .int .i64 (n2 : Int), .int .i64 0, .int .i64 0, .int .i64 0, .bool false, .slice none 0 0] from F3.out.store 2 (.int .i64 (n2 : Int)))
  go_wp2_with fail
  clear e2 z2
  refine (HC3.out _ F4.out.rq).mono ?_
  rintro e w5 ⟨rfl, hr, ho⟩
  have F5 := hide (F4.out.step hr ho)
  clear hr ho
  have e3 := cell_of_block F5.out.box 3
  have z3 := frozen_of_block F5.out.box 3
  have F6 := hide (show TxF w (w5.setCell ⟨tb, 3, none⟩ (.int .i64 (n3 : Int))) p tb ra _ _ #[.int .i64 0, .int .u8 (n1 : Int), .int .i64 (n2 : Int), .int .i64 (n3 : Int), .int .i64 0, .int .i64 0, .bool false, .slice none 0 0] from F5.out.store 3 (.int .i64 (n3 : Int)))
  go_wp2_with fail
  clear e3 z3
  refine (HC4.out _ F6.out.rq).mono ?_
  rintro e w7 ⟨rfl, hr, ho⟩
  have F7 := hide (F6.out.step hr ho)
  clear hr ho
  have e4 := cell_of_block F7.out.box 4
  have z4 := frozen_of_block F7.out.box 4
  have F8 := hide (show TxF w (w7.setCell ⟨tb, 4, none⟩ (.int .i64 (wrap64 (n4 : Int)))) p tb ra _ _ #[.int .i64 0, .int .u8 (n1 : Int), .int .i64 (n2 : Int), .int .i64 (n3 : Int), .int .i64 (wrap64 (n4 : Int)), .int .i64 0, .bool false, .slice none 0 0] from F7.out.store 4 (.int .i64 (wrap64 (n4 : Int))))
  go_wp2_with fail
  clear e4 z4
  refine (HC5.out _ F8.out.rq).mono ?_
  rintro e w9 ⟨rfl, hr, ho⟩
  have F9 := hide (F8.out.step hr ho)
  clear hr ho
  have e5 := cell_of_block F9.out.box 5
  have z5 := frozen_of_block F9.out.box 5
  have F10 := hide (show TxF w (w9.setCell ⟨tb, 5, none⟩ (.int .i64 (wrap64 (n5 : Int)))) p tb ra _ _ #[.int .i64 0, .int .u8 (n1 : Int), .int .i64 (n2 : Int), .int .i64 (n3 : Int), .int .i64 (wrap64 (n4 : Int)), .int .i64 (wrap64 (n5 : Int)), .bool false, .slice none 0 0] from F9.out.store 5 (.int .i64 (wrap64 (n5 : Int))))
  go_wp2_with fail
  clear e5 z5
  refine (HC6.out _ F10.out.rq).mono ?_
  rintro e w11 ⟨rfl, hr, ho⟩
  have F11 := hide (F10.out.step hr ho)
  clear hr ho
  have e6 := cell_of_block F11.out.box 6
  have z6 := frozen_of_block F11.out.box 6
  have FA := hide (show TxF w (w11.setCell ⟨tb, 6, none⟩ (.bool f1)) p tb ra _ _ #[.int .i64 0, .int .u8 (n1 : Int), .int .i64 (n2 : Int), .int .i64 (n3 : Int), .int .i64 (wrap64 (n4 : Int)), .int .i64 (wrap64 (n5 : Int)), .bool f1, .slice none 0 0] from F11.out.store 6 (.bool f1))
  go_wp2_with fail
  clear e6 z6
  generalize w11.setCell ⟨tb, 6, none⟩ (.bool f1) = wa at *
  refine (HC7.out _ FA.out.rq).mono ?_
  rintro e wb ⟨a, c, rfl, hl, ⟨ok', l', hr, hq⟩, ho⟩
  have FB := hide (FA.out.step hr ho)
  have FC := hide (show TxF w (wb.setCell ⟨tb, 7, none⟩ (.slice a PL.length c)) p tb ra _ _ #[.int .i64 0, .int .u8 (n1 : Int), .int .i64 (n2 : Int), .int .i64 (n3 : Int), .int .i64 (wrap64 (n4 : Int)), .int .i64 (wrap64 (n5 : Int)), .bool f1, .slice a PL.length c] from FB.out.store 7 (.slice a PL.length c))
  have LN := hide ((hl.set (heap_lt FA.out.box) 7 (.slice a PL.length c)))
  have LA := hide (heap_lt FA.out.res)
  have LS := hide FA.out.only.size
  have HQ := hide hq
  clear hr hq ho hl
  have e7 := cell_of_block FB.out.box 7
  have z7 := frozen_of_block FB.out.box 7
  go_upto_region 11 with (fail)
  clear e7 z7
  generalize wb.setCell ⟨tb, 7, none⟩ (.slice a PL.length c) = wc at *
  have RB := FC.out.box
  have RS := FC.out.res
  have hE := HP.out
  cases f2 <;> cases PO
  all_goals
    simp only [if_true, if_false, Bool.false_eq_true, reduceIte] at hE
    subst hE
    go_wp2_with (first | (refine wpList_rowLoad rfl 68 (.tmp 4) rfl tb rfl 68 #[.int .i64 0, .int .u8 (n1 : Int), .int .i64 (n2 : Int), .int .i64 (n3 : Int), .int .i64 (wrap64 (n4 : Int)), .int .i64 (wrap64 (n5 : Int)), .bool f1, .slice a PL.length c] (0, 0) _ RB Try.underlying68 rfl (tx_info _ _ _ _ _ _ _ _) ?_) | (refine wpList_rowStore rfl 68 (.tmp 2) (.tmp 41) rfl ra rfl #[.int .i64 0, .int .u8 (n1 : Int), .int .i64 (n2 : Int), .int .i64 (n3 : Int), .int .i64 (wrap64 (n4 : Int)), .int .i64 (wrap64 (n5 : Int)), .bool f1, .slice a PL.length c] rfl #[.int .i64 0, .int .u8 0, .int .i64 0, .int .i64 0, .int .i64 0, .int .i64 0, .bool false, .slice none 0 0] RS (tx_info _ _ _ _ _ _ _ _) rfl (by simp [Value.oneCell']) ?_))
    (try simp only [Exit.inBlock, Exit.then])
    refine bodyPost_ret (res_cell2 (P := Try.prog) rfl _ _ ra 68 #[.int .i64 0, .int .u8 (n1 : Int), .int .i64 (n2 : Int), .int .i64 (n3 : Int), .int .i64 (wrap64 (n4 : Int)), .int .i64 (wrap64 (n5 : Int)), .bool f1, .slice a PL.length c] (0, 0) _ rfl (setRow_self _ _ _ _ _ _ RS) Try.underlying68 rfl (tx_info _ _ _ _ _ _ _ _)) rfl ?_
    obtain ⟨m1, m2, m3, m4, m5⟩ := FC.out.new
    obtain ⟨s, h1, h2⟩ := FC.out.rq
    exact ⟨a, c, rfl, (LN.out.setRow LA.out _).mono LS.out, ⟨ok', l', ⟨s, ⟨(setRow_apart m5).trans h1.row⟩, h2⟩, fun hh => HQ.out (by first | exact hh | exact trivial | exact absurd hh (by decide))⟩, only_setRow FC.out.only m2 _⟩
end Go.Proofs.Ytkbikflincjhhaa
