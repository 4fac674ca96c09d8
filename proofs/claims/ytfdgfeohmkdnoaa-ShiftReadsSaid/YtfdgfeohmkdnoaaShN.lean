import Derived.Test.YtfdgfeohmkdnoaaMShR
import Derived.Test.YtfdgfeohmkdnoaaShG3
import Derived.Test.YtfdgfeohmkdnoaaKitRow
import Derived.Test.YtfdgfeohmkdnoaaShDel
import Derived.Test.YtfdgfeohmkdnoaaShG2
import Derived.Deep.Cut
import Derived.Test.YtfdgfeohmkdnoaaShW2
/-
  Layer 26: readTotals by contract.
-/
--import Derived.Test.Zdbg
namespace Go.Proofs.Ytfdgfeohmkdnoaa
set_option linter.unusedSimpArgs false
set_option linter.unusedVariables false
open Go.RowKit Go.WideShapes Go.ChangeShapes Go.ChangeAt Go.Deep
theorem RQ.only {W W' : World} {p q : Nat} {ok : Bool} {l : List UInt8} (h : RQ W p ok l) (ho : Only q W W') (hq : p ≠ q) : RQ W' p ok l := by
  obtain ⟨s, h1, h2⟩ := h
  exact ⟨s, h1.only ho hq, h2⟩
theorem RQ.keepsT {Ts : List TypeId} {W W' : World} {p : Nat} {ok : Bool} {l : List UInt8} (h : RQ W p ok l) (hk : KeepsT Ts W W') (ht : 104 ∉ Ts) : RQ W' p ok l := by
  obtain ⟨s, h1, h2⟩ := h
  exact ⟨s, ⟨hk.cells h1.row ht⟩, h2⟩
theorem Only.newRow {p A : Nat} {w W : World} (h : Only p w W) (hA : w.heap.size ≤ A) (cs : Array Value) : Only p w (W.setRow A cs) :=
  ⟨h.os, h.tape, h.output, by rw [setRow_size]; exact h.size, fun k hk hp => (setRow_diff (by omega)).trans (h.block k hk hp)⟩
def RTotIs (hd : Nat) (ok : Bool) (l : List UInt8) (W : World) (e : Ending) (w' : World) : Prop := e = .returned (.tuple #[totV (rtV ok l), .bool (totB (rtV ok l))]) ∧ RQ w' hd (ok && decide (44 ≤ l.length)) (l.drop 44) ∧ Only hd W w'
set_option maxRecDepth 100000 in
set_option maxHeartbeats 4000000 in
theorem readTot_any (hd : Nat) (ok : Bool) (l : List UInt8) (w : World) (h : RQ w hd ok l) :
    Calls Try.prog 42 #[.pointer (some ⟨hd, 0, none⟩)] w (RTotIs hd ok l w) := by
  have HN := hide (fun W h => rq_number hd ok l 4 (by decide) (by decide) W h)
  have HS := hide (fun k W (h : RQ W hd (rtK ok l k) (rtL l k)) => (rq_signed hd (rtK ok l k) (rtL l k) W h).mono fun e w' ⟨h1, h2, h3⟩ => (show e = Ending.returned (.int .i64 (rtS ok l k)) ∧ RQ w' hd (rtK ok l (k + 1)) (rtL l (k + 1)) ∧ Only hd W w' from ⟨h1, by rw [← rtK_next, ← rtL_next]; exact h2, h3⟩))
  unfold RNIs at HN
  have hc := rtV_c ok l
  have HV := hide (show rtV ok l = ⟨(vN ok l 4 : Int), rtS ok l 0, rtS ok l 1, rtS ok l 2, rtS ok l 3, rtS ok l 4⟩ from rfl)
  have HB := hide (show totB (rtV ok l) = rtG (rtS ok l) 5 from rfl)
  have HK0 := hide (show ∀ W, RQ W hd (ok && decide (4 ≤ l.length)) (l.drop 4) → RQ W hd (rtK ok l 0) (rtL l 0) from fun W h => h)
  have HK5 := hide (show ∀ W, RQ W hd (rtK ok l 5) (rtL l 5) → RQ W hd (ok && decide (44 ≤ l.length)) (l.drop 44) from fun W h => h)
  have HSI := hide (fun k => rtS_in ok l k)
  rw [HV.out] at hc
  dsimp only at hc
  generalize vN ok l 4 = c at *
  generalize rtS ok l = s at *
  have hcu : IntKind.i64.wrap (c : Int) = (c : Int) := by rw [IntKind.wrap_i64]; omega
  have hcw : wrap64 (c : Int) = (c : Int) := by unfold wrap64; omega
  have hal := (Below.refl w.heap.size w).alloc (Nat.le_refl _) (.cells #[.int .i64 0, .int .i64 0, .int .i64 0, .int .i64 0, .int .i64 0, .int .i64 0] 43)
  have XB1 := hide (heap_new w (.cells #[.int .i64 0, .int .i64 0, .int .i64 0, .int .i64 0, .int .i64 0, .int .i64 0] 43))
  have Q1 := hide (h.below hal)
  have O1 := hide ((Only.refl hd w).alloc (.cells #[.int .i64 0, .int .i64 0, .int .i64 0, .int .i64 0, .int .i64 0, .int .i64 0] 43))
  have HBH := hide (show w.heap.size ≠ hd from by have := h.lt; omega)
  have HLT := hide h.lt
  clear hal h hc
  go_enter Try.func42, Try.ntmps42
  go_upto_region 1 with (fail)
  generalize w.alloc (.cells #[.int .i64 0, .int .i64 0, .int .i64 0, .int .i64 0, .int .i64 0, .int .i64 0] 43) = w1 at *
  obtain ⟨qb, hqb⟩ : ∃ k, w.heap.size = k := ⟨_, rfl⟩
  rw [hqb] at XB1 HBH ⊢
  have HQW := hide (show w.heap.size ≤ qb from by omega)
  clear hqb
  go_wp2_with fail
  refine (HN.out _ Q1.out).mono ?_
  rintro e w2 ⟨rfl, hq, ho⟩
  have Q2 := hide (HK0.out _ hq)
  have XB2 := hide ((ho.block _ (heap_lt XB1.out) HBH.out).trans XB1.out)
  have O2 := hide (O1.out.trans ho)
  clear hq ho Q1 XB1 O1
  go_upto_region 3 with (fail)
  have hal := (Below.refl w2.heap.size w2).alloc (Nat.le_refl _) (.cells #[.int .i64 0, .int .i64 0, .int .i64 0, .int .i64 0, .int .i64 0] 91)
  have XA3 := hide (show (w2.alloc (.cells #[.int .i64 0, .int .i64 0, .int .i64 0, .int .i64 0, .int .i64 0] 91)).heap[w2.heap.size]? = some (.cells (rtA s 0) 91 (0, 0)) from heap_new w2 (.cells #[.int .i64 0, .int .i64 0, .int .i64 0, .int .i64 0, .int .i64 0] 91))
  have XB3 := hide ((hal.block _ (heap_lt XB2.out)).trans XB2.out)
  have Q3 := hide (Q2.out.below hal)
  have O3 := hide (O2.out.alloc (.cells #[.int .i64 0, .int .i64 0, .int .i64 0, .int .i64 0, .int .i64 0] 91))
  have HAH := hide (show w2.heap.size ≠ hd from by have := Q2.out.lt; omega)
  have HAB := hide (show w2.heap.size ≠ qb from by have := heap_lt XB2.out; omega)
  have HAW := hide (show w.heap.size ≤ w2.heap.size from O2.out.size)
  clear hal Q2 XB2 O2
  generalize w2.alloc (.cells #[.int .i64 0, .int .i64 0, .int .i64 0, .int .i64 0, .int .i64 0] 91) = w3 at *
  generalize w2.heap.size = ab at *
  go_wp2_with fail
  go_loopw [6, 11] (fun rb i W => ∃ k : Nat, k ≤ 5 ∧ i = .int .i64 k ∧ rb = .bool (rtG s k) ∧ RQ W hd (rtK ok l k) (rtL l k) ∧ W.heap[ab]? = some (.cells (rtA s k) 91 (0, 0)) ∧ W.heap[qb]? = some (.cells #[.int .i64 0, .int .i64 0, .int .i64 0, .int .i64 0, .int .i64 0, .int .i64 0] 43 (0, 0)) ∧ Only hd w W) (fun _ i _ => 5 - (intOf i).toNat)
  case atStart => exact ⟨0, by omega, rfl, rfl, Q3.out, XA3.out, XB3.out, O3.out⟩
  case round =>
    obtain ⟨k, hk, rfl, rfl, hq, hxa, hxb, ho⟩ := hrel
    have Q0 := hide hq
    have XA := hide hxa
    have XB := hide hxb
    have O0 := hide ho
    clear hq hxa hxb ho Q3 XA3 XB3 O3
    obtain ⟨W0, rfl⟩ : ∃ W0 : World, W0 = wr := ⟨_, rfl⟩
    obtain rfl | rfl | rfl | rfl | rfl | rfl : k = 0 ∨ k = 1 ∨ k = 2 ∨ k = 3 ∨ k = 4 ∨ k = 5 := by omega
    · as_aux_lemma =>
      have ck : W0.cell? ⟨ab, 0, none⟩ = some (.int .i64 0) := cell_of_block XA.out 0
      have fk : W0.frozen? ⟨ab, 0, none⟩ = false := frozen_of_block XA.out 0
      clear ck fk
      go_wp2_with fail
      refine (HS.out 0 _ Q0.out).mono ?_
      rintro e w4 ⟨rfl, hq, ho⟩
      have Q4 := hide hq
      have XA4 := hide ((ho.block _ (heap_lt XA.out) HAH.out).trans XA.out)
      have XB4 := hide ((ho.block _ (heap_lt XB.out) HBH.out).trans XB.out)
      have O4 := hide (O0.out.trans ho)
      clear hq ho Q0 XA XB O0
      have ck : w4.cell? ⟨ab, 0, none⟩ = some (.int .i64 0) := cell_of_block XA4.out 0
      have fk : w4.frozen? ⟨ab, 0, none⟩ = false := frozen_of_block XA4.out 0
      go_upto_region 8 with (fail)
      have XA5 := hide (show (w4.setCell ⟨ab, 0, none⟩ (.int .i64 (s 0))).heap[ab]? = some (.cells (rtA s 1) 91 (0, 0)) from block_setCell XA4.out 0 (.int .i64 (s 0)))
      have XB5 := hide (show (w4.setCell ⟨ab, 0, none⟩ (.int .i64 (s 0))).heap[qb]? = some (.cells #[.int .i64 0, .int .i64 0, .int .i64 0, .int .i64 0, .int .i64 0, .int .i64 0] 43 (0, 0)) from (block_setCell_other HAB.out 0 _).trans XB4.out)
      have Q5 := hide (Q4.out.other HAH.out 0 (.int .i64 (s 0)))
      have O5 := hide (O4.out.new HAW.out 0 (.int .i64 (s 0)))
      clear ck fk XA4 XB4 Q4 O4
      generalize w4.setCell ⟨ab, 0, none⟩ (.int .i64 (s 0)) = w5 at *
      have ck : w5.cell? ⟨ab, 0, none⟩ = some (.int .i64 (s 0)) := cell_of_block XA5.out 0
      cases hg : rtG s 0
      · have HG := hide (show false = rtG s 1 from by show false = (rtG s 0 && decide (0 ≤ s 0)); rw [hg]; rfl)
        go_wp2_with fail
        go_roundw
        case rel => exact ⟨1, by omega, by go_num, congrArg Value.bool HG.out, Q5.out, XA5.out, XB5.out, O5.out⟩
        case measure => simp [intOf]
      · have HG := hide (show decide (0 ≤ s 0) = rtG s 1 from by show _ = (rtG s 0 && decide (0 ≤ s 0)); rw [hg]; rfl)
        go_wp2_with fail
        go_roundw
        case rel => exact ⟨1, by omega, by go_num, congrArg Value.bool HG.out, Q5.out, XA5.out, XB5.out, O5.out⟩
        case measure => simp [intOf]
    · as_aux_lemma =>
      have ck : W0.cell? ⟨ab, 1, none⟩ = some (.int .i64 0) := cell_of_block XA.out 1
      have fk : W0.frozen? ⟨ab, 1, none⟩ = false := frozen_of_block XA.out 1
      clear ck fk
      go_wp2_with fail
      refine (HS.out 1 _ Q0.out).mono ?_
      rintro e w4 ⟨rfl, hq, ho⟩
      have Q4 := hide hq
      have XA4 := hide ((ho.block _ (heap_lt XA.out) HAH.out).trans XA.out)
      have XB4 := hide ((ho.block _ (heap_lt XB.out) HBH.out).trans XB.out)
      have O4 := hide (O0.out.trans ho)
      clear hq ho Q0 XA XB O0
      have ck : w4.cell? ⟨ab, 1, none⟩ = some (.int .i64 0) := cell_of_block XA4.out 1
      have fk : w4.frozen? ⟨ab, 1, none⟩ = false := frozen_of_block XA4.out 1
      go_upto_region 8 with (fail)
      have XA5 := hide (show (w4.setCell ⟨ab, 1, none⟩ (.int .i64 (s 1))).heap[ab]? = some (.cells (rtA s 2) 91 (0, 0)) from block_setCell XA4.out 1 (.int .i64 (s 1)))
      have XB5 := hide (show (w4.setCell ⟨ab, 1, none⟩ (.int .i64 (s 1))).heap[qb]? = some (.cells #[.int .i64 0, .int .i64 0, .int .i64 0, .int .i64 0, .int .i64 0, .int .i64 0] 43 (0, 0)) from (block_setCell_other HAB.out 1 _).trans XB4.out)
      have Q5 := hide (Q4.out.other HAH.out 1 (.int .i64 (s 1)))
      have O5 := hide (O4.out.new HAW.out 1 (.int .i64 (s 1)))
      clear ck fk XA4 XB4 Q4 O4
      generalize w4.setCell ⟨ab, 1, none⟩ (.int .i64 (s 1)) = w5 at *
      have ck : w5.cell? ⟨ab, 1, none⟩ = some (.int .i64 (s 1)) := cell_of_block XA5.out 1
      cases hg : rtG s 1
      · have HG := hide (show false = rtG s 2 from by show false = (rtG s 1 && decide (0 ≤ s 1)); rw [hg]; rfl)
        go_wp2_with fail
        go_roundw
        case rel => exact ⟨2, by omega, by go_num, congrArg Value.bool HG.out, Q5.out, XA5.out, XB5.out, O5.out⟩
        case measure => simp [intOf]
      · have HG := hide (show decide (0 ≤ s 1) = rtG s 2 from by show _ = (rtG s 1 && decide (0 ≤ s 1)); rw [hg]; rfl)
        go_wp2_with fail
        go_roundw
        case rel => exact ⟨2, by omega, by go_num, congrArg Value.bool HG.out, Q5.out, XA5.out, XB5.out, O5.out⟩
        case measure => simp [intOf]
    · as_aux_lemma =>
      have ck : W0.cell? ⟨ab, 2, none⟩ = some (.int .i64 0) := cell_of_block XA.out 2
      have fk : W0.frozen? ⟨ab, 2, none⟩ = false := frozen_of_block XA.out 2
      clear ck fk
      go_wp2_with fail
      refine (HS.out 2 _ Q0.out).mono ?_
      rintro e w4 ⟨rfl, hq, ho⟩
      have Q4 := hide hq
      have XA4 := hide ((ho.block _ (heap_lt XA.out) HAH.out).trans XA.out)
      have XB4 := hide ((ho.block _ (heap_lt XB.out) HBH.out).trans XB.out)
      have O4 := hide (O0.out.trans ho)
      clear hq ho Q0 XA XB O0
      have ck : w4.cell? ⟨ab, 2, none⟩ = some (.int .i64 0) := cell_of_block XA4.out 2
      have fk : w4.frozen? ⟨ab, 2, none⟩ = false := frozen_of_block XA4.out 2
      go_upto_region 8 with (fail)
      have XA5 := hide (show (w4.setCell ⟨ab, 2, none⟩ (.int .i64 (s 2))).heap[ab]? = some (.cells (rtA s 3) 91 (0, 0)) from block_setCell XA4.out 2 (.int .i64 (s 2)))
      have XB5 := hide (show (w4.setCell ⟨ab, 2, none⟩ (.int .i64 (s 2))).heap[qb]? = some (.cells #[.int .i64 0, .int .i64 0, .int .i64 0, .int .i64 0, .int .i64 0, .int .i64 0] 43 (0, 0)) from (block_setCell_other HAB.out 2 _).trans XB4.out)
      have Q5 := hide (Q4.out.other HAH.out 2 (.int .i64 (s 2)))
      have O5 := hide (O4.out.new HAW.out 2 (.int .i64 (s 2)))
      clear ck fk XA4 XB4 Q4 O4
      generalize w4.setCell ⟨ab, 2, none⟩ (.int .i64 (s 2)) = w5 at *
      have ck : w5.cell? ⟨ab, 2, none⟩ = some (.int .i64 (s 2)) := cell_of_block XA5.out 2
      cases hg : rtG s 2
      · have HG := hide (show false = rtG s 3 from by show false = (rtG s 2 && decide (0 ≤ s 2)); rw [hg]; rfl)
        go_wp2_with fail
        go_roundw
        case rel => exact ⟨3, by omega, by go_num, congrArg Value.bool HG.out, Q5.out, XA5.out, XB5.out, O5.out⟩
        case measure => simp [intOf]
      · have HG := hide (show decide (0 ≤ s 2) = rtG s 3 from by show _ = (rtG s 2 && decide (0 ≤ s 2)); rw [hg]; rfl)
        go_wp2_with fail
        go_roundw
        case rel => exact ⟨3, by omega, by go_num, congrArg Value.bool HG.out, Q5.out, XA5.out, XB5.out, O5.out⟩
        case measure => simp [intOf]
    · as_aux_lemma =>
      have ck : W0.cell? ⟨ab, 3, none⟩ = some (.int .i64 0) := cell_of_block XA.out 3
      have fk : W0.frozen? ⟨ab, 3, none⟩ = false := frozen_of_block XA.out 3
      clear ck fk
      go_wp2_with fail
      refine (HS.out 3 _ Q0.out).mono ?_
      rintro e w4 ⟨rfl, hq, ho⟩
      have Q4 := hide hq
      have XA4 := hide ((ho.block _ (heap_lt XA.out) HAH.out).trans XA.out)
      have XB4 := hide ((ho.block _ (heap_lt XB.out) HBH.out).trans XB.out)
      have O4 := hide (O0.out.trans ho)
      clear hq ho Q0 XA XB O0
      have ck : w4.cell? ⟨ab, 3, none⟩ = some (.int .i64 0) := cell_of_block XA4.out 3
      have fk : w4.frozen? ⟨ab, 3, none⟩ = false := frozen_of_block XA4.out 3
      go_upto_region 8 with (fail)
      have XA5 := hide (show (w4.setCell ⟨ab, 3, none⟩ (.int .i64 (s 3))).heap[ab]? = some (.cells (rtA s 4) 91 (0, 0)) from block_setCell XA4.out 3 (.int .i64 (s 3)))
      have XB5 := hide (show (w4.setCell ⟨ab, 3, none⟩ (.int .i64 (s 3))).heap[qb]? = some (.cells #[.int .i64 0, .int .i64 0, .int .i64 0, .int .i64 0, .int .i64 0, .int .i64 0] 43 (0, 0)) from (block_setCell_other HAB.out 3 _).trans XB4.out)
      have Q5 := hide (Q4.out.other HAH.out 3 (.int .i64 (s 3)))
      have O5 := hide (O4.out.new HAW.out 3 (.int .i64 (s 3)))
      clear ck fk XA4 XB4 Q4 O4
      generalize w4.setCell ⟨ab, 3, none⟩ (.int .i64 (s 3)) = w5 at *
      have ck : w5.cell? ⟨ab, 3, none⟩ = some (.int .i64 (s 3)) := cell_of_block XA5.out 3
      cases hg : rtG s 3
      · have HG := hide (show false = rtG s 4 from by show false = (rtG s 3 && decide (0 ≤ s 3)); rw [hg]; rfl)
        go_wp2_with fail
        go_roundw
        case rel => exact ⟨4, by omega, by go_num, congrArg Value.bool HG.out, Q5.out, XA5.out, XB5.out, O5.out⟩
        case measure => simp [intOf]
      · have HG := hide (show decide (0 ≤ s 3) = rtG s 4 from by show _ = (rtG s 3 && decide (0 ≤ s 3)); rw [hg]; rfl)
        go_wp2_with fail
        go_roundw
        case rel => exact ⟨4, by omega, by go_num, congrArg Value.bool HG.out, Q5.out, XA5.out, XB5.out, O5.out⟩
        case measure => simp [intOf]
    · as_aux_lemma =>
      have ck : W0.cell? ⟨ab, 4, none⟩ = some (.int .i64 0) := cell_of_block XA.out 4
      have fk : W0.frozen? ⟨ab, 4, none⟩ = false := frozen_of_block XA.out 4
      clear ck fk
      go_wp2_with fail
      refine (HS.out 4 _ Q0.out).mono ?_
      rintro e w4 ⟨rfl, hq, ho⟩
      have Q4 := hide hq
      have XA4 := hide ((ho.block _ (heap_lt XA.out) HAH.out).trans XA.out)
      have XB4 := hide ((ho.block _ (heap_lt XB.out) HBH.out).trans XB.out)
      have O4 := hide (O0.out.trans ho)
      clear hq ho Q0 XA XB O0
      have ck : w4.cell? ⟨ab, 4, none⟩ = some (.int .i64 0) := cell_of_block XA4.out 4
      have fk : w4.frozen? ⟨ab, 4, none⟩ = false := frozen_of_block XA4.out 4
      go_upto_region 8 with (fail)
      have XA5 := hide (show (w4.setCell ⟨ab, 4, none⟩ (.int .i64 (s 4))).heap[ab]? = some (.cells (rtA s 5) 91 (0, 0)) from block_setCell XA4.out 4 (.int .i64 (s 4)))
      have XB5 := hide (show (w4.setCell ⟨ab, 4, none⟩ (.int .i64 (s 4))).heap[qb]? = some (.cells #[.int .i64 0, .int .i64 0, .int .i64 0, .int .i64 0, .int .i64 0, .int .i64 0] 43 (0, 0)) from (block_setCell_other HAB.out 4 _).trans XB4.out)
      have Q5 := hide (Q4.out.other HAH.out 4 (.int .i64 (s 4)))
      have O5 := hide (O4.out.new HAW.out 4 (.int .i64 (s 4)))
      clear ck fk XA4 XB4 Q4 O4
      generalize w4.setCell ⟨ab, 4, none⟩ (.int .i64 (s 4)) = w5 at *
      have ck : w5.cell? ⟨ab, 4, none⟩ = some (.int .i64 (s 4)) := cell_of_block XA5.out 4
      cases hg : rtG s 4
      · have HG := hide (show false = rtG s 5 from by show false = (rtG s 4 && decide (0 ≤ s 4)); rw [hg]; rfl)
        go_wp2_with fail
        go_roundw
        case rel => exact ⟨5, by omega, by go_num, congrArg Value.bool HG.out, Q5.out, XA5.out, XB5.out, O5.out⟩
        case measure => simp [intOf]
      · have HG := hide (show decide (0 ≤ s 4) = rtG s 5 from by show _ = (rtG s 4 && decide (0 ≤ s 4)); rw [hg]; rfl)
        go_wp2_with fail
        go_roundw
        case rel => exact ⟨5, by omega, by go_num, congrArg Value.bool HG.out, Q5.out, XA5.out, XB5.out, O5.out⟩
        case measure => simp [intOf]
    · have e0 : W0.cell? ⟨ab, 0, none⟩ = some (.int .i64 (s 0)) := cell_of_block XA.out 0
      have e1 : W0.cell? ⟨ab, 1, none⟩ = some (.int .i64 (s 1)) := cell_of_block XA.out 1
      have e2 : W0.cell? ⟨ab, 2, none⟩ = some (.int .i64 (s 2)) := cell_of_block XA.out 2
      have e3 : W0.cell? ⟨ab, 3, none⟩ = some (.int .i64 (s 3)) := cell_of_block XA.out 3
      have e4 : W0.cell? ⟨ab, 4, none⟩ = some (.int .i64 (s 4)) := cell_of_block XA.out 4
      have HTO := hide (fun W => totals_any (c : Int) (s 0) (s 1) (s 2) (s 3) (s 4) W)
      unfold totA at HTO
      go_wp2_with fail
      refine (HTO.out _).mono ?_
      rintro e w6 ⟨rfl, hb⟩
      have XB6 := hide ((hb.block _ (heap_lt XB.out)).trans XB.out)
      have Q6 := hide (HK5.out _ (Q0.out.below hb))
      have O6 := hide (O0.out.trans (.of_below hb))
      clear hb e0 e1 e2 e3 e4 XB Q0 O0 HTO
      go_wp2_with (refine rw_store rfl 43 (.tmp 2) (.tmp 28) rfl qb rfl #[.int .i64 (c : Int), .int .i64 (s 0), .int .i64 (s 1), .int .i64 (s 2), .int .i64 (s 3), .int .i64 (s 4)] rfl _ XB6.out (by kernel_rfl) rfl (by simp [Value.oneCell']) ?_)
      have XR := hide (setRow_same (cs := (#[.int .i64 (c : Int), .int .i64 (s 0), .int .i64 (s 1), .int .i64 (s 2), .int .i64 (s 3), .int .i64 (s 4)] : Array Value)) XB6.out)
      have ho2 := setRow_only w6 qb (#[.int .i64 (c : Int), .int .i64 (s 0), .int .i64 (s 1), .int .i64 (s 2), .int .i64 (s 3), .int .i64 (s 4)] : Array Value)
      have Q7 := hide (Q6.out.only ho2 HBH.out.symm)
      have O7 := hide (O6.out.newRow HQW.out (#[.int .i64 (c : Int), .int .i64 (s 0), .int .i64 (s 1), .int .i64 (s 2), .int .i64 (s 3), .int .i64 (s 4)] : Array Value))
      (try simp only [Exit.inBlock, Exit.then])
      refine bodyPost_ret (res_ct (P := Try.prog) rfl _ _ qb 43 #[.int .i64 (c : Int), .int .i64 (s 0), .int .i64 (s 1), .int .i64 (s 2), .int .i64 (s 3), .int .i64 (s 4)] (0, 0) _ rfl XR.out Try.underlying43 rfl (by kernel_rfl)) rfl ?_
      exact ⟨by rw [HB.out, HV.out]; rfl, Q7.out, O7.out⟩
end Go.Proofs.Ytfdgfeohmkdnoaa

/-
  Layer 26: slices.Delete of the last of totals by contract.
-/
--import Derived.Test.Zdbg
namespace Go.Proofs.Ytfdgfeohmkdnoaa
set_option linter.unusedSimpArgs false
set_option linter.unusedVariables false
open Go.RowKit Go.WideShapes Go.ChangeShapes Go.ChangeAt
set_option maxRecDepth 100000 in
set_option maxHeartbeats 1000000 in
theorem delete_last0 (n g c : Nat) (cur : Array Value) (hn : n + 1 ≤ c) (hc : c ≤ 9223372036854775807) (hsz : cur.size = c * 6) (w : World) (hg : w.heap[g]? = some (.cells cur 43 (0, 0))) :
    Calls Try.prog 31 #[.slice (some ⟨g, 0, none⟩) (n + 1) c, .int .i64 n, .int .i64 (n + 1)] w fun e w' => e = .returned (.slice (some ⟨g, 0, none⟩) n c) ∧ w'.heap[g]? = some (.cells (cur.toList.take (n * 6) ++ zeroE ++ cur.toList.drop (n * 6 + 6)).toArray 43 (0, 0)) ∧ Only g w w' := by
  have h1 : (n : Int) + 1 ≤ (c : Int) := by omega
  have h2 : (n : Int) ≤ (n : Int) + 1 := by omega
  have h3 : ¬ (n : Int) = (n : Int) + 1 := by omega
  have h4 : (n : Int) ≤ (c : Int) := by omega
  have h5 : 0 ≤ (n : Int) + 1 := by omega
  have h6 : ((n : Int) + 1).toNat = n + 1 := by omega
  have hg0 : w.drew.heap[g]? = some (.cells cur 43 (0, 0)) := hg
  have hc2 := fun ty k => run_clear_row (P := Try.prog) w.drew 84 43 ty (.agg #[.int .i64 0, .int .i64 0, .int .i64 0, .int .i64 0, .int .i64 0, .int .i64 0]) zeroE Try.underlying84 (fun _ => by kernel_rfl) rfl (by decide) g (n * 6) k cur hg0 (by rw [show zeroE.length = 6 from rfl]; omega)
  rw [show zeroE.length = 6 from rfl] at hc2
  have hg2 := setRow_heap w.drew g cur (cur.toList.take (n * 6) ++ zeroE ++ cur.toList.drop (n * 6 + 6)).toArray 43 (0, 0) hg0
  have HO := hide ((Only.refl g w).drew.trans (setRow_only w.drew g (cur.toList.take (n * 6) ++ zeroE ++ cur.toList.drop (n * 6 + 6)).toArray))
  generalize (cur.toList.take (n * 6) ++ zeroE ++ cur.toList.drop (n * 6 + 6)).toArray = c2 at *
  have HC := hide hc2
  have HG2 := hide hg2
  clear hc2 hg2 hg0 hg hsz
  go_enter Try.func31, Try.ntmps31
  go_wp2_with fail
  by_cases hcn : c = n + 1
  · subst hcn
    go_still_tail 6, (by kernel_rfl)
    change wpList _ _ _ _ _ w.drew
    have hclr := HC.out 0
    clear HC
    go_wp2_with (fail)
    go_ret
    exact ⟨rfl, HG2.out, HO.out⟩
  · go_still_tail 6, (by kernel_rfl)
    change wpList _ _ _ _ _ w.drew
    have hclr := HC.out 0
    clear HC
    go_wp2_with (fail)
    go_ret
    exact ⟨rfl, HG2.out, HO.out⟩
/-- the last one goes -/
theorem delete_last (L : List TotM) (x : TotM) (g c B : Nat) (w : World) (h : w.ownsRow B 43 6 (.slice (some ⟨g, 0, none⟩) (L ++ [x]).length c) (L ++ [x]).length ((L ++ [x]).flatMap totC)) :
    Calls Try.prog 31 #[.slice (some ⟨g, 0, none⟩) (L.length + 1) c, .int .i64 L.length, .int .i64 ((L.length : Int) + 1)] w fun e w' => e = .returned (.slice (some ⟨g, 0, none⟩) L.length c) ∧ w'.ownsRow B 43 6 (.slice (some ⟨g, 0, none⟩) L.length c) L.length (L.flatMap totC) ∧ Only g w w' := by
  rw [List.length_append, List.length_singleton] at h
  rcases h.2 with ⟨h1, h2⟩ | ⟨g', cap, cur, hv, hB, hg, hnc, hcm, hsz, ht⟩
  · omega
  · simp only [Value.slice.injEq, Option.some.injEq, Addr.mk.injEq, and_true, true_and] at hv
    obtain ⟨rfl, rfl⟩ := hv
    refine (delete_last0 L.length g c cur hnc (by unfold maxLen at hcm; omega) hsz w hg).mono ?_
    rintro e w' ⟨rfl, r1, r2⟩
    have hcl : cur.toList.length = cur.size := Array.length_toList
    have hnl := totsC_length L
    have ht2 : cur.toList.take (L.length * 6) = L.flatMap totC := by
      have e := congrArg (List.take (L.length * 6)) ht
      rw [List.take_take, Nat.min_eq_left (by omega), flat_snoc, List.take_append_of_le_length (by omega), List.take_of_length_le (l := L.flatMap totC) (by omega)] at e
      exact e
    refine ⟨rfl, ⟨hnl, .inr ⟨g, c, _, rfl, hB, r1, by omega, hcm, ?_, ?_⟩⟩, r2⟩
    · rw [List.size_toArray, List.length_append, List.length_append, List.length_take, List.length_drop, show zeroE.length = 6 from rfl, hcl, hsz]
      omega
    · show (cur.toList.take (L.length * 6) ++ zeroE ++ cur.toList.drop (L.length * 6 + 6)).toArray.toList.take (L.length * 6) = L.flatMap totC
      rw [List.append_assoc, ← ht2]
      have hlen : (cur.toList.take (L.length * 6)).length = L.length * 6 := by rw [List.length_take, hcl, hsz]; omega
      show ((cur.toList.take (L.length * 6)) ++ (zeroE ++ cur.toList.drop (L.length * 6 + 6))).take (L.length * 6) = _
      rw [List.take_append_of_le_length (by omega), List.take_of_length_le (by omega)]
end Go.Proofs.Ytfdgfeohmkdnoaa

/-
  Layer 26: the program's Read.
-/
--import Derived.Test.Zdbg
namespace Go.Proofs.Ytfdgfeohmkdnoaa
set_option linter.unusedSimpArgs false
set_option linter.unusedVariables false
open Go.RowKit Go.WideShapes Go.ChangeShapes Go.ChangeAt Go.Deep
/-- what the head's numbers are -/
theorem hd_all (kp : Int) (t : List UInt8) : ∃ (x o n : Nat) (k1 k2 k3 : Bool) (l1 l2 l3 : List UInt8), x = vN true t 5 ∧ k1 = (true && decide (5 ≤ t.length)) ∧ l1 = t.drop 5 ∧ o = vN k1 l1 1 ∧ k2 = (k1 && decide (1 ≤ l1.length)) ∧ l2 = l1.drop 1 ∧ n = vN k2 l2 1 ∧ k3 = (k2 && decide (1 ≤ l2.length)) ∧ l3 = l2.drop 1 ∧ x < 1099511627776 ∧ o < 256 ∧ n < 256 ∧
    (k3 = true → hdOk kp x o n → shR kp t = (rdT (n + o) l3 []).map fun z => (mkSh kp x o n z.1, z.2)) ∧ (k3 = false → shR kp t = none) ∧ (¬ hdOk kp x o n → shR kp t = none) := by
  refine ⟨_, _, _, _, _, _, _, _, _, rfl, rfl, rfl, rfl, rfl, rfl, rfl, rfl, rfl, vN_lt _ _ _, vN_lt _ _ _, vN_lt _ _ _, ?_⟩
  by_cases h : 7 ≤ t.length
  · have e1 : decide (5 ≤ t.length) = true := decide_eq_true (by omega)
    have e2 : decide (1 ≤ (t.drop 5).length) = true := decide_eq_true (by rw [List.length_drop]; omega)
    have e3 : decide (1 ≤ ((t.drop 5).drop 1).length) = true := decide_eq_true (by rw [List.length_drop, List.length_drop]; omega)
    rw [e1, e2, e3]
    simp only [Bool.and_self]
    have one : ∀ j, j < t.length → getN ((t.drop j).take 1) = (t.getD j 0).toNat := fun j hj => by
      have e9 : (t.drop j).take 1 = [t[j]] := by rw [List.drop_eq_getElem_cons hj]; rfl
      rw [e9, show t.getD j 0 = t[j] by simp [List.getD, hj]]
      simp [getN]
    have a1 : vN true t 5 = hdN t := if_pos ⟨rfl, by omega⟩
    have a2 : vN true (t.drop 5) 1 = hdO t := by rw [show vN true (t.drop 5) 1 = getN ((t.drop 5).take 1) from if_pos ⟨rfl, by rw [List.length_drop]; omega⟩, one 5 (by omega)]; rfl
    have a3 : vN true ((t.drop 5).drop 1) 1 = hdL t := by rw [show vN true ((t.drop 5).drop 1) 1 = getN (((t.drop 5).drop 1).take 1) from if_pos ⟨rfl, by rw [List.length_drop, List.length_drop]; omega⟩, List.drop_drop, one 6 (by omega)]; rfl
    rw [a1, a2, a3, List.drop_drop, List.drop_drop]
    refine ⟨fun _ hc => if_pos ⟨h, hc⟩, (fun hf => by cases hf), fun hn => if_neg (fun hh => hn hh.2)⟩
  · have e : (true && decide (5 ≤ t.length) && decide (1 ≤ (t.drop 5).length) && decide (1 ≤ ((t.drop 5).drop 1).length)) = false := by
      simp
      omega
    rw [e]
    have hn : shR kp t = none := if_neg (fun hh => h hh.1)
    exact ⟨(fun hf => by cases hf), fun _ => hn, fun _ => hn⟩
theorem RQ.drew {W : World} {p : Nat} {ok : Bool} {l : List UInt8} (h : RQ W p ok l) : RQ W.drew p ok l := by
  obtain ⟨s, h1, h2⟩ := h
  exact ⟨s, ⟨h1.row⟩, h2⟩
theorem le600 {n o m : Nat} (hn : n < 256) (ho : o < 256) (h : n + o = m) : m ≤ 600 := by omega
def ShRdIs (kp : Int) (r : Nat) (t : List UInt8) (w : World) (e : Ending) (w' : World) : Prop :=
  ((shR kp t = none ∧ e = .returned (.tuple #[.pointer none, .int .i64 4])) ∨ ∃ (M : ShM) (rest : List UInt8) (p : Nat) (V : Value), shR kp t = some (M, rest) ∧ e = .returned (.tuple #[.pointer (some ⟨p, 0, none⟩), .int .i64 0]) ∧ ShIs w' w.heap.size p M V ∧ RQ w' r true rest) ∧ Only r w w'
set_option maxRecDepth 100000 in
set_option maxHeartbeats 8000000 in
theorem shread_any (kp : Int) (hkp : 1 ≤ kp ∧ kp ≤ 64) (r : Nat) (t : List UInt8) (w : World) (h : RQ w r true t) :
    Calls Try.prog 24 #[.pointer (some ⟨r, 0, none⟩), .int .i64 kp] w (ShRdIs kp r t w) := by
  obtain ⟨i0, hi, hz0, hz1, hz2⟩ := info_parts (show (Try.prog.info? 43).map (fun i => (i.zero, i.size, i.bytes)) = some (some (.agg #[.int .i64 0, .int .i64 0, .int .i64 0, .int .i64 0, .int .i64 0, .int .i64 0]), 6, 48) by kernel_rfl)
  have HI := hide hi
  have HZ0 := hide hz0
  have HZ1 := hide hz1
  have HZ2 := hide hz2
  clear hi hz0 hz1 hz2
  obtain ⟨s0, hrd, hs0, hz⟩ := h
  have hs := hs0 rfl
  subst hs
  rw [show (!true) = false from rfl] at hrd
  have R0 := hide hrd
  have HLT := hide (heap_lt hrd.row)
  have HZ := hide hz
  have HKP := hide hkp
  have HSOK := hide (fun M r h => @shR_ok kp hkp t M r h)
  have HNEW := hide (fun W => shnew_ok kp hkp.1 hkp.2 W)
  clear hs0 hz hrd
  go_enter Try.func24, Try.ntmps24
  go_wp2_with fail
  refine (HNEW.out _).mono ?_
  rintro e w1 ⟨rfl, hS, hb⟩
  have NA := hide (show w1.heap[w.heap.size]? = some (.cells #[.int .i64 kp, .int .i64 1, .bool false, .int .i64 0, .int .i64 0, .int .i64 0, .int .i64 0, .int .i64 0, .int .i64 0, .slice none 0 0] 86 (0, 0)) from hS.head)
  have R1 := hide (R0.out.below hb)
  have B1 := hide hb
  obtain ⟨p, hp⟩ : ∃ p, w.heap.size = p := ⟨_, rfl⟩
  rw [hp] at NA ⊢
  have HPB := hide (show w.heap.size ≤ p from by omega)
  clear hS hb hp HNEW hkp
  have R00 := hide R0.out
  clear R0
  go_wp2_with fail
  refine (wrong_any r (bs t) false w1 R1.out).mono ?_
  rintro e w2 ⟨rfl, rfl⟩
  obtain ⟨e0, e1, g0, g1⟩ := R1.out.cells
  have hal := (Below.refl w1.heap.size w1).alloc (Nat.le_refl _) (.cells #[.string (bs t), .bool false] 104)
  have Q1 := hide (show RQ (w1.alloc (.cells #[.string (bs t), .bool false] 104)) w1.heap.size true t from ⟨bs t, RdAt.new w1 (bs t), fun _ => rfl, HZ.out⟩)
  have NB := hide ((hal.block _ (heap_lt NA.out)).trans NA.out)
  have B2 := hide (B1.out.trans (hal.mono B1.out.size))
  have HPH := hide (show w1.heap.size ≠ p from by have := heap_lt NA.out; omega)
  have HHB := hide (show w.heap.size ≤ w1.heap.size from B1.out.size)
  clear hal
  go_upto_region 7 with (fail)
  generalize w1.alloc (.cells #[.string (bs t), .bool false] 104) = w2 at *
  obtain ⟨hd, hh⟩ : ∃ k, w1.heap.size = k := ⟨_, rfl⟩
  rw [hh] at Q1 HPH HHB ⊢
  clear hh e0 e1 g0 g1 NA B1
  obtain ⟨x, o, n, k1, k2, k3, l1, l2, l3, ex, ek1, el1, eo, ek2, el2, en, ek3, el3, hx, ho, hn, hyes, hno3, hno⟩ := hd_all kp t
  have HN1 := hide (fun W h => rq_number hd true t 5 (by decide) (by decide) W h)
  have HN2 := hide (fun W h => rq_number hd k1 l1 1 (by decide) (by decide) W h)
  have HN3 := hide (fun W h => rq_number hd k2 l2 1 (by decide) (by decide) W h)
  unfold RNIs at HN1 HN2 HN3
  rw [← ex, ← ek1, ← el1] at HN1
  rw [← eo, ← ek2, ← el2] at HN2
  rw [← en, ← ek3, ← el3] at HN3
  have HYES := hide hyes
  have HNO3 := hide hno3
  have HNO := hide hno
  clear ex ek1 el1 eo ek2 el2 en ek3 el3 hyes hno3 hno
  have hx1 : IntKind.i64.wrap (x : Int) = (x : Int) := by rw [IntKind.wrap_i64]; omega
  have hx2 : wrap64 (x : Int) = (x : Int) := by unfold wrap64; omega
  have ho1 : IntKind.i64.wrap (o : Int) = (o : Int) := by rw [IntKind.wrap_i64]; omega
  have ho2 : wrap64 (o : Int) = (o : Int) := by unfold wrap64; omega
  have hn1 : IntKind.i64.wrap (n : Int) = (n : Int) := by rw [IntKind.wrap_i64]; omega
  have hn2 : wrap64 (n : Int) = (n : Int) := by unfold wrap64; omega
  go_wp2_with fail
  refine (HN1.out _ Q1.out).mono ?_
  rintro e w3 ⟨rfl, hq, ho⟩
  have NB3 := hide ((ho.block _ (heap_lt NB.out) HPH.out.symm).trans NB.out)
  have Q3 := hide hq
  have B3 := hide (ho.below B2.out HHB.out B2.out.size)
  clear hq ho NB Q1 B2 HN1
  have c1 : w3.cell? ⟨p, 1, none⟩ = some (.int .i64 1) := cell_of_block NB3.out 1
  have f1 : w3.frozen? ⟨p, 1, none⟩ = false := frozen_of_block NB3.out 1
  go_upto_region 8 with (fail)
  have NC := hide (show (w3.setCell ⟨p, 1, none⟩ (.int .i64 (x : Int))).heap[p]? = some (.cells #[.int .i64 kp, .int .i64 (x : Int), .bool false, .int .i64 0, .int .i64 0, .int .i64 0, .int .i64 0, .int .i64 0, .int .i64 0, .slice none 0 0] 86 (0, 0)) from block_setCell NB3.out 1 (.int .i64 (x : Int)))
  have Q4 := hide (Q3.out.other HPH.out.symm 1 (.int .i64 (x : Int)))
  have B4 := hide (B3.out.setCell (p := ⟨p, 1, none⟩) HPB.out (.int .i64 (x : Int)))
  clear c1 f1 NB3 Q3 B3
  generalize w3.setCell ⟨p, 1, none⟩ (.int .i64 (x : Int)) = w4 at *
  go_wp2_with fail
  refine (HN2.out _ Q4.out).mono ?_
  rintro e w5 ⟨rfl, hq, ho⟩
  have ND := hide ((ho.block _ (heap_lt NC.out) HPH.out.symm).trans NC.out)
  have Q5 := hide hq
  have B5 := hide (ho.below B4.out HHB.out B4.out.size)
  clear hq ho NC Q4 B4 HN2
  go_wp2_with fail
  refine (HN3.out _ Q5.out).mono ?_
  rintro e w6 ⟨rfl, hq, ho⟩
  have N6 := hide ((ho.block _ (heap_lt ND.out) HPH.out.symm).trans ND.out)
  have Q6 := hide hq
  have B6 := hide (ho.below B5.out HHB.out B5.out.size)
  clear hq ho ND Q5 B5 HN3
  have B5 := hide B6.out
  have c1 : w6.cell? ⟨p, 1, none⟩ = some (.int .i64 (x : Int)) := cell_of_block N6.out 1
  have c2 : w6.cell? ⟨p, 2, none⟩ = some (.bool false) := cell_of_block N6.out 2
  have f2 : w6.frozen? ⟨p, 2, none⟩ = false := frozen_of_block N6.out 2
  have hs1 : IntKind.i64.wrap ((x : Int) - 1) = (x : Int) - 1 := by rw [IntKind.wrap_i64]; omega
  have hs2 : wrap64 ((x : Int) - 1) = (x : Int) - 1 := by unfold wrap64; omega
  have hs3 : IntKind.i64.wrap ((x : Int) - 1 - (o : Int)) = (x : Int) - 1 - (o : Int) := by rw [IntKind.wrap_i64]; omega
  have hs4 : wrap64 ((x : Int) - 1 - (o : Int)) = (x : Int) - 1 - (o : Int) := by unfold wrap64; omega
  by_cases q0 : (x : Int) < 1
  · have g0 : decide ((x : Int) < 1) = true := decide_eq_true q0
    have HNN := hide (HNO.out (fun hh => by obtain ⟨z1, z2, z3, z4, z5⟩ := hh; omega))
    clear q0 HNO HYES
    go_wp2_with fail
    go_ret2
    exact ⟨.inl ⟨HNN.out, rfl⟩, .of_below B5.out⟩
  have g0 : decide ((x : Int) < 1) = false := decide_eq_false q0
  by_cases q1 : (x : Int) > 4294967296
  · have g1 : decide ((x : Int) > 4294967296) = true := decide_eq_true q1
    have HNN := hide (HNO.out (fun hh => by obtain ⟨z1, z2, z3, z4, z5⟩ := hh; omega))
    clear q0 q1 HNO HYES
    go_wp2_with fail
    go_ret2
    exact ⟨.inl ⟨HNN.out, rfl⟩, .of_below B5.out⟩
  have g1 : decide ((x : Int) > 4294967296) = false := decide_eq_false q1
  by_cases q2 : (o : Int) > 1
  · have g2 : decide ((o : Int) > 1) = true := decide_eq_true q2
    have HNN := hide (HNO.out (fun hh => by obtain ⟨z1, z2, z3, z4, z5⟩ := hh; omega))
    clear q0 q1 q2 HNO HYES
    go_wp2_with fail
    go_ret2
    exact ⟨.inl ⟨HNN.out, rfl⟩, .of_below B5.out⟩
  have g2 : decide ((o : Int) > 1) = false := decide_eq_false q2
  by_cases q3 : (n : Int) > kp
  · have g3 : decide ((n : Int) > kp) = true := decide_eq_true q3
    have HNN := hide (HNO.out (fun hh => by obtain ⟨z1, z2, z3, z4, z5⟩ := hh; omega))
    clear q0 q1 q2 q3 HNO HYES
    go_wp2_with fail
    go_ret2
    exact ⟨.inl ⟨HNN.out, rfl⟩, .of_below B5.out⟩
  have g3 : decide ((n : Int) > kp) = false := decide_eq_false q3
  by_cases q4 : (n : Int) > (x : Int) - 1 - (o : Int)
  · have g4 : decide ((n : Int) > (x : Int) - 1 - (o : Int)) = true := decide_eq_true q4
    have HNN := hide (HNO.out (fun hh => by obtain ⟨z1, z2, z3, z4, z5⟩ := hh; omega))
    clear q0 q1 q2 q3 q4 HNO HYES
    go_wp2_with fail
    go_ret2
    exact ⟨.inl ⟨HNN.out, rfl⟩, .of_below B5.out⟩
  have g4 : decide ((n : Int) > (x : Int) - 1 - (o : Int)) = false := decide_eq_false q4
  by_cases q5 : (x : Int) - 1 < (o : Int)
  · have g5 : decide ((x : Int) - 1 < (o : Int)) = true := decide_eq_true q5
    have HNN := hide (HNO.out (fun hh => by obtain ⟨z1, z2, z3, z4, z5⟩ := hh; omega))
    clear q0 q1 q2 q3 q4 q5 HNO HYES
    go_wp2_with fail
    go_ret2
    exact ⟨.inl ⟨HNN.out, rfl⟩, .of_below B5.out⟩
  have g5 : decide ((x : Int) - 1 < (o : Int)) = false := decide_eq_false q5
  have hok : hdOk kp x o n := ⟨by omega, by omega, by omega, by omega, by omega⟩
  have HY2 := hide (fun h => HYES.out h hok)
  have HOK := hide hok
  clear HYES HNO hok
  obtain ⟨ob, hob⟩ : ∃ b, ((o : Int) == 1) = b := ⟨_, rfl⟩
  obtain ⟨m, hm⟩ : ∃ m : Nat, n + o = m := ⟨_, rfl⟩
  have hm1 : IntKind.i64.wrap ((n : Int) + (o : Int)) = (m : Int) := by rw [IntKind.wrap_i64]; omega
  have hm2 : wrap64 ((n : Int) + (o : Int)) = (m : Int) := by unfold wrap64; omega
  rw [hm] at HY2
  have HM := hide hm
  have HMB := hide (le600 hn ho hm)
  have HOBE := hide hob
  clear hm q0 q1 q2 q3 q4 q5 hx ho hn
  go_upto_region 13 with (fail)
  have N7 := hide (show (w6.setCell ⟨p, 2, none⟩ (.bool ob)).heap[p]? = some (.cells #[.int .i64 kp, .int .i64 (x : Int), .bool ob, .int .i64 0, .int .i64 0, .int .i64 0, .int .i64 0, .int .i64 0, .int .i64 0, .slice none 0 0] 86 (0, 0)) from block_setCell N6.out 2 (.bool ob))
  have Q7 := hide (Q6.out.other HPH.out.symm 2 (.bool ob))
  have B7 := hide (B6.out.setCell (p := ⟨p, 2, none⟩) HPB.out (.bool ob))
  clear c1 c2 f2 N6 Q6 B6 B5 hob hx1 hx2 ho1 ho2 hn1 hn2 hs1 hs2 hs3 hs4 g0 g1 g2 g3 g4 g5
  generalize w6.setCell ⟨p, 2, none⟩ (.bool ob) = w7 at *
  obtain ⟨ff, hff⟩ : ∃ ff : List TotM × List UInt8 → ShM × List UInt8, ff = fun z => (mkSh kp x o n z.1, z.2) := ⟨_, rfl⟩
  rw [← hff] at HY2
  have HFF := hide hff
  clear hff
  go_wp2_with fail
  clear hm1 hm2
  go_loopw [84] (fun i W => ∃ (k : Nat) (M : List TotM) (a : Option Addr) (cp : Nat) (ok : Bool) (l : List UInt8), k ≤ m ∧ i = .int .i64 k ∧ M.length = k ∧ W.heap[p]? = some (.cells #[.int .i64 kp, .int .i64 (x : Int), .bool ob, .int .i64 0, .int .i64 0, .int .i64 0, .int .i64 0, .int .i64 0, .int .i64 0, .slice a k cp] 86 (0, 0)) ∧ W.ownsRow w.heap.size 43 6 (.slice a k cp) k (M.flatMap totC) ∧ RQ W hd ok l ∧ (ok = true → shR kp t = (rdT (m - k) l M).map ff) ∧ (ok = false → shR kp t = none) ∧ Below w.heap.size w W) (fun i _ => m - (Go.RowKit.intOf i).toNat)
  case atStart => exact ⟨0, [], none, 0, k3, l3, by omega, rfl, rfl, N7.out, World.ownsRow_nil _ _ _ _, Q7.out, HY2.out, HNO3.out, B7.out⟩
  case round =>
    obtain ⟨k, M, a, cp, ok, l, hk, rfl, hML, hN, hO, hq, hy, hno, hb⟩ := hrel
    have NM := hide hN
    have OM := hide hO
    have QM := hide hq
    have BM := hide hb
    have HYM := hide hy
    have HNM := hide hno
    have HML := hide hML
    clear hN hO hq hb hy hno hML N7 Q7 B7 HY2 HNO3
    have HRT := hide (fun W h => readTot_any hd ok l W h)
    unfold RTotIs at HRT
    by_cases hlt : k < m
    · have HLTM := hide hlt
      have HK5 := hide (show k ≤ 600 from by have := HMB.out; omega)
      have HTV := hide (show ok = true → 44 ≤ l.length → rtV ok l = totR l from fun h1 h2 => by rw [h1]; exact rtV_yes h2)
      have hbd : IntKind.i64.wrap ((k : Int) + 1) = (k : Int) + 1 := by rw [IntKind.wrap_i64]; have := HK5.out; omega
      go_wp2_with fail
      refine (HRT.out _ QM.out).mono ?_
      rintro e w5 ⟨rfl, hq, ho⟩
      have N5 := hide ((ho.block _ (heap_lt NM.out) HPH.out.symm).trans NM.out)
      have O5 := hide (owns_lonely OM.out (OnlyL.of_only ho (List.mem_singleton.2 rfl)) (fun g hg hm => by
        rw [List.mem_singleton.1 hm] at hg
        obtain ⟨c', fz', hc⟩ := Go.Lib.ownsRow_kind OM.out hd hg
        obtain ⟨s', q1, -⟩ := QM.out
        rw [q1.row] at hc
        simp only [Option.some.injEq, Obj.cells.injEq] at hc
        exact absurd hc.2.1 (by decide)))
      have Q5 := hide hq
      have B5 := hide (ho.below BM.out HHB.out BM.out.size)
      clear hq ho NM OM QM BM HRT
      obtain ⟨T, hT⟩ : ∃ T, rtV ok l = T := ⟨_, rfl⟩
      rw [hT] at HTV ⊢
      obtain ⟨tc, ts, tv, tr, ti, tx⟩ := T
      have HTB := hide (show ∀ b, totB ⟨tc, ts, tv, tr, ti, tx⟩ = b → totB ⟨tc, ts, tv, tr, ti, tx⟩ = b from fun _ h => h)
      generalize hbb : totB ⟨tc, ts, tv, tr, ti, tx⟩ = bb at *
      have HBB := hide hbb
      unfold totV
      dsimp only
      clear hbb hT HTB
      have XB := hide (heap_new w5 (.cells #[.int .i64 0, .int .i64 0, .int .i64 0, .int .i64 0, .int .i64 0, .int .i64 0] 43))
      go_upto_region 16 with (refine rw_store rfl 43 (.tmp 11) (.tmp 88) rfl w5.heap.size rfl #[.int .i64 tc, .int .i64 ts, .int .i64 tv, .int .i64 tr, .int .i64 ti, .int .i64 tx] rfl _ XB.out (by kernel_rfl) rfl (by simp [Value.oneCell']) ?_)
      have hal := (Below.refl w5.heap.size w5).alloc (Nat.le_refl _) (.cells #[.int .i64 0, .int .i64 0, .int .i64 0, .int .i64 0, .int .i64 0, .int .i64 0] 43)
      have ho := setRow_only (w5.alloc (.cells #[.int .i64 0, .int .i64 0, .int .i64 0, .int .i64 0, .int .i64 0, .int .i64 0] 43)) w5.heap.size (#[.int .i64 tc, .int .i64 ts, .int .i64 tv, .int .i64 tr, .int .i64 ti, .int .i64 tx] : Array Value)
      have XN6 := hide (setRow_same (cs := (#[.int .i64 tc, .int .i64 ts, .int .i64 tv, .int .i64 tr, .int .i64 ti, .int .i64 tx] : Array Value)) XB.out)
      have HNP := hide (show w5.heap.size ≠ p from by have := heap_lt N5.out; omega)
      have HNH := hide (show hd ≠ w5.heap.size from by have := Q5.out.lt; omega)
      have HNB := hide (show w.heap.size ≤ w5.heap.size from B5.out.size)
      have HOB := hide (show ∀ g, (Value.slice a k cp).ownBlock = some g → g ≠ w5.heap.size from fun g hg => by have := (O5.out.lt g hg).2; omega)
      have N6 := hide ((ho.block _ (heap_lt ((hal.block _ (heap_lt N5.out)).trans N5.out)) HNP.out.symm).trans ((hal.block _ (heap_lt N5.out)).trans N5.out))
      have O6 := hide (owns_lonely (owns_below O5.out hal) (OnlyL.of_only ho (List.mem_singleton.2 rfl)) (fun g hg hm => HOB.out g hg (List.mem_singleton.1 hm)))
      have Q6 := hide ((Q5.out.below hal).only ho HNH.out)
      have B6 := hide (setRow_below (B5.out.trans (hal.mono B5.out.size)) HNB.out (B5.out.trans (hal.mono B5.out.size)).size (#[.int .i64 tc, .int .i64 ts, .int .i64 tv, .int .i64 tr, .int .i64 ti, .int .i64 tx] : Array Value))
      clear hal ho N5 O5 Q5 B5 XB
      generalize (w5.alloc (.cells #[.int .i64 0, .int .i64 0, .int .i64 0, .int .i64 0, .int .i64 0, .int .i64 0] 43)).setRow w5.heap.size (#[.int .i64 tc, .int .i64 ts, .int .i64 tv, .int .i64 tr, .int .i64 ti, .int .i64 tx] : Array Value) = w6 at *
      generalize w5.heap.size = nb at *
      obtain ⟨k', hk'⟩ : ∃ k', m - k = k' + 1 := ⟨m - k - 1, by omega⟩
      rw [hk'] at HYM
      have HK := hide hk'
      clear hk' hlt
      cases bb
      · have HNN := hide (show shR kp t = none from by
          cases ok with
          | false => exact HNM.out rfl
          | true =>
            rw [HYM.out rfl, rdT_no (fun hh => by rw [← HTV.out rfl hh.1, HBB.out] at hh; cases hh.2)]
            rfl)
        go_wp2_with fail
        go_ret2
        exact ⟨.inl ⟨HNN.out, rfl⟩, .of_below B6.out⟩
      · have HYN := hide (show (ok && decide (44 ≤ l.length)) = true → shR kp t = (rdT k' (l.drop 44) (M ++ [TotM.mk tc ts tv tr ti tx])).map ff from fun hh => by
          rw [Bool.and_eq_true, decide_eq_true_eq] at hh
          obtain ⟨h1, h2⟩ := hh
          have h3 := HTV.out h1 h2
          have h4 := HBB.out
          rw [h3] at h4 ⊢
          rw [HYM.out h1, rdT_yes ⟨h2, h4⟩])
        have HNN := hide (show (ok && decide (44 ≤ l.length)) = false → shR kp t = none from fun hh => by
          cases ok with
          | false => exact HNM.out rfl
          | true =>
            rw [Bool.true_and, decide_eq_false_iff_not] at hh
            rw [HYM.out rfl, rdT_no (fun h2 => hh h2.1)]
            rfl)
        clear HYM HNM HTV HBB
        go_upto_region 18 with (fail)
        have N0 := hide (show w6.drew.heap[p]? = some (.cells #[.int .i64 kp, .int .i64 (x : Int), .bool ob, .int .i64 0, .int .i64 0, .int .i64 0, .int .i64 0, .int .i64 0, .int .i64 0, .slice a k cp] 86 (0, 0)) from N6.out)
        have XN0 := hide (show w6.drew.heap[nb]? = some (.cells #[.int .i64 tc, .int .i64 ts, .int .i64 tv, .int .i64 tr, .int .i64 ti, .int .i64 tx] 43 (0, 0)) from XN6.out)
        have OW0 := hide (show w6.drew.ownsRow w.heap.size 43 6 (.slice a k cp) k (M.flatMap totC) from O6.out)
        have Q0 := hide (show RQ w6.drew hd (ok && decide (44 ≤ l.length)) (l.drop 44) from Q6.out.drew)
        have B0 := hide B6.out.drew
        clear N6 XN6 O6 Q6 B6
        generalize (ok && decide (44 ≤ l.length)) = ok' at *
        generalize l.drop 44 = l' at *
        refine wp_region_held_drew (S := (fun W => W.cell? ⟨nb, 0, none⟩ = some (.int .i64 tc) ∧ W.cell? ⟨nb, 1, none⟩ = some (.int .i64 ts) ∧ W.cell? ⟨nb, 2, none⟩ = some (.int .i64 tv) ∧ W.cell? ⟨nb, 3, none⟩ = some (.int .i64 tr) ∧ W.cell? ⟨nb, 4, none⟩ = some (.int .i64 ti) ∧ W.cell? ⟨nb, 5, none⟩ = some (.int .i64 tx))) (by kernel_rfl) (six_cells XN0.out) (fun hHeld => ?_)
        generalize w6.drew = u0 at *
        refine wpAnyH_take (i := 0) (oi := { dst := some 92, op := Op.move (Operand.tmp 6), type := 23, pos := "shift.go:239", after := #[], guard := none }) (v := ?_) rfl (by kernel_rfl) (by kernel_rfl) (by kernel_rfl) (fun _ _ _ h => h) (Or.inl ⟨by kernel_rfl, ?_⟩) hHeld ?_
        rotate_left
        · (intro w hSw; (try dsimp only at hSw); go_simp); try with_reducible rfl
        try simp only [Act.put, List.setIfInBounds_toArray, List.set_cons_zero, List.set_cons_succ]
        refine wpAnyH_take (i := 1) (oi := { dst := some 93, op := Op.move (Operand.tmp 6), type := 23, pos := "shift.go:239", after := #[], guard := none }) (v := ?_) rfl (by kernel_rfl) (by kernel_rfl) (by kernel_rfl) (fun _ _ _ h => h) (Or.inl ⟨by kernel_rfl, ?_⟩) hHeld ?_
        rotate_left
        · (intro w hSw; (try dsimp only at hSw); go_simp); try with_reducible rfl
        try simp only [Act.put, List.setIfInBounds_toArray, List.set_cons_zero, List.set_cons_succ]
        refine wpAnyH_take (i := 2) (oi := { dst := some 94, op := Op.nilCheck (Operand.tmp 93), type := 0, pos := "shift.go:239", after := #[{ on := 1, ground := Ground.data }], guard := none }) (v := ?_) rfl (by kernel_rfl) (by kernel_rfl) (by kernel_rfl) (fun _ _ _ h => h) (Or.inl ⟨by kernel_rfl, ?_⟩) hHeld ?_
        rotate_left
        · (intro w hSw; (try dsimp only at hSw); go_simp); try with_reducible rfl
        try simp only [Act.put, List.setIfInBounds_toArray, List.set_cons_zero, List.set_cons_succ]
        refine wpAnyH_take (i := 3) (oi := { dst := some 95, op := Op.fieldAddr 86 (Operand.tmp 94) 4, type := 0, pos := "shift.go:239", after := #[{ on := 2, ground := Ground.data }], guard := none }) (v := ?_) rfl (by kernel_rfl) (by kernel_rfl) (by kernel_rfl) (fun _ _ _ h => h) (Or.inl ⟨by kernel_rfl, ?_⟩) hHeld ?_
        rotate_left
        · (intro w hSw; (try dsimp only at hSw); go_simp); try with_reducible rfl
        try simp only [Act.put, List.setIfInBounds_toArray, List.set_cons_zero, List.set_cons_succ]
        refine wpAnyH_take (i := 5) (oi := { dst := some 97, op := Op.load 43 (Operand.tmp 11), type := 43, pos := "shift.go:239", after := #[], guard := none }) (v := ?_) rfl (by kernel_rfl) (by kernel_rfl) (by kernel_rfl) (fun _ _ _ h => h) (Or.inl ⟨by kernel_rfl, ?_⟩) hHeld ?_
        rotate_left
        · (intro w hSw; (try dsimp only at hSw); go_simp); try with_reducible rfl
        try simp only [Act.put, List.setIfInBounds_toArray, List.set_cons_zero, List.set_cons_succ]
        refine wpAnyH_ready (rs := [4, 6]) (by kernel_rfl) (by simp) (AllReadyH.cons (o := { dst := some 96, op := Op.load 84 (Operand.tmp 95), type := 84, pos := "shift.go:239", after := #[{ on := 3, ground := Ground.data }], guard := none }) rfl (fun K hK => ?_) (AllReadyH.cons (o := { dst := some 98, op := Op.buildSlice 84 1 #[(0, Operand.tmp 97)], type := 84, pos := "shift.go:239", after := #[{ on := 5, ground := Ground.data }], guard := none }) rfl (fun K hK => ?_) AllReadyH.nil))
        · have hOld := hide hHeld
          clear hHeld
          have c9 := (sh_facts N0.out).1.2.2.2.2.2.2.2.2.2
          go_simp
          clear c9
          refine hK.out _ _ (six_cells XN0.out) (fun hHeld => ?_)
          clear hK K hOld
          try simp only [Act.put, List.setIfInBounds_toArray, List.set_cons_zero, List.set_cons_succ]
          refine wpAnyH_ready (rs := [6]) (by kernel_rfl) (by simp) (AllReadyH.cons (o := { dst := some 98, op := Op.buildSlice 84 1 #[(0, Operand.tmp 97)], type := 84, pos := "shift.go:239", after := #[{ on := 5, ground := Ground.data }], guard := none }) rfl (fun K hK => ?_) AllReadyH.nil)
          have hOld := hide hHeld
          clear hHeld
          go_simp
          obtain ⟨oz, hoz⟩ : ∃ oz, oz = Obj.cells #[.int .i64 tc, .int .i64 ts, .int .i64 tv, .int .i64 tr, .int .i64 ti, .int .i64 tx] 43 := ⟨_, rfl⟩
          try rw [← hoz]
          have hal := (Below.refl u0.heap.size u0).alloc (Nat.le_refl _) oz
          have XA1 := hide (heap_new u0 oz)
          have N1 := hide ((hal.block _ (heap_lt N0.out)).trans N0.out)
          have XN1 := hide ((hal.block _ (heap_lt XN0.out)).trans XN0.out)
          have OW1 := hide (owns_below OW0.out hal)
          have Q1 := hide (Q0.out.below hal)
          have B1 := hide (B0.out.trans (hal.mono B0.out.size))
          clear hal
          generalize u0.alloc oz = u1 at *
          generalize u0.heap.size = ab at *
          rw [hoz] at XA1
          clear hoz oz
          (try go_wp2_with fail)
          refine hK.out _ _ (six_cells XN1.out) (fun hHeld => ?_)
          clear hK K hOld
          try simp only [Act.put, List.setIfInBounds_toArray, List.set_cons_zero, List.set_cons_succ]
          refine wpAnyH_ready (rs := [7]) (by kernel_rfl) (by simp) (AllReadyH.cons (o := { dst := some 99, op := Op.call { callee := Callee.builtin Builtin.append, args := #[Operand.tmp 96, Operand.tmp 98], argTypes := #[84, 84] }, type := 84, pos := "shift.go:239", after := #[{ on := 4, ground := Ground.data }, { on := 6, ground := Ground.data }], guard := none }) rfl (fun K hK => ?_) AllReadyH.nil)
          have hOld := hide hHeld
          clear hHeld
          refine wp_append_own2 _ (.tmp 96) (.tmp 98) 84 rfl w.heap.size 43 i0 (.agg #[.int .i64 0, .int .i64 0, .int .i64 0, .int .i64 0, .int .i64 0, .int .i64 0]) 6 48 Try.underlying84 HI.out HZ0.out HZ1.out HZ2.out rfl (by decide) (.slice a k cp) k (M.flatMap totC) rfl OW1.out ⟨ab, 0, none⟩ 1 1 (by decide) [.int .i64 tc, .int .i64 ts, .int .i64 tv, .int .i64 tr, .int .i64 ti, .int .i64 tx] rfl rfl (six_at XA1.out) (totC_one ⟨tc, ts, tv, tr, ti, tx⟩) (by unfold maxLen; have := HK5.out; omega) (by have := HK5.out; omega) B1.out.size ?_
          intro g cap u2 ho hgr hge
          have N2 := hide (grown_stays OW1.out hgr N1.out (by decide))
          have B2 := hide (Below.grown B1.out hgr B1.out.size (fun j hj => (OW1.out.lt j hj).1))
          have Q2 := hide (Q1.out.keepsT (KeepsT.grown (Ts := [43]) OW1.out (by decide) hgr) (by decide))
          have OW2 := hide (show u2.ownsRow w.heap.size 43 6 (.slice (some ⟨g, 0, none⟩) (k + 1) cap) (k + 1) ((M ++ [TotM.mk tc ts tv tr ti tx]).flatMap totC) by rw [flat_snoc]; exact ho)
          have XN2 := hide (show u2.heap[nb]? = some (.cells #[.int .i64 tc, .int .i64 ts, .int .i64 tv, .int .i64 tr, .int .i64 ti, .int .i64 tx] 43 (0, 0)) from (hgr.block _ (heap_lt XN1.out) (fun e => HOB.out _ e.symm rfl)).trans XN1.out)
          clear ho hgr hge
          refine hK.out _ _ (six_cells XN2.out) (fun hHeld => ?_)
          clear hK K hOld
          try simp only [Act.put, List.setIfInBounds_toArray, List.set_cons_zero, List.set_cons_succ]
          refine wpAnyH_take (i := 8) (oi := { dst := some 100, op := Op.nilCheck (Operand.tmp 92), type := 0, pos := "shift.go:239", after := #[{ on := 0, ground := Ground.data }, { on := 0, ground := Ground.phase }, { on := 1, ground := Ground.phase }, { on := 2, ground := Ground.phase }, { on := 3, ground := Ground.phase }, { on := 4, ground := Ground.phase }, { on := 5, ground := Ground.phase }, { on := 6, ground := Ground.phase }, { on := 7, ground := Ground.phase }], guard := none }) (v := ?_) rfl (by kernel_rfl) (by kernel_rfl) (by kernel_rfl) (fun _ _ _ h => h) (Or.inl ⟨by kernel_rfl, ?_⟩) hHeld ?_
          rotate_left
          · (intro w hSw; (try dsimp only at hSw); go_simp); try with_reducible rfl
          try simp only [Act.put, List.setIfInBounds_toArray, List.set_cons_zero, List.set_cons_succ]
          refine wpAnyH_take (i := 9) (oi := { dst := some 101, op := Op.fieldAddr 86 (Operand.tmp 100) 4, type := 0, pos := "shift.go:239", after := #[{ on := 8, ground := Ground.data }, { on := 0, ground := Ground.phase }, { on := 1, ground := Ground.phase }, { on := 2, ground := Ground.phase }, { on := 3, ground := Ground.phase }, { on := 4, ground := Ground.phase }, { on := 5, ground := Ground.phase }, { on := 6, ground := Ground.phase }, { on := 7, ground := Ground.phase }], guard := none }) (v := ?_) rfl (by kernel_rfl) (by kernel_rfl) (by kernel_rfl) (fun _ _ _ h => h) (Or.inl ⟨by kernel_rfl, ?_⟩) hHeld ?_
          rotate_left
          · (intro w hSw; (try dsimp only at hSw); go_simp); try with_reducible rfl
          try simp only [Act.put, List.setIfInBounds_toArray, List.set_cons_zero, List.set_cons_succ]
          refine wpAnyH_ready (rs := [10]) (by kernel_rfl) (by simp) (AllReadyH.cons (o := { dst := none, op := Op.store 84 (Operand.tmp 101) (Operand.tmp 99), type := 0, pos := "shift.go:239", after := #[{ on := 9, ground := Ground.data }, { on := 7, ground := Ground.data }, { on := 7, ground := Ground.chain }, { on := 0, ground := Ground.phase }, { on := 1, ground := Ground.phase }, { on := 2, ground := Ground.phase }, { on := 3, ground := Ground.phase }, { on := 4, ground := Ground.phase }, { on := 5, ground := Ground.phase }, { on := 6, ground := Ground.phase }, { on := 7, ground := Ground.phase }], guard := none }) rfl (fun K hK => ?_) AllReadyH.nil)
          have hOld := hide hHeld
          clear hHeld
          obtain ⟨⟨c0, c1, c2, c3, c4, c5, c6, c7, c8, c9⟩, ⟨f0, f1, f2, f3, f4, f5, f6, f7, f8, f9⟩⟩ := sh_facts N2.out
          have HGP := hide (show g ≠ p from fun e => by
            obtain ⟨c', fz', hc⟩ := Go.Lib.ownsRow_kind OW2.out g rfl
            rw [e, N2.out] at hc
            simp only [Option.some.injEq, Obj.cells.injEq] at hc
            exact absurd hc.2.1 (by decide))
          have N3 := hide (show (u2.setCell ⟨p, 9, none⟩ (.slice (some ⟨g, 0, none⟩) (k + 1) cap)).heap[p]? = some (.cells #[.int .i64 kp, .int .i64 x, .bool ob, .int .i64 0, .int .i64 0, .int .i64 0, .int .i64 0, .int .i64 0, .int .i64 0, .slice (some ⟨g, 0, none⟩) (k + 1) cap] 86 (0, 0)) from block_setCell N2.out 9 (.slice (some ⟨g, 0, none⟩) (k + 1) cap))
          have B3 := hide (B2.out.setCell (p := ⟨p, 9, none⟩) HPB.out (.slice (some ⟨g, 0, none⟩) (k + 1) cap))
          have XN3 := hide ((block_setCell_other HNP.out.symm 9 (.slice (some ⟨g, 0, none⟩) (k + 1) cap)).trans XN2.out)
          have Q3 := hide (Q2.out.other HPH.out.symm 9 (.slice (some ⟨g, 0, none⟩) (k + 1) cap))
          have OW3 := hide (owns_setOther OW2.out HGP.out 9 (.slice (some ⟨g, 0, none⟩) (k + 1) cap))
          go_simp
          clear c0 c1 c2 c3 c4 c5 c6 c7 c8 c9 f0 f1 f2 f3 f4 f5 f6 f7 f8 f9
          generalize u2.setCell ⟨p, 9, none⟩ (.slice (some ⟨g, 0, none⟩) (k + 1) cap) = u3 at *
          refine hK.out _ _ (six_cells XN3.out) (fun hHeld => ?_)
          clear hK K hOld
          try simp only [Act.put, List.setIfInBounds_toArray, List.set_cons_zero, List.set_cons_succ]
          refine wpAnyH_done (by kernel_rfl) ?_ _
          clear hHeld
          go_wp2_with fail
          go_roundw
          case rel => exact ⟨k + 1, _, some ⟨g, 0, none⟩, cap, ok', l', HLTM.out, by go_num, by rw [List.length_append, HML.out]; rfl, N3.out, OW3.out, Q3.out, by rw [show m - (k + 1) = k' by have := HK.out; omega]; exact HYN.out, HNN.out, B3.out⟩
          case measure => have := HLTM.out; simp [Go.RowKit.intOf]; omega
        · have hOld := hide hHeld
          clear hHeld
          go_simp
          obtain ⟨oz, hoz⟩ : ∃ oz, oz = Obj.cells #[.int .i64 tc, .int .i64 ts, .int .i64 tv, .int .i64 tr, .int .i64 ti, .int .i64 tx] 43 := ⟨_, rfl⟩
          try rw [← hoz]
          have hal := (Below.refl u0.heap.size u0).alloc (Nat.le_refl _) oz
          have XA1 := hide (heap_new u0 oz)
          have N1 := hide ((hal.block _ (heap_lt N0.out)).trans N0.out)
          have XN1 := hide ((hal.block _ (heap_lt XN0.out)).trans XN0.out)
          have OW1 := hide (owns_below OW0.out hal)
          have Q1 := hide (Q0.out.below hal)
          have B1 := hide (B0.out.trans (hal.mono B0.out.size))
          clear hal
          generalize u0.alloc oz = u1 at *
          generalize u0.heap.size = ab at *
          rw [hoz] at XA1
          clear hoz oz
          (try go_wp2_with fail)
          refine hK.out _ _ (six_cells XN1.out) (fun hHeld => ?_)
          clear hK K hOld
          try simp only [Act.put, List.setIfInBounds_toArray, List.set_cons_zero, List.set_cons_succ]
          refine wpAnyH_ready (rs := [4]) (by kernel_rfl) (by simp) (AllReadyH.cons (o := { dst := some 96, op := Op.load 84 (Operand.tmp 95), type := 84, pos := "shift.go:239", after := #[{ on := 3, ground := Ground.data }], guard := none }) rfl (fun K hK => ?_) AllReadyH.nil)
          have hOld := hide hHeld
          clear hHeld
          have c9 := (sh_facts N1.out).1.2.2.2.2.2.2.2.2.2
          go_simp
          clear c9
          refine hK.out _ _ (six_cells XN1.out) (fun hHeld => ?_)
          clear hK K hOld
          try simp only [Act.put, List.setIfInBounds_toArray, List.set_cons_zero, List.set_cons_succ]
          refine wpAnyH_ready (rs := [7]) (by kernel_rfl) (by simp) (AllReadyH.cons (o := { dst := some 99, op := Op.call { callee := Callee.builtin Builtin.append, args := #[Operand.tmp 96, Operand.tmp 98], argTypes := #[84, 84] }, type := 84, pos := "shift.go:239", after := #[{ on := 4, ground := Ground.data }, { on := 6, ground := Ground.data }], guard := none }) rfl (fun K hK => ?_) AllReadyH.nil)
          have hOld := hide hHeld
          clear hHeld
          refine wp_append_own2 _ (.tmp 96) (.tmp 98) 84 rfl w.heap.size 43 i0 (.agg #[.int .i64 0, .int .i64 0, .int .i64 0, .int .i64 0, .int .i64 0, .int .i64 0]) 6 48 Try.underlying84 HI.out HZ0.out HZ1.out HZ2.out rfl (by decide) (.slice a k cp) k (M.flatMap totC) rfl OW1.out ⟨ab, 0, none⟩ 1 1 (by decide) [.int .i64 tc, .int .i64 ts, .int .i64 tv, .int .i64 tr, .int .i64 ti, .int .i64 tx] rfl rfl (six_at XA1.out) (totC_one ⟨tc, ts, tv, tr, ti, tx⟩) (by unfold maxLen; have := HK5.out; omega) (by have := HK5.out; omega) B1.out.size ?_
          intro g cap u2 ho hgr hge
          have N2 := hide (grown_stays OW1.out hgr N1.out (by decide))
          have B2 := hide (Below.grown B1.out hgr B1.out.size (fun j hj => (OW1.out.lt j hj).1))
          have Q2 := hide (Q1.out.keepsT (KeepsT.grown (Ts := [43]) OW1.out (by decide) hgr) (by decide))
          have OW2 := hide (show u2.ownsRow w.heap.size 43 6 (.slice (some ⟨g, 0, none⟩) (k + 1) cap) (k + 1) ((M ++ [TotM.mk tc ts tv tr ti tx]).flatMap totC) by rw [flat_snoc]; exact ho)
          have XN2 := hide (show u2.heap[nb]? = some (.cells #[.int .i64 tc, .int .i64 ts, .int .i64 tv, .int .i64 tr, .int .i64 ti, .int .i64 tx] 43 (0, 0)) from (hgr.block _ (heap_lt XN1.out) (fun e => HOB.out _ e.symm rfl)).trans XN1.out)
          clear ho hgr hge
          refine hK.out _ _ (six_cells XN2.out) (fun hHeld => ?_)
          clear hK K hOld
          try simp only [Act.put, List.setIfInBounds_toArray, List.set_cons_zero, List.set_cons_succ]
          refine wpAnyH_take (i := 8) (oi := { dst := some 100, op := Op.nilCheck (Operand.tmp 92), type := 0, pos := "shift.go:239", after := #[{ on := 0, ground := Ground.data }, { on := 0, ground := Ground.phase }, { on := 1, ground := Ground.phase }, { on := 2, ground := Ground.phase }, { on := 3, ground := Ground.phase }, { on := 4, ground := Ground.phase }, { on := 5, ground := Ground.phase }, { on := 6, ground := Ground.phase }, { on := 7, ground := Ground.phase }], guard := none }) (v := ?_) rfl (by kernel_rfl) (by kernel_rfl) (by kernel_rfl) (fun _ _ _ h => h) (Or.inl ⟨by kernel_rfl, ?_⟩) hHeld ?_
          rotate_left
          · (intro w hSw; (try dsimp only at hSw); go_simp); try with_reducible rfl
          try simp only [Act.put, List.setIfInBounds_toArray, List.set_cons_zero, List.set_cons_succ]
          refine wpAnyH_take (i := 9) (oi := { dst := some 101, op := Op.fieldAddr 86 (Operand.tmp 100) 4, type := 0, pos := "shift.go:239", after := #[{ on := 8, ground := Ground.data }, { on := 0, ground := Ground.phase }, { on := 1, ground := Ground.phase }, { on := 2, ground := Ground.phase }, { on := 3, ground := Ground.phase }, { on := 4, ground := Ground.phase }, { on := 5, ground := Ground.phase }, { on := 6, ground := Ground.phase }, { on := 7, ground := Ground.phase }], guard := none }) (v := ?_) rfl (by kernel_rfl) (by kernel_rfl) (by kernel_rfl) (fun _ _ _ h => h) (Or.inl ⟨by kernel_rfl, ?_⟩) hHeld ?_
          rotate_left
          · (intro w hSw; (try dsimp only at hSw); go_simp); try with_reducible rfl
          try simp only [Act.put, List.setIfInBounds_toArray, List.set_cons_zero, List.set_cons_succ]
          refine wpAnyH_ready (rs := [10]) (by kernel_rfl) (by simp) (AllReadyH.cons (o := { dst := none, op := Op.store 84 (Operand.tmp 101) (Operand.tmp 99), type := 0, pos := "shift.go:239", after := #[{ on := 9, ground := Ground.data }, { on := 7, ground := Ground.data }, { on := 7, ground := Ground.chain }, { on := 0, ground := Ground.phase }, { on := 1, ground := Ground.phase }, { on := 2, ground := Ground.phase }, { on := 3, ground := Ground.phase }, { on := 4, ground := Ground.phase }, { on := 5, ground := Ground.phase }, { on := 6, ground := Ground.phase }, { on := 7, ground := Ground.phase }], guard := none }) rfl (fun K hK => ?_) AllReadyH.nil)
          have hOld := hide hHeld
          clear hHeld
          obtain ⟨⟨c0, c1, c2, c3, c4, c5, c6, c7, c8, c9⟩, ⟨f0, f1, f2, f3, f4, f5, f6, f7, f8, f9⟩⟩ := sh_facts N2.out
          have HGP := hide (show g ≠ p from fun e => by
            obtain ⟨c', fz', hc⟩ := Go.Lib.ownsRow_kind OW2.out g rfl
            rw [e, N2.out] at hc
            simp only [Option.some.injEq, Obj.cells.injEq] at hc
            exact absurd hc.2.1 (by decide))
          have N3 := hide (show (u2.setCell ⟨p, 9, none⟩ (.slice (some ⟨g, 0, none⟩) (k + 1) cap)).heap[p]? = some (.cells #[.int .i64 kp, .int .i64 x, .bool ob, .int .i64 0, .int .i64 0, .int .i64 0, .int .i64 0, .int .i64 0, .int .i64 0, .slice (some ⟨g, 0, none⟩) (k + 1) cap] 86 (0, 0)) from block_setCell N2.out 9 (.slice (some ⟨g, 0, none⟩) (k + 1) cap))
          have B3 := hide (B2.out.setCell (p := ⟨p, 9, none⟩) HPB.out (.slice (some ⟨g, 0, none⟩) (k + 1) cap))
          have XN3 := hide ((block_setCell_other HNP.out.symm 9 (.slice (some ⟨g, 0, none⟩) (k + 1) cap)).trans XN2.out)
          have Q3 := hide (Q2.out.other HPH.out.symm 9 (.slice (some ⟨g, 0, none⟩) (k + 1) cap))
          have OW3 := hide (owns_setOther OW2.out HGP.out 9 (.slice (some ⟨g, 0, none⟩) (k + 1) cap))
          go_simp
          clear c0 c1 c2 c3 c4 c5 c6 c7 c8 c9 f0 f1 f2 f3 f4 f5 f6 f7 f8 f9
          generalize u2.setCell ⟨p, 9, none⟩ (.slice (some ⟨g, 0, none⟩) (k + 1) cap) = u3 at *
          refine hK.out _ _ (six_cells XN3.out) (fun hHeld => ?_)
          clear hK K hOld
          try simp only [Act.put, List.setIfInBounds_toArray, List.set_cons_zero, List.set_cons_succ]
          refine wpAnyH_done (by kernel_rfl) ?_ _
          clear hHeld
          go_wp2_with fail
          go_roundw
          case rel => exact ⟨k + 1, _, some ⟨g, 0, none⟩, cap, ok', l', HLTM.out, by go_num, by rw [List.length_append, HML.out]; rfl, N3.out, OW3.out, Q3.out, by rw [show m - (k + 1) = k' by have := HK.out; omega]; exact HYN.out, HNN.out, B3.out⟩
          case measure => have := HLTM.out; simp [Go.RowKit.intOf]; omega
    · obtain rfl : k = m := by omega
      rw [Nat.sub_self] at HYM
      clear hlt HRT
      obtain ⟨sl, hsr, hse, hsz⟩ := QM.out
      have RH := hide hsr
      have HSZ := hide hsz
      cases ok with
      | false =>
        have HNN := hide (HNM.out rfl)
        clear hsr hse hsz HYM HNM
        go_wp2_with fail
        refine (wrong_any hd sl true wr RH.out).mono ?_
        rintro e wb ⟨rfl, rfl⟩
        go_wp2_with fail
        go_ret2
        exact ⟨.inl ⟨HNN.out, rfl⟩, .of_below BM.out⟩
      | true =>
        have hsl := hse rfl
        subst hsl
        have HSO := hide (show shR kp t = some (mkSh kp x o n M, l) from by rw [HYM.out rfl, HFF.out]; rfl)
        have RM := hide (show RdAt wr r (bs t) false from R00.out.below BM.out)
        have HRG := hide (show ∀ g, (Value.slice a k cp).ownBlock = some g → r ≠ g from fun g hg => by have := (OM.out.lt g hg).1; have := HLT.out; omega)
        clear hsr hse hsz HYM HNM HFF
        go_wp2_with fail
        refine (wrong_any hd (bs l) false wr RH.out).mono ?_
        rintro e wb ⟨rfl, rfl⟩
        have c2 : wr.cell? ⟨p, 2, none⟩ = some (.bool ob) := cell_of_block NM.out 2
        cases ob
        · have hoz : o ≠ 1 := fun e => by have := HOBE.out; rw [e] at this; cases this
          rw [show mkSh kp x o n M = ⟨kp, x, false, tot0, M⟩ from if_neg hoz] at HSO
          obtain ⟨e0, e1, -, -⟩ := RH.out.cells
          obtain ⟨d0, d1, g0, g1⟩ := RM.out.cells
          go_wp2_with fail
          go_ret2
          have hrp : r ≠ p := by have := HLT.out; have := HPB.out; omega
          refine ⟨.inr ⟨_, _, p, .slice a k cp, HSO.out, rfl, ⟨(block_setCell_other hrp 1 _).trans ((block_setCell_other hrp 0 _).trans NM.out), ?_, HPB.out, HSOK.out _ _ HSO.out⟩, ⟨bs l, ⟨block_setCell (block_setCell RM.out.row 0 _) 1 _⟩, fun _ => rfl, HSZ.out⟩⟩, ((Only.of_below BM.out).trans (Only.setCell r 0 _)).trans (Only.setCell r 1 _)⟩
          show ((wr.setCell ⟨r, 0, none⟩ _).setCell ⟨r, 1, none⟩ _).ownsRow w.heap.size 43 6 (.slice a k cp) M.length (M.flatMap totC)
          rw [HML.out]
          exact ownsRow_setCell_other (ownsRow_setCell_other OM.out (fun e => HRG.out _ e rfl) _) (fun e => HRG.out _ e rfl) _
        · have ho1 : o = 1 := by have := HOBE.out; rw [beq_iff_eq] at this; omega
          have hkn : k = n + 1 := by have := HM.out; omega
          have hkn' := HML.out
          obtain ⟨M0, T9, rfl⟩ : ∃ M0 T9, M = M0 ++ [T9] := ⟨M.dropLast, M.getLast (fun e => by rw [e] at hkn'; simp at hkn'; omega), (List.dropLast_concat_getLast _).symm⟩
          rw [List.length_append, List.length_singleton] at hkn'
          have hM0 : M0.length = n := by omega
          subst hkn
          rw [show mkSh kp x o n (M0 ++ [T9]) = ⟨kp, x, true, T9, M0⟩ from by
            unfold mkSh
            rw [if_pos ho1, ← hM0, List.take_append_of_le_length (Nat.le_refl _), List.take_length]
            congr 1
            simp [List.getD]] at HSO
          have OW2 := OM.out
          rw [← hM0] at OW2
          have OW3 : wr.ownsRow w.heap.size 43 6 (.slice a (M0 ++ [T9]).length cp) (M0 ++ [T9]).length ((M0 ++ [T9]).flatMap totC) := by rw [List.length_append, List.length_singleton]; exact OW2
          obtain ⟨g, rfl, hgB, hgl, hcell⟩ := owns_rows totC totC_length tot0 OW3 M0.length (by simp)
          rw [show (M0 ++ [T9]).getD M0.length tot0 = T9 by simp [List.getD]] at hcell
          have HDEL := hide (fun W ho => delete_last M0 T9 g cp w.heap.size W ho)
          rw [List.length_append, List.length_singleton] at HDEL
          simp only [hM0] at HDEL hcell
          have HMN := hide hM0
          obtain ⟨tc, ts, tv, tr, ti, tx⟩ := T9
          have y0 := hcell 0 (by decide)
          have y1 := hcell 1 (by decide)
          have y2 := hcell 2 (by decide)
          have y3 := hcell 3 (by decide)
          have y4 := hcell 4 (by decide)
          have y5 := hcell 5 (by decide)
          simp only [totC, List.getElem?_cons_zero, List.getElem?_cons_succ, Nat.add_zero] at y0 y1 y2 y3 y4 y5
          have HGP := hide (show g ≠ p from fun e => by
            obtain ⟨c', fz', hc⟩ := Go.Lib.ownsRow_kind OM.out g rfl
            rw [e, NM.out] at hc
            simp only [Option.some.injEq, Obj.cells.injEq] at hc
            exact absurd hc.2.1 (by decide))
          have HGHH := hide (show g ≠ hd from fun e => by
            obtain ⟨c', fz', hc⟩ := Go.Lib.ownsRow_kind OM.out g rfl
            obtain ⟨s', q1, -⟩ := QM.out
            rw [e, q1.row] at hc
            simp only [Option.some.injEq, Obj.cells.injEq] at hc
            exact absurd hc.2.1 (by decide))
          have HGB := hide hgB
          have hw1 : IntKind.i64.wrap ((n : Int) + 1) = (n : Int) + 1 := by rw [IntKind.wrap_i64]; have := HMB.out; omega
          have N7 := hide NM.out
          clear c2 hcell OW2 OW3 hgB hgl hM0 hkn' ho1 NM HML HM
          obtain ⟨⟨c0, c1, c2, c3, c4, c5, c6, c7, c8, c9⟩, ⟨f0, f1, f2, f3, f4, f5, f6, f7, f8, f9⟩⟩ := sh_facts N7.out
          go_upto_region 24 with (fail)
          clear c0 c1 c2 c3 c4 c5 c6 c7 c8 c9 f0 f1 f2 f3 f4 f5 f6 f7 f8 f9 y0 y1 y2 y3 y4 y5
          have Nd3 := hide (show (wr.setCell ⟨p, 3, none⟩ (.int .i64 tc)).heap[p]? = some (.cells #[.int .i64 kp, .int .i64 x, .bool true, .int .i64 tc, .int .i64 0, .int .i64 0, .int .i64 0, .int .i64 0, .int .i64 0, .slice (some ⟨g, 0, none⟩) (n + 1) cp] 86 (0, 0)) from block_setCell N7.out 3 (.int .i64 tc))
          have Bd3 := hide (BM.out.setCell (p := ⟨p, 3, none⟩) HPB.out (.int .i64 tc))
          have Od3 := hide (owns_setOther OM.out HGP.out 3 (.int .i64 tc))
          have Qd3 := hide (QM.out.other HPH.out.symm 3 (.int .i64 tc))
          generalize wr.setCell ⟨p, 3, none⟩ (.int .i64 tc) = wd3 at *
          have Nd4 := hide (show (wd3.setCell ⟨p, 4, none⟩ (.int .i64 ts)).heap[p]? = some (.cells #[.int .i64 kp, .int .i64 x, .bool true, .int .i64 tc, .int .i64 ts, .int .i64 0, .int .i64 0, .int .i64 0, .int .i64 0, .slice (some ⟨g, 0, none⟩) (n + 1) cp] 86 (0, 0)) from block_setCell Nd3.out 4 (.int .i64 ts))
          have Bd4 := hide (Bd3.out.setCell (p := ⟨p, 4, none⟩) HPB.out (.int .i64 ts))
          have Od4 := hide (owns_setOther Od3.out HGP.out 4 (.int .i64 ts))
          have Qd4 := hide (Qd3.out.other HPH.out.symm 4 (.int .i64 ts))
          generalize wd3.setCell ⟨p, 4, none⟩ (.int .i64 ts) = wd4 at *
          have Nd5 := hide (show (wd4.setCell ⟨p, 5, none⟩ (.int .i64 tv)).heap[p]? = some (.cells #[.int .i64 kp, .int .i64 x, .bool true, .int .i64 tc, .int .i64 ts, .int .i64 tv, .int .i64 0, .int .i64 0, .int .i64 0, .slice (some ⟨g, 0, none⟩) (n + 1) cp] 86 (0, 0)) from block_setCell Nd4.out 5 (.int .i64 tv))
          have Bd5 := hide (Bd4.out.setCell (p := ⟨p, 5, none⟩) HPB.out (.int .i64 tv))
          have Od5 := hide (owns_setOther Od4.out HGP.out 5 (.int .i64 tv))
          have Qd5 := hide (Qd4.out.other HPH.out.symm 5 (.int .i64 tv))
          generalize wd4.setCell ⟨p, 5, none⟩ (.int .i64 tv) = wd5 at *
          have Nd6 := hide (show (wd5.setCell ⟨p, 6, none⟩ (.int .i64 tr)).heap[p]? = some (.cells #[.int .i64 kp, .int .i64 x, .bool true, .int .i64 tc, .int .i64 ts, .int .i64 tv, .int .i64 tr, .int .i64 0, .int .i64 0, .slice (some ⟨g, 0, none⟩) (n + 1) cp] 86 (0, 0)) from block_setCell Nd5.out 6 (.int .i64 tr))
          have Bd6 := hide (Bd5.out.setCell (p := ⟨p, 6, none⟩) HPB.out (.int .i64 tr))
          have Od6 := hide (owns_setOther Od5.out HGP.out 6 (.int .i64 tr))
          have Qd6 := hide (Qd5.out.other HPH.out.symm 6 (.int .i64 tr))
          generalize wd5.setCell ⟨p, 6, none⟩ (.int .i64 tr) = wd6 at *
          have Nd7 := hide (show (wd6.setCell ⟨p, 7, none⟩ (.int .i64 ti)).heap[p]? = some (.cells #[.int .i64 kp, .int .i64 x, .bool true, .int .i64 tc, .int .i64 ts, .int .i64 tv, .int .i64 tr, .int .i64 ti, .int .i64 0, .slice (some ⟨g, 0, none⟩) (n + 1) cp] 86 (0, 0)) from block_setCell Nd6.out 7 (.int .i64 ti))
          have Bd7 := hide (Bd6.out.setCell (p := ⟨p, 7, none⟩) HPB.out (.int .i64 ti))
          have Od7 := hide (owns_setOther Od6.out HGP.out 7 (.int .i64 ti))
          have Qd7 := hide (Qd6.out.other HPH.out.symm 7 (.int .i64 ti))
          generalize wd6.setCell ⟨p, 7, none⟩ (.int .i64 ti) = wd7 at *
          have Nd8 := hide (show (wd7.setCell ⟨p, 8, none⟩ (.int .i64 tx)).heap[p]? = some (.cells #[.int .i64 kp, .int .i64 x, .bool true, .int .i64 tc, .int .i64 ts, .int .i64 tv, .int .i64 tr, .int .i64 ti, .int .i64 tx, .slice (some ⟨g, 0, none⟩) (n + 1) cp] 86 (0, 0)) from block_setCell Nd7.out 8 (.int .i64 tx))
          have Bd8 := hide (Bd7.out.setCell (p := ⟨p, 8, none⟩) HPB.out (.int .i64 tx))
          have Od8 := hide (owns_setOther Od7.out HGP.out 8 (.int .i64 tx))
          have Qd8 := hide (Qd7.out.other HPH.out.symm 8 (.int .i64 tx))
          generalize wd7.setCell ⟨p, 8, none⟩ (.int .i64 tx) = wd8 at *
          have c9 := (sh_facts Nd8.out).1.2.2.2.2.2.2.2.2.2
          go_wp2_with fail
          refine (HDEL.out _ Od8.out).mono ?_
          rintro e w9 ⟨rfl, hO, ho⟩
          have N9 := hide ((ho.block _ (heap_lt Nd8.out) HGP.out.symm).trans Nd8.out)
          have O9 := hide hO
          have Q9 := hide (Qd8.out.only ho HGHH.out.symm)
          have B9 := hide (ho.below Bd8.out HGB.out Bd8.out.size)
          clear hO ho c9 Nd8 Od8 Qd8 Bd8 HDEL
          obtain ⟨⟨c0, c1, c2, c3, c4, c5, c6, c7, c8, c9⟩, ⟨f0, f1, f2, f3, f4, f5, f6, f7, f8, f9⟩⟩ := sh_facts N9.out
          go_upto_region 25 with (fail)
          clear c0 c1 c2 c3 c4 c5 c6 c7 c8 c9 f0 f1 f2 f3 f4 f5 f6 f7 f8 f9
          have NX := hide (show (w9.setCell ⟨p, 9, none⟩ (.slice (some ⟨g, 0, none⟩) n cp)).heap[p]? = some (.cells #[.int .i64 kp, .int .i64 (x : Int), .bool true, .int .i64 tc, .int .i64 ts, .int .i64 tv, .int .i64 tr, .int .i64 ti, .int .i64 tx, .slice (some ⟨g, 0, none⟩) n cp] 86 (0, 0)) from block_setCell N9.out 9 (.slice (some ⟨g, 0, none⟩) n cp))
          have BX := hide (B9.out.setCell (p := ⟨p, 9, none⟩) HPB.out (.slice (some ⟨g, 0, none⟩) n cp))
          have QX := hide (Q9.out.other HPH.out.symm 9 (.slice (some ⟨g, 0, none⟩) n cp))
          have OX := hide (owns_setOther O9.out HGP.out 9 (.slice (some ⟨g, 0, none⟩) n cp))
          clear N9 B9 Q9 O9
          generalize w9.setCell ⟨p, 9, none⟩ (.slice (some ⟨g, 0, none⟩) n cp) = wx at *
          obtain ⟨sx, q1, q2, q3⟩ := QX.out
          have hsx := q2 rfl
          subst hsx
          have RX := R00.out.below BX.out
          obtain ⟨e0, e1, -, -⟩ := q1.cells
          obtain ⟨d0, d1, g0, g1⟩ := RX.cells
          have RX2 := hide RX
          clear q1 q2 q3 RX
          go_wp2_with fail
          go_ret2
          have hrp : r ≠ p := by have := HLT.out; have := HPB.out; omega
          have hrg : g ≠ r := by have := HLT.out; have := HGB.out; omega
          refine ⟨.inr ⟨_, _, p, .slice (some ⟨g, 0, none⟩) n cp, HSO.out, rfl, ⟨(block_setCell_other hrp 1 _).trans ((block_setCell_other hrp 0 _).trans NX.out), ?_, HPB.out, HSOK.out _ _ HSO.out⟩, ⟨bs l, ⟨block_setCell (block_setCell RX2.out.row 0 _) 1 _⟩, fun _ => rfl, HSZ.out⟩⟩, ((Only.of_below BX.out).trans (Only.setCell r 0 _)).trans (Only.setCell r 1 _)⟩
          have OY := owns_setOther (owns_setOther OX.out hrg 0 (.string (bs l))) hrg 1 (.bool false)
          rw [← HMN.out]
          rw [← HMN.out] at OY
          exact OY
end Go.Proofs.Ytfdgfeohmkdnoaa

/-
  Layer 26: nil shifts; Read where so many may not be kept.
-/
--import Derived.Test.Zdbg
namespace Go.Proofs.Ytfdgfeohmkdnoaa
set_option linter.unusedSimpArgs false
set_option linter.unusedVariables false
open Go.RowKit Go.WideShapes Go.ChangeShapes Go.ChangeAt Go.Deep
set_option maxRecDepth 100000 in
theorem shwrite_none (q : Nat) (w : World) : Calls Try.prog 18 #[.pointer none, .pointer (some ⟨q, 0, none⟩)] w fun e w' => e = .returned (.tuple #[]) ∧ w = w' := by
  go_enter Try.func18, Try.ntmps18
  go_wp2_with fail
  refine bodyPost_ret (results_none rfl _ _ _) rfl ?_
  exact ⟨rfl, rfl⟩
set_option maxRecDepth 100000 in
theorem shstart_none (w : World) : Calls Try.prog 10 #[.pointer none] w fun e w' => e = .returned (.tuple #[.int .i64 0, .int .i64 1]) ∧ w = w' := by
  go_enter Try.func10, Try.ntmps10
  go_wp2_with fail
  go_ret2
  exact ⟨rfl, rfl⟩
set_option maxRecDepth 100000 in
theorem shend_none (w : World) : Calls Try.prog 12 #[.pointer none] w fun e w' => e = .returned (.tuple #[.int .i64 0, .agg #[.int .i64 0, .int .i64 0, .int .i64 0, .int .i64 0, .int .i64 0, .int .i64 0], .int .i64 1]) ∧ Below w.heap.size w w' := by
  go_enter Try.func12, Try.ntmps12
  go_wp2_with fail
  refine bodyPost_ret (res_tct (P := Try.prog) rfl _ _ w.heap.size 43 43 #[.int .i64 0, .int .i64 0, .int .i64 0, .int .i64 0, .int .i64 0, .int .i64 0] (0, 0) _ rfl (heap_new w (.cells #[.int .i64 0, .int .i64 0, .int .i64 0, .int .i64 0, .int .i64 0, .int .i64 0] 43)) Try.underlying43 rfl (by kernel_rfl)) rfl ?_
  exact ⟨rfl, (Below.refl _ _).alloc (Nat.le_refl _) _⟩
set_option maxRecDepth 100000 in
theorem shtot_none (n : Int) (w : World) : Calls Try.prog 20 #[.pointer none, .int .i64 n] w fun e w' => e = .returned (.tuple #[.agg #[.int .i64 0, .int .i64 0, .int .i64 0, .int .i64 0, .int .i64 0, .int .i64 0], .bool false]) ∧ Below w.heap.size w w' := by
  go_enter Try.func20, Try.ntmps20
  go_wp2_with fail
  refine bodyPost_ret (res_ct (P := Try.prog) rfl _ _ w.heap.size 43 #[.int .i64 0, .int .i64 0, .int .i64 0, .int .i64 0, .int .i64 0, .int .i64 0] (0, 0) _ rfl (heap_new w (.cells #[.int .i64 0, .int .i64 0, .int .i64 0, .int .i64 0, .int .i64 0, .int .i64 0] 43)) Try.underlying43 rfl (by kernel_rfl)) rfl ?_
  exact ⟨rfl, (Below.refl _ _).alloc (Nat.le_refl _) _⟩
set_option maxRecDepth 100000 in
theorem shadd_none (k am : Int) (w : World) : Calls Try.prog 16 #[.pointer none, .int .u8 k, .int .i64 am] w fun e w' => e = .returned (.int .i64 1) ∧ w = w' := by
  go_enter Try.func16, Try.ntmps16
  go_wp2_with fail
  go_ret
  exact ⟨rfl, rfl⟩
set_option maxRecDepth 100000 in
theorem shopen_none (w : World) : Calls Try.prog 27 #[.pointer none] w fun e w' => e = .returned (.int .i64 0) ∧ w = w' := by
  go_enter Try.func27, Try.ntmps27
  go_wp2_with fail
  go_ret
  exact ⟨rfl, rfl⟩
set_option maxRecDepth 100000 in
theorem shcopy_none (w : World) : Calls Try.prog 9 #[.pointer none] w fun e w' => e = .returned (.pointer none) ∧ w = w' := by
  go_enter Try.func9, Try.ntmps9
  go_wp2_with fail
  go_ret
  exact ⟨rfl, rfl⟩
set_option maxRecDepth 100000 in
theorem shread_none (w : World) : Calls Try.prog 24 #[.pointer none, .int .i64 3] w fun e w' => e = .returned (.tuple #[.pointer none, .int .i64 4]) ∧ Below w.heap.size w w' := by
  have HN := hide (fun W => shnew_ok 3 (by decide) (by decide) W)
  go_enter Try.func24, Try.ntmps24
  go_wp2_with fail
  refine (HN.out _).mono ?_
  rintro e w1 ⟨rfl, -, hb⟩
  go_wp2_with fail
  refine (wrong_nil _).mono ?_
  rintro e w2 ⟨rfl, rfl⟩
  go_wp2_with fail
  go_ret2
  exact ⟨rfl, hb⟩
set_option maxRecDepth 100000 in
theorem shread_arg (r : Nat) (kp : Int) (h : ¬ (1 ≤ kp ∧ kp ≤ 64)) (w : World) : Calls Try.prog 24 #[.pointer (some ⟨r, 0, none⟩), .int .i64 kp] w fun e w' => e = .returned (.tuple #[.pointer none, .int .i64 2]) ∧ w = w' := by
  have HN := hide (fun W => shnew_no kp h W)
  clear h
  go_enter Try.func24, Try.ntmps24
  go_wp2_with fail
  refine (HN.out _).mono ?_
  rintro e w1 ⟨rfl, rfl⟩
  go_wp2_with fail
  go_ret2
  exact ⟨rfl, rfl⟩
/-- a text has bytes -/
theorem wrF_more (l : List UInt8) (b : Bool) (x : Fld) : l.length ≤ (wrF l b x).1.length := by
  unfold wrF wrL
  (repeat' split) <;> simp only [List.length_append] <;> omega
theorem fold_more : ∀ (m : List Fld) (z : List UInt8 × Bool), z.1.length ≤ (m.foldl (fun z x => wrF z.1 z.2 x) z).1.length
  | [], z => Nat.le_refl _
  | x :: m, z => by
    rw [List.foldl_cons]
    exact Nat.le_trans (wrF_more z.1 z.2 x) (fold_more m _)
theorem text_some {M : ShM} (h : ShOk M) : ∃ l : List UInt8, refS (shF M) = bs l ∧ 1 ≤ l.length ∧ l.length ≤ 200000 := by
  have h2 := shF_ok h
  have hl := shF_len M (by have := h.kp; have := h.few; omega)
  have hw := wrFs_len (shF M)
  refine ⟨(wrFs (shF M)).1, by unfold refS; rw [h2]; rfl, ?_, by omega⟩
  obtain ⟨rest, hr⟩ : ∃ rest, shF M = ⟨0, 5, M.next, ⟨#[]⟩⟩ :: rest := ⟨_, rfl⟩
  rw [hr]
  unfold wrFs
  rw [List.foldl_cons]
  refine Nat.le_trans ?_ (fold_more rest _)
  have h3 : 1 ≤ (putS M.next 5).length := by
    unfold putS
    rw [if_pos (by decide), putL_length]
    decide
  unfold wrF wrL
  rw [if_pos rfl]
  dsimp only
  have hf : fitsB M.next.toNat 5 = true := by
    unfold fitsB
    have := h.nx
    exact decide_eq_true ⟨by decide, by decide, by show M.next.toNat < 1099511627776; omega⟩
  rw [hf]
  simp only [List.nil_append]
  exact h3
end Go.Proofs.Ytfdgfeohmkdnoaa
