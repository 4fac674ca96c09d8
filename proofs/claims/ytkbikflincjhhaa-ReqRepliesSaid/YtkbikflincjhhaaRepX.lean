/-
  Layer 28: replies read: a shift's totals; kinds 12 and 3.
-/
import Derived.Test.YtkbikflincjhhaaRepS

namespace Go.Proofs.Ytkbikflincjhhaa
set_option linter.unusedSimpArgs false
set_option linter.unusedVariables false
open Go.RowKit Go.WideShapes Go.ChangeShapes Go.ChangeAt Go.Deep
theorem idxp_0 (x0 x1 x2 x3 x4 : Value) (w : World) : (Instr.index 134 (.agg #[x0, x1, x2, x3, x4]) (.int .i64 0)).run Try.prog w = .ok x0 w := by kernel_rfl
theorem idxp_1 (x0 x1 x2 x3 x4 : Value) (w : World) : (Instr.index 134 (.agg #[x0, x1, x2, x3, x4]) (.int .i64 1)).run Try.prog w = .ok x1 w := by kernel_rfl
theorem idxp_2 (x0 x1 x2 x3 x4 : Value) (w : World) : (Instr.index 134 (.agg #[x0, x1, x2, x3, x4]) (.int .i64 2)).run Try.prog w = .ok x2 w := by kernel_rfl
theorem idxp_3 (x0 x1 x2 x3 x4 : Value) (w : World) : (Instr.index 134 (.agg #[x0, x1, x2, x3, x4]) (.int .i64 3)).run Try.prog w = .ok x3 w := by kernel_rfl
theorem idxp_4 (x0 x1 x2 x3 x4 : Value) (w : World) : (Instr.index 134 (.agg #[x0, x1, x2, x3, x4]) (.int .i64 4)).run Try.prog w = .ok x4 w := by kernel_rfl
def sL (l : List UInt8) (k : Nat) : List UInt8 := l.drop (8 * k)
def sO (ok : Bool) (l : List UInt8) : Nat → Bool
  | 0 => ok
  | k + 1 => sO ok l k && decide (8 ≤ (sL l k).length)
def sV (ok : Bool) (l : List UInt8) (k : Nat) : Int := wrap64 (vN (sO ok l k) (sL l k) 8 : Int)
theorem sL_next (l : List UInt8) (k : Nat) : (sL l k).drop 8 = sL l (k + 1) := by unfold sL; rw [List.drop_drop]; congr 1
theorem sO_is (ok : Bool) (l : List UInt8) (k : Nat) : sO ok l k = (ok && decide (8 * k ≤ l.length)) := by
  induction k with
  | zero => simp [sO]
  | succ k ih =>
    unfold sO sL
    rw [ih, List.length_drop, Bool.and_assoc, Bool.eq_iff_iff]
    simp only [Bool.and_eq_true, decide_eq_true_eq]
    constructor
    · rintro ⟨h1, h2, h3⟩; exact ⟨h1, by omega⟩
    · rintro ⟨h1, h2⟩; exact ⟨h1, by omega, by omega⟩
theorem sV_true (l : List UInt8) (k : Nat) (h : 8 * k + 8 ≤ l.length) : sV true l k = wrap64 (fl l (8 * k) 8 : Int) := by
  unfold sV
  rw [sO_is, show decide (8 * k ≤ l.length) = true from decide_eq_true (by omega), Bool.and_self]
  unfold sL
  rw [vN_fl _ _ _ h]
def rowK (c : Int) (ok : Bool) (l : List UInt8) : Nat → Array Value
  | 0 => #[.int .i64 c, .int .i64 0, .int .i64 0, .int .i64 0, .int .i64 0, .int .i64 0]
  | 1 => #[.int .i64 c, .int .i64 (sV ok l 0), .int .i64 0, .int .i64 0, .int .i64 0, .int .i64 0]
  | 2 => #[.int .i64 c, .int .i64 (sV ok l 0), .int .i64 (sV ok l 1), .int .i64 0, .int .i64 0, .int .i64 0]
  | 3 => #[.int .i64 c, .int .i64 (sV ok l 0), .int .i64 (sV ok l 1), .int .i64 (sV ok l 2), .int .i64 0, .int .i64 0]
  | 4 => #[.int .i64 c, .int .i64 (sV ok l 0), .int .i64 (sV ok l 1), .int .i64 (sV ok l 2), .int .i64 (sV ok l 3), .int .i64 0]
  | _ => #[.int .i64 c, .int .i64 (sV ok l 0), .int .i64 (sV ok l 1), .int .i64 (sV ok l 2), .int .i64 (sV ok l 3), .int .i64 (sV ok l 4)]
theorem rowK_info (c : Int) (ok : Bool) (l : List UInt8) : (Try.prog.info? 65).map (·.size) = some (rowK c ok l 5).size := by
  show _ = some 6
  kernel_rfl
theorem rowK_one (c : Int) (ok : Bool) (l : List UInt8) : (rowK c ok l 5).all (·.oneCell') = true := by simp [rowK, Value.oneCell']
theorem only_setRow {p g : Nat} {w W : World} (h : Only p w W) (hg : w.heap.size ≤ g) (cs : Array Value) : Only p w (W.setRow g cs) :=
  ⟨h.os, h.tape, h.output, by rw [setRow_sz]; exact h.size, fun k hk hp => (setRow_apart (by omega)).trans (h.block k hk hp)⟩
structure TtF (w W : World) (p tb ra : Nat) (ok : Bool) (l : List UInt8) (C : Array Value) : Prop where
  rq : RQ W p ok l
  box : W.heap[tb]? = some (.cells C 65 (0, 0))
  res : W.heap[ra]? = some (.cells #[.int .i64 0, .int .i64 0, .int .i64 0, .int .i64 0, .int .i64 0, .int .i64 0] 65 (0, 0))
  only : Only p w W
  new : w.heap.size ≤ tb ∧ w.heap.size ≤ ra ∧ tb ≠ ra ∧ tb ≠ p ∧ ra ≠ p
theorem TtF.step {w W W' : World} {p tb ra : Nat} {ok ok' : Bool} {l l' : List UInt8} {C : Array Value} (h : TtF w W p tb ra ok l C) (hr : RQ W' p ok' l') (ho : Only p W W') : TtF w W' p tb ra ok' l' C := by
  obtain ⟨n1, n2, n3, n4, n5⟩ := h.new
  exact ⟨hr, (ho.block _ (heap_lt h.box) n4).trans h.box, (ho.block _ (heap_lt h.res) n5).trans h.res, h.only.trans ho, h.new⟩
theorem TtF.store {w W : World} {p tb ra : Nat} {ok : Bool} {l : List UInt8} {C : Array Value} (h : TtF w W p tb ra ok l C) (j : Nat) (v : Value) : TtF w (W.setCell ⟨tb, j, none⟩ v) p tb ra ok l (C.setIfInBounds j v) := by
  obtain ⟨n1, n2, n3, n4, n5⟩ := h.new
  exact ⟨h.rq.other n4 j v, block_setCell h.box j v, (block_setCell_other n3 j v).trans h.res, h.only.new n1 j v, h.new⟩
def RTotIs (p : Nat) (ok : Bool) (l : List UInt8) (w : World) (e : Ending) (w' : World) : Prop :=
  e = .returned (.agg (rowK (vN ok l 4 : Int) (ok && decide (4 ≤ l.length)) (l.drop 4) 5)) ∧ RQ w' p (sO (ok && decide (4 ≤ l.length)) (l.drop 4) 5) (sL (l.drop 4) 5) ∧ Only p w w'
set_option maxRecDepth 100000 in
set_option maxHeartbeats 1000000 in
theorem rdTot_any (p : Nat) (ok0 : Bool) (l0 : List UInt8) (w : World) (h : RQ w p ok0 l0) :
    Calls Try.prog 51 #[.pointer (some ⟨p, 0, none⟩)] w (RTotIs p ok0 l0 w) := by
  have hp := h.lt
  have hal := (Below.refl w.heap.size w).alloc (Nat.le_refl _) (.cells #[.int .i64 0, .int .i64 0, .int .i64 0, .int .i64 0, .int .i64 0, .int .i64 0] 65)
  have RA := hide (heap_new w (.cells #[.int .i64 0, .int .i64 0, .int .i64 0, .int .i64 0, .int .i64 0, .int .i64 0] 65))
  have H0 := hide (h.below hal)
  have O0 := hide ((Only.refl p w).alloc (.cells #[.int .i64 0, .int .i64 0, .int .i64 0, .int .i64 0, .int .i64 0, .int .i64 0] 65))
  have HC1 := hide (fun W hw => rq_number p ok0 l0 4 (by decide) (by decide) W hw)
  unfold RTotIs
  unfold RNIs at HC1
  have hb1 := vN_lt ok0 l0 4
  generalize vN ok0 l0 4 = n1 at *
  generalize (ok0 && decide (4 ≤ l0.length)) = ok at *
  generalize l0.drop 4 = l at *
  have HS := hide (fun k W hw => rq_signed p (sO ok l k) (sL l k) W hw)
  unfold RNIs at HS
  obtain ⟨cn1a, cn1b⟩ := wr_i64 n1 (by omega)
  clear hal h hb1
  go_enter Try.func51, Try.ntmps51
  go_upto_region 1 with (fail)
  generalize hra : w.heap.size = ra at RA ⊢
  have HRA := hide hra
  clear hra
  generalize w.alloc (.cells #[.int .i64 0, .int .i64 0, .int .i64 0, .int .i64 0, .int .i64 0, .int .i64 0] 65) = w1 at *
  go_wp2_with fail
  refine (HC1.out _ H0.out).mono ?_
  rintro e w2 ⟨rfl, hr, ho⟩
  have hal := (Below.refl w2.heap.size w2).alloc (Nat.le_refl _) (.cells #[.int .i64 (n1 : Int), .int .i64 0, .int .i64 0, .int .i64 0, .int .i64 0, .int .i64 0] 65)
  have hne : ra ≠ p := by have := HRA.out; omega
  have hra2 := (ho.block _ (heap_lt RA.out) hne).trans RA.out
  have hsz : w.heap.size ≤ w2.heap.size := Nat.le_trans O0.out.size ho.size
  have T0 := hide (show TtF w (w2.alloc (.cells #[.int .i64 (n1 : Int), .int .i64 0, .int .i64 0, .int .i64 0, .int .i64 0, .int .i64 0] 65)) p w2.heap.size ra _ _ #[.int .i64 (n1 : Int), .int .i64 0, .int .i64 0, .int .i64 0, .int .i64 0, .int .i64 0] from
    ⟨hr.below hal, heap_new _ _, (hal.block _ (heap_lt hra2)).trans hra2, (O0.out.trans ho).alloc _, hsz, Nat.le_of_eq HRA.out, by have := heap_lt hra2; omega, by have := hr.lt; omega, hne⟩)
  clear hal hr ho hra2 hsz RA H0 O0 hne hp
  go_upto_region 2 with (fail)
  generalize w2.alloc (.cells #[.int .i64 (n1 : Int), .int .i64 0, .int .i64 0, .int .i64 0, .int .i64 0, .int .i64 0] 65) = w3 at *
  generalize w2.heap.size = tb at *
  have i0 := fun W => idxp_0 (.pointer (some ⟨tb, 1, none⟩)) (.pointer (some ⟨tb, 2, none⟩)) (.pointer (some ⟨tb, 3, none⟩)) (.pointer (some ⟨tb, 4, none⟩)) (.pointer (some ⟨tb, 5, none⟩)) W
  have i1 := fun W => idxp_1 (.pointer (some ⟨tb, 1, none⟩)) (.pointer (some ⟨tb, 2, none⟩)) (.pointer (some ⟨tb, 3, none⟩)) (.pointer (some ⟨tb, 4, none⟩)) (.pointer (some ⟨tb, 5, none⟩)) W
  have i2 := fun W => idxp_2 (.pointer (some ⟨tb, 1, none⟩)) (.pointer (some ⟨tb, 2, none⟩)) (.pointer (some ⟨tb, 3, none⟩)) (.pointer (some ⟨tb, 4, none⟩)) (.pointer (some ⟨tb, 5, none⟩)) W
  have i3 := fun W => idxp_3 (.pointer (some ⟨tb, 1, none⟩)) (.pointer (some ⟨tb, 2, none⟩)) (.pointer (some ⟨tb, 3, none⟩)) (.pointer (some ⟨tb, 4, none⟩)) (.pointer (some ⟨tb, 5, none⟩)) W
  have i4 := fun W => idxp_4 (.pointer (some ⟨tb, 1, none⟩)) (.pointer (some ⟨tb, 2, none⟩)) (.pointer (some ⟨tb, 3, none⟩)) (.pointer (some ⟨tb, 4, none⟩)) (.pointer (some ⟨tb, 5, none⟩)) W
  go_wp2_with fail
  go_loopw [16] (fun i W => ∃ k : Nat, k ≤ 5 ∧ i = .int .i64 k ∧ TtF w W p tb ra (sO ok l k) (sL l k) (rowK (n1 : Int) ok l k)) (fun i _ => 5 - (intOf i).toNat)
  case atStart => exact ⟨0, by omega, rfl, T0.out⟩
  case round =>
    obtain ⟨k, hk, rfl, hf⟩ := hrel
    have TF := hide hf
    clear hf T0
    obtain rfl | rfl | rfl | rfl | rfl | rfl : k = 0 ∨ k = 1 ∨ k = 2 ∨ k = 3 ∨ k = 4 ∨ k = 5 := by omega
    iterate 5
      · go_wp2_with fail
        refine (HS.out _ _ TF.out.rq).mono ?_
        rintro e w4 ⟨rfl, hr, ho⟩
        have T4 := hide (TF.out.step hr ho)
        have RB3 := hide T4.out.box
        rw [sL_next] at T4
        clear hr ho
        have e1 := cell_of_block RB3.out 1
        have z1 := frozen_of_block RB3.out 1
        have e2 := cell_of_block RB3.out 2
        have z2 := frozen_of_block RB3.out 2
        have e3 := cell_of_block RB3.out 3
        have z3 := frozen_of_block RB3.out 3
        have e4 := cell_of_block RB3.out 4
        have z4 := frozen_of_block RB3.out 4
        have e5 := cell_of_block RB3.out 5
        have z5 := frozen_of_block RB3.out 5
        go_wp2_with fail
        go_roundw
        case rel => first | exact ⟨1, by omega, by go_num, T4.out.store 1 _⟩ | exact ⟨2, by omega, by go_num, T4.out.store 2 _⟩ | exact ⟨3, by omega, by go_num, T4.out.store 3 _⟩ | exact ⟨4, by omega, by go_num, T4.out.store 4 _⟩ | exact ⟨5, by omega, by go_num, T4.out.store 5 _⟩
        case measure => simp [intOf]
    · have RBX := TF.out.box
      have RS := TF.out.res
      go_wp2_with (first | (refine wpList_rowLoad rfl 65 (.tmp 3) rfl tb rfl 65 (rowK (n1 : Int) ok l 5) (0, 0) _ RBX Try.underlying65 rfl (rowK_info _ _ _) ?_) | (refine wpList_rowStore rfl 65 (.tmp 2) (.tmp 24) rfl ra rfl (rowK (n1 : Int) ok l 5) rfl #[.int .i64 0, .int .i64 0, .int .i64 0, .int .i64 0, .int .i64 0, .int .i64 0] RS (rowK_info _ _ _) rfl (rowK_one _ _ _) ?_))
      refine bodyPost_ret (results_cell_row (P := Try.prog) rfl _ _ ra 65 (rowK (n1 : Int) ok l 5) (0, 0) _ rfl (setRow_self _ _ _ _ _ _ RS) Try.underlying65 rfl (rowK_info _ _ _)) rfl ?_
      obtain ⟨m1, m2, m3, m4, m5⟩ := TF.out.new
      obtain ⟨s, h1, h2⟩ := TF.out.rq
      exact ⟨rfl, ⟨s, ⟨(setRow_apart m5).trans h1.row⟩, h2⟩, only_setRow TF.out.only m2 _⟩
end Go.Proofs.Ytkbikflincjhhaa
