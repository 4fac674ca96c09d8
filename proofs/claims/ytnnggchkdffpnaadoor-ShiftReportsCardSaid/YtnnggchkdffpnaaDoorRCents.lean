/-
  Layer 3, the document's calls: Half, Back.
-/
import Derived.Test.YtnnggchkdffpnaaDoorCents2
namespace Go.Proofs.YtnnggchkdffpnaaDoor
set_option linter.unusedSimpArgs false
set_option linter.unusedVariables false
open Go.RowKit Go.WideShapes Go.ChangeShapes Go.ChangeAt

theorem half_facts (a : Int) : a = 1000000000 * a.tdiv 1000000000 + a.tmod 1000000000 ∧ (0 ≤ a → 0 ≤ a.tmod 1000000000 ∧ 0 ≤ a.tdiv 1000000000) ∧ (a ≤ 0 → a.tmod 1000000000 ≤ 0 ∧ a.tdiv 1000000000 ≤ 0) ∧ -1000000000 < a.tmod 1000000000 ∧ a.tmod 1000000000 < 1000000000 := by
  by_cases h : 0 ≤ a
  · rw [Int.tdiv_eq_ediv_of_nonneg h, Int.tmod_eq_emod_of_nonneg h]
    omega
  · obtain ⟨b, rfl⟩ : ∃ b, a = -b := ⟨-a, by omega⟩
    have hb : 0 ≤ b := by omega
    rw [Int.neg_tdiv, Int.neg_tmod, Int.tdiv_eq_ediv_of_nonneg hb, Int.tmod_eq_emod_of_nonneg hb]
    omega

set_option maxRecDepth 100000 in
theorem half_any (a : Int) (ha : inR a) (w : World) :
    Calls Tryd.prog 23 #[.int .i64 a] w fun e w' => e = .returned (.agg #[.int .i64 (a.tdiv 1000000000), .int .i64 (a.tmod 1000000000)]) ∧ RowKit.Below w.heap.size w w' := by
  have hw : wrap64 (a.tdiv 1000000000) = a.tdiv 1000000000 := by
    obtain ⟨h1, h2, h3, h4, h5⟩ := half_facts a
    unfold inR at ha
    unfold wrap64
    omega
  have HB := hide ((RowKit.Below.refl w.heap.size w).alloc (Nat.le_refl _) (Obj.cells #[Value.int IntKind.i64 (a.tdiv 1000000000), Value.int IntKind.i64 (a.tmod 1000000000)] 68))
  clear ha
  go_enter Tryd.func23, Tryd.ntmps23
  go_wp2_with fail
  exact bodyPost_ret (results_cell_row (P := Tryd.prog) rfl _ _ w.heap.size 68 _ (0, 0) (.array 2 2) rfl (heap_alloc_new _ _) Tryd.underlying68 rfl (by kernel_rfl)) rfl ⟨rfl, HB.out⟩

set_option maxRecDepth 100000 in
set_option maxHeartbeats 1600000 in
theorem back_any (h0 h1 : Int) (b0 : -10000000000000000 ≤ h0 ∧ h0 ≤ 10000000000000000) (b1 : -10000000000000000 ≤ h1 ∧ h1 ≤ 10000000000000000) (S : Int) (hS : S = 1000000000 * h0 + h1) (w : World) :
    Calls Tryd.prog 24 #[.agg #[.int .i64 h0, .int .i64 h1]] w fun e w' => e = .returned (.tuple #[.int .i64 (sumV S), .int .i64 (sumE S)]) ∧ RowKit.Below w.heap.size w w' := by
  obtain ⟨f1, f2, f3, f4, f5⟩ := half_facts h1
  obtain ⟨q, hq⟩ : ∃ q, h1.tdiv 1000000000 = q := ⟨_, rfl⟩
  obtain ⟨b, hb⟩ : ∃ b, h1.tmod 1000000000 = b := ⟨_, rfl⟩
  rw [hq, hb] at f1
  rw [hb] at f2 f3 f4 f5
  rw [hq] at f2 f3
  have hwq : wrap64 q = q := by unfold wrap64; omega
  obtain ⟨A, hA⟩ : ∃ A, h0 + q = A := ⟨_, rfl⟩
  have hwA : wrap64 A = A := by unfold wrap64; omega
  have hw1 : wrap64 (A - 1) = A - 1 := by unfold wrap64; omega
  have hw2 : wrap64 (A + 1) = A + 1 := by unfold wrap64; omega
  have hw3 : wrap64 (b + 1000000000) = b + 1000000000 := by unfold wrap64; omega
  have hw4 : wrap64 (b - 1000000000) = b - 1000000000 := by unfold wrap64; omega
  have HS := hide (show S = 1000000000 * A + b by omega)
  have HF4 := hide f4
  have HF5 := hide f5
  have HB := hide ((RowKit.Below.refl w.heap.size w).alloc (Nat.le_refl _) (Obj.cells #[Value.int IntKind.i64 h0, Value.int IntKind.i64 h1] 68))
  have hAbd : -100000000000000000 ≤ A ∧ A ≤ 100000000000000000 := by omega
  have HAB := hide hAbd
  clear hS f1 f2 f3 f4 f5 b0 b1 hAbd
  rcases (show (0 < A ∧ b < 0) ∨ (0 < A ∧ ¬ b < 0) ∨ (A < 0 ∧ 0 < b) ∨ (A < 0 ∧ ¬ 0 < b) ∨ A = 0 by omega) with ⟨c1, c2⟩ | ⟨c1, c2⟩ | ⟨c1, c2⟩ | ⟨c1, c2⟩ | c1
  · have c3 : ¬ A - 1 < 0 := by omega
    go_enter Tryd.func24, Tryd.ntmps24
    go_wp2_with fail
    all_goals go_ret2
    all_goals (first
      | (exact ⟨by obtain ⟨v1, v2⟩ := sum_out (show ¬ inR S by have e1 := HS.out; have e2 := HF4.out; have e3 := HF5.out; unfold inR; omega); exact ret_two v1.symm v2.symm, HB.out⟩)
      | (exact ⟨by obtain ⟨v1, v2⟩ := sum_in (show inR S by have e1 := HS.out; have e2 := HF4.out; have e3 := HF5.out; unfold inR; omega); exact ret_two (by have e1 := HS.out; have e2 := HF4.out; have e3 := HF5.out; rw [v1]; first | omega | (unfold wrap64; omega)) v2.symm, HB.out⟩))
  · have c3 : ¬ A < 0 := by omega
    go_enter Tryd.func24, Tryd.ntmps24
    go_wp2_with fail
    all_goals go_ret2
    all_goals (first
      | (exact ⟨by obtain ⟨v1, v2⟩ := sum_out (show ¬ inR S by have e1 := HS.out; have e2 := HF4.out; have e3 := HF5.out; unfold inR; omega); exact ret_two v1.symm v2.symm, HB.out⟩)
      | (exact ⟨by obtain ⟨v1, v2⟩ := sum_in (show inR S by have e1 := HS.out; have e2 := HF4.out; have e3 := HF5.out; unfold inR; omega); exact ret_two (by have e1 := HS.out; have e2 := HF4.out; have e3 := HF5.out; rw [v1]; first | omega | (unfold wrap64; omega)) v2.symm, HB.out⟩))
  · have c3 : ¬ 0 < A := by omega
    have c4 : ¬ (0 < A) := by omega
    go_enter Tryd.func24, Tryd.ntmps24
    go_wp2_with fail
    all_goals go_ret2
    all_goals (first
      | (exact ⟨by obtain ⟨v1, v2⟩ := sum_out (show ¬ inR S by have e1 := HS.out; have e2 := HF4.out; have e3 := HF5.out; unfold inR; omega); exact ret_two v1.symm v2.symm, HB.out⟩)
      | (exact ⟨by obtain ⟨v1, v2⟩ := sum_in (show inR S by have e1 := HS.out; have e2 := HF4.out; have e3 := HF5.out; unfold inR; omega); exact ret_two (by have e1 := HS.out; have e2 := HF4.out; have e3 := HF5.out; rw [v1]; first | omega | (unfold wrap64; omega)) v2.symm, HB.out⟩))
  · have c3 : ¬ 0 < A := by omega
    go_enter Tryd.func24, Tryd.ntmps24
    go_wp2_with fail
    all_goals go_ret2
    all_goals (first
      | (exact ⟨by obtain ⟨v1, v2⟩ := sum_out (show ¬ inR S by have e1 := HS.out; have e2 := HF4.out; have e3 := HF5.out; unfold inR; omega); exact ret_two v1.symm v2.symm, HB.out⟩)
      | (exact ⟨by obtain ⟨v1, v2⟩ := sum_in (show inR S by have e1 := HS.out; have e2 := HF4.out; have e3 := HF5.out; unfold inR; omega); exact ret_two (by have e1 := HS.out; have e2 := HF4.out; have e3 := HF5.out; rw [v1]; first | omega | (unfold wrap64; omega)) v2.symm, HB.out⟩))
  · subst c1
    have c2 := trivial
    go_enter Tryd.func24, Tryd.ntmps24
    go_wp2_with fail
    all_goals go_ret2
    all_goals (first
      | (exact ⟨by obtain ⟨v1, v2⟩ := sum_out (show ¬ inR S by have e1 := HS.out; have e2 := HF4.out; have e3 := HF5.out; unfold inR; omega); exact ret_two v1.symm v2.symm, HB.out⟩)
      | (exact ⟨by obtain ⟨v1, v2⟩ := sum_in (show inR S by have e1 := HS.out; have e2 := HF4.out; have e3 := HF5.out; unfold inR; omega); exact ret_two (by have e1 := HS.out; have e2 := HF4.out; have e3 := HF5.out; rw [v1]; first | omega | (unfold wrap64; omega)) v2.symm, HB.out⟩))
end Go.Proofs.YtnnggchkdffpnaaDoor
