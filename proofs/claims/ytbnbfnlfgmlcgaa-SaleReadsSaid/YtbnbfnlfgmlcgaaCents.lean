/-
  Layer 3, the program's calls: sums, differences, products by contract.
-/
import Derived.Test.YtbnbfnlfgmlcgaaKitD
import Derived.Laws.Externs
namespace Go.Proofs.Ytbnbfnlfgmlcgaa
set_option linter.unusedSimpArgs false
set_option linter.unusedVariables false
open Go.RowKit Go.WideShapes Go.ChangeShapes Go.ChangeAt

def inR (s : Int) : Prop := -9223372036854775808 ≤ s ∧ s ≤ 9223372036854775807
instance (s : Int) : Decidable (inR s) := by unfold inR; infer_instance
def sumV (s : Int) : Int := if inR s then s else 0
def sumE (s : Int) : Int := if inR s then 0 else 6
theorem sum_in {s : Int} (h : inR s) : sumV s = s ∧ sumE s = 0 := by unfold sumV sumE; rw [if_pos h, if_pos h]; exact ⟨rfl, rfl⟩
theorem sum_out {s : Int} (h : ¬ inR s) : sumV s = 0 ∧ sumE s = 6 := by unfold sumV sumE; rw [if_neg h, if_neg h]; exact ⟨rfl, rfl⟩
theorem wrap_in {s : Int} (h : inR s) : IntKind.i64.wrap s = s := by obtain ⟨h1, h2⟩ := h; rw [IntKind.wrap_i64]; omega
theorem wrap_over {s : Int} (h1 : 9223372036854775807 < s) (h2 : s ≤ 27670116110564327423) : IntKind.i64.wrap s = s - 18446744073709551616 := by rw [IntKind.wrap_i64]; omega
theorem wrap_under {s : Int} (h1 : s < -9223372036854775808) (h2 : -18446744073709551616 ≤ s) : IntKind.i64.wrap s = s + 18446744073709551616 := by rw [IntKind.wrap_i64]; omega
/-- the test that tells a sum that went round -/
theorem add_test (a b s : Int) (ha : inR a) (hb : inR b) (hs : IntKind.i64.wrap (a + b) = s) : (inR (a + b) → s = a + b ∧ ((a < s ↔ 0 < b) ∨ b = 0)) ∧ (¬ inR (a + b) → ¬ (a < s ↔ 0 < b) ∧ ¬ b = 0) := by
  unfold inR at *
  constructor
  · intro h
    rw [wrap_in h] at hs
    omega
  · intro h
    by_cases h1 : 9223372036854775807 < a + b
    · rw [wrap_over h1 (by omega)] at hs; omega
    · rw [wrap_under (by omega) (by omega)] at hs; omega
theorem sub_test (a b s : Int) (ha : inR a) (hb : inR b) (hs : IntKind.i64.wrap (a - b) = s) : (inR (a - b) → s = a - b ∧ ((s < a ↔ 0 < b) ∨ b = 0)) ∧ (¬ inR (a - b) → ¬ (s < a ↔ 0 < b) ∧ ¬ b = 0) := by
  unfold inR at *
  constructor
  · intro h
    rw [wrap_in h] at hs
    omega
  · intro h
    by_cases h1 : 9223372036854775807 < a - b
    · rw [wrap_over h1 (by omega)] at hs; omega
    · rw [wrap_under (by omega) (by omega)] at hs; omega
theorem ret_two {a a' b b' : Int} {k l : IntKind} (h1 : a = a') (h2 : b = b') : Ending.returned (.tuple #[.int k a, .int l b]) = .returned (.tuple #[.int k a', .int l b']) := by rw [h1, h2]
end Go.Proofs.Ytbnbfnlfgmlcgaa
