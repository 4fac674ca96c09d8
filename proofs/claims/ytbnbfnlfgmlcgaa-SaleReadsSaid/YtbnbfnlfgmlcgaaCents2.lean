/-
  Layer 3, the program's calls: how far from 0, products, sums with a carry.
-/
import Derived.Test.YtbnbfnlfgmlcgaaCents
namespace Go.Proofs.Ytbnbfnlfgmlcgaa
set_option linter.unusedSimpArgs false
set_option linter.unusedVariables false
open Go.RowKit Go.WideShapes Go.ChangeShapes Go.ChangeAt

theorem wrapu_neg {n : Int} (h : inR n) (h1 : n < 0) : IntKind.u64.wrap (-IntKind.u64.wrap n) = (n.natAbs : Int) := by unfold inR at h; rw [IntKind.wrap_u64, IntKind.wrap_u64]; omega
theorem wrapu_pos {n : Int} (h : inR n) (h1 : 0 ≤ n) : IntKind.u64.wrap n = (n.natAbs : Int) := by unfold inR at h; rw [IntKind.wrap_u64]; omega
theorem ret_one {a a' : Int} {k : IntKind} (h1 : a = a') : Ending.returned (.int k a) = .returned (.int k a') := by rw [h1]

/-- the product, by its size: what stands above, what below -/
theorem prod_parts (a n : Int) (hi lo : Nat) (h1 : a.natAbs * n.natAbs / 18446744073709551616 = hi) (h2 : a.natAbs * n.natAbs % 18446744073709551616 = lo) :
    ((a < 0 ↔ n < 0) → a * n = 18446744073709551616 * (hi : Int) + lo) ∧ (¬ (a < 0 ↔ n < 0) → a * n = -(18446744073709551616 * (hi : Int) + lo)) := by
  have hp : a.natAbs * n.natAbs = 18446744073709551616 * hi + lo := by omega
  have hq : ((a.natAbs * n.natAbs : Nat) : Int) = 18446744073709551616 * (hi : Int) + lo := by rw [hp]; simp
  rw [Int.natCast_mul] at hq
  constructor
  · intro h
    by_cases h3 : a < 0
    · have h4 := h.1 h3
      have ea : ((a.natAbs : Nat) : Int) = -a := by omega
      have en : ((n.natAbs : Nat) : Int) = -n := by omega
      rw [ea, en, Int.neg_mul_neg] at hq
      exact hq
    · have h4 : ¬ n < 0 := fun k => h3 (h.2 k)
      have ea : ((a.natAbs : Nat) : Int) = a := by omega
      have en : ((n.natAbs : Nat) : Int) = n := by omega
      rw [ea, en] at hq
      exact hq
  · intro h
    by_cases h3 : a < 0
    · have h4 : ¬ n < 0 := fun k => h ⟨fun _ => k, fun _ => h3⟩
      have ea : ((a.natAbs : Nat) : Int) = -a := by omega
      have en : ((n.natAbs : Nat) : Int) = n := by omega
      rw [ea, en, Int.neg_mul] at hq
      omega
    · have h4 : n < 0 := by
        by_cases k : n < 0
        · exact k
        · exact absurd ⟨fun k' => absurd k' h3, fun k' => absurd k' k⟩ h
      have ea : ((a.natAbs : Nat) : Int) = a := by omega
      have en : ((n.natAbs : Nat) : Int) = -n := by omega
      rw [ea, en, Int.mul_neg] at hq
      omega

end Go.Proofs.Ytbnbfnlfgmlcgaa
