/-
  Layer 3: the sum of all by contract.
-/
import Derived.Test.YtbnbfnlfgmlcgaaCents2
namespace Go.Proofs.Ytbnbfnlfgmlcgaa
set_option linter.unusedSimpArgs false
set_option linter.unusedVariables false
open Go.RowKit Go.WideShapes Go.ChangeShapes Go.ChangeAt

theorem sum_step (xs : List Int) (k : Nat) (h : k < xs.length) : (xs.take (k + 1)).sum = (xs.take k).sum + xs.getD k 0 := by
  rw [List.take_add_one, List.getElem?_eq_getElem h, List.sum_append]
  simp [List.getD, h]
theorem sum_bd : ∀ (xs : List Int), (∀ x ∈ xs, inR x) → -9223372036854775808 * (xs.length : Int) ≤ xs.sum ∧ xs.sum ≤ 9223372036854775808 * (xs.length : Int)
  | [], _ => by simp
  | x :: xs, h => by
    have h1 := h x (by simp)
    have h2 := sum_bd xs fun y hy => h y (by simp [hy])
    unfold inR at h1
    simp only [List.sum_cons, List.length_cons]
    omega
theorem getD_in (xs : List Int) (h : ∀ x ∈ xs, inR x) (k : Nat) (hk : k < xs.length) : inR (xs.getD k 0) := by
  rw [List.getD, List.getElem?_eq_getElem hk]
  exact h _ (List.getElem_mem hk)
/-- one step of the long sum -/
theorem long_step (q lo x uc : Int) (hl : 0 ≤ lo ∧ lo < 18446744073709551616) (hx : inR x) (hu : IntKind.u64.wrap x = uc) (S : Int) (hS : S = 18446744073709551616 * q + lo) :
    ∃ q' : Int, S + x = 18446744073709551616 * q' + (lo + uc) % 18446744073709551616 ∧ q' = q + (lo + uc) / 18446744073709551616 + x / 9223372036854775808 := by
  refine ⟨_, ?_, rfl⟩
  unfold inR at hx
  rw [IntKind.wrap_u64] at hu
  omega
/-- the test at the long sum's end -/
theorem long_end (q lo S : Int) (hl : 0 ≤ lo ∧ lo < 18446744073709551616) (hq : -2000000 ≤ q ∧ q ≤ 2000000) (hS : S = 18446744073709551616 * q + lo) :
    (inR S → (q % 18446744073709551616 = IntKind.u64.wrap (wrap64 lo / 9223372036854775808)) ∧ wrap64 lo = S) ∧ (¬ inR S → ¬ q % 18446744073709551616 = IntKind.u64.wrap (wrap64 lo / 9223372036854775808)) := by
  unfold inR wrap64
  rw [IntKind.wrap_u64]
  constructor
  · intro h
    omega
  · intro h h2
    omega

end Go.Proofs.Ytbnbfnlfgmlcgaa
