/-
  Layer 9, plain: in whatever order blocks become bad.
-/
import Derived.Test.YtfphkldpjfackaaLaw9
namespace Go.Proofs.Ytfphkldpjfackaa
open Go.RowKit Go.WideShapes Go.ChangeShapes Go.ChangeAt
set_option linter.unusedSimpArgs false
set_option linter.unusedVariables false

/-- is a block among the first i that were told? -/
def seen (g : Nat → Nat) (i k : Nat) : Bool := (List.range i).any fun j => decide (g j = k)
theorem seen_zero (g : Nat → Nat) (k : Nat) : seen g 0 k = false := rfl
theorem seen_next (g : Nat → Nat) (i k : Nat) : seen g (i + 1) k = (decide (k = g i) || seen g i k) := by
  unfold seen
  rw [List.range_succ, List.any_append, Bool.or_comm]
  congr 1
  simp [eq_comm]
theorem seen_turn (g : Nat → Nat) (n t k : Nat) (hn : 0 < n) : seen g n k = seen (fun j => g ((j + t) % n)) n k := by
  unfold seen
  rw [Bool.eq_iff_iff]
  simp only [List.any_eq_true, List.mem_range, decide_eq_true_eq]
  constructor
  · rintro ⟨j, hj, h⟩
    refine ⟨(j + (n - t % n)) % n, Nat.mod_lt _ hn, ?_⟩
    rw [← h]
    congr 1
    have h1 := Nat.mod_lt t hn
    have h2 := Nat.div_add_mod t n
    rw [Nat.mod_add_mod]
    have : j + (n - t % n) + t = j + n * (t / n + 1) := by
      rw [Nat.mul_add, Nat.mul_one]
      omega
    rw [this, Nat.add_mul_mod_self_left, Nat.mod_eq_of_lt hj]
  · rintro ⟨j, hj, h⟩
    exact ⟨(j + t) % n, Nat.mod_lt _ hn, h⟩
theorem badL_sorted (S : List UInt8) (n : Nat) : (badL S n).Pairwise (· < ·) := by
  unfold badL
  rw [List.pairwise_map]
  refine List.Pairwise.imp ?_ (List.Pairwise.filter _ (List.pairwise_lt_range (n := n)))
  intro a b h
  omega
theorem badL_rise (S : List UInt8) (n i : Nat) (h0 : 0 < i) (hi : i < (badL S n).length) : (badL S n).getD (i - 1) 0 < (badL S n).getD i 0 := by
  have h := List.pairwise_iff_getElem.1 (badL_sorted S n) (i - 1) i (by omega) hi (by omega)
  simpa [List.getD, show i - 1 < (badL S n).length by omega, hi] using h
/-- both tables, as they lie -/
structure BA (w0 W : World) (b5 b7 : Nat) (v v' : Int) (La Lb : List UInt8) : Prop where
  a : W.heap[b5]? = some (.cells (bbtC v 40 La) 26 (0, 0))
  b : W.heap[b7]? = some (.cells (bbtC v' 40 Lb) 26 (0, 0))
  below : Below w0.heap.size w0 W
end Go.Proofs.Ytfphkldpjfackaa
