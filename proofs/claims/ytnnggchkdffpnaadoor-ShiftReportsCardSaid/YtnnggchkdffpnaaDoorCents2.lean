/-
  Layer 3, the program's calls: how far from 0, products, sums with a carry.
-/
import Derived.Test.YtnnggchkdffpnaaDoorCents
namespace Go.Proofs.YtnnggchkdffpnaaDoor
set_option linter.unusedSimpArgs false
set_option linter.unusedVariables false
open Go.RowKit Go.WideShapes Go.ChangeShapes Go.ChangeAt

theorem wrapu_neg {n : Int} (h : inR n) (h1 : n < 0) : IntKind.u64.wrap (-IntKind.u64.wrap n) = (n.natAbs : Int) := by unfold inR at h; rw [IntKind.wrap_u64, IntKind.wrap_u64]; omega
theorem wrapu_pos {n : Int} (h : inR n) (h1 : 0 ≤ n) : IntKind.u64.wrap n = (n.natAbs : Int) := by unfold inR at h; rw [IntKind.wrap_u64]; omega
theorem ret_one {a a' : Int} {k : IntKind} (h1 : a = a') : Ending.returned (.int k a) = .returned (.int k a') := by rw [h1]

theorem size_any (n : Int) (hn : inR n) (w : World) :
    Calls Tryd.prog 27 #[.int .i64 n] w fun e w' => e = .returned (.int .u64 (n.natAbs : Int)) ∧ w = w' := by
  by_cases h : n < 0
  · have E := hide (wrapu_neg hn h)
    clear hn
    go_enter Tryd.func27, Tryd.ntmps27
    go_wp2_with fail
    go_ret
    exact ⟨ret_one E.out, rfl⟩
  · have E := hide (wrapu_pos hn (by omega))
    clear hn
    go_enter Tryd.func27, Tryd.ntmps27
    go_wp2_with fail
    go_ret
    exact ⟨ret_one E.out, rfl⟩

theorem size_at (n : Int) (A : Nat) (hn : inR n) (hA : n.natAbs = A) (w : World) :
    Calls Tryd.prog 27 #[.int .i64 n] w fun e w' => e = .returned (.int .u64 (A : Int)) ∧ w = w' := hA ▸ size_any n hn w

theorem add64_0 (x y : Int) (hx : 0 ≤ x) (hy : 0 ≤ y) (w : World) : (callFunc 32 #[.int .u64 x, .int .u64 y, .int .u64 0]).run Tryd.prog w =
    .ok (.value (.tuple #[.int .u64 ((x + y) % 18446744073709551616), .int .u64 ((x + y) / 18446744073709551616)])) w := by
  rw [run_callFunc_extern Tryd.func32 (by kernel_rfl) (by kernel_rfl) (by kernel_rfl) (e := add64Entry) (by kernel_rfl), run_add64 x y 0 hx hy (by omega) (by omega)]
  simp [Result.andThen]

/-- the product, by its size: what stands above, what below -/
theorem prod_parts (a n : Int) (hi lo : Nat) (h1 : a.natAbs * n.natAbs / 18446744073709551616 = hi) (h2 : a.natAbs * n.natAbs % 18446744073709551616 = lo) :
    ((a < 0 ↔ n < 0) → a * n = 18446744073709551616 * (hi : Int) + lo) ∧ (¬ (a < 0 ↔ n < 0) → a * n = -(18446744073709551616 * (hi : Int) + lo)) := by
  have hp : a.natAbs * n.natAbs = 18446744073709551616 * hi + lo := by omega
  have hq : ((a.natAbs * n.natAbs : Nat) : Int) = 18446744073709551616 * (hi : Int) + lo := by rw [hp]; simp
  rw [Int.natCast_mul] at hq
  constructor
  · intro h
    by_cases h3 : a < 0
    · have h4 := h.1 h3
      have ea : ((a.natAbs : Nat) : Int) = -a := by omega
      have en : ((n.natAbs : Nat) : Int) = -n := by omega
      rw [ea, en, Int.neg_mul_neg] at hq
      exact hq
    · have h4 : ¬ n < 0 := fun k => h3 (h.2 k)
      have ea : ((a.natAbs : Nat) : Int) = a := by omega
      have en : ((n.natAbs : Nat) : Int) = n := by omega
      rw [ea, en] at hq
      exact hq
  · intro h
    by_cases h3 : a < 0
    · have h4 : ¬ n < 0 := fun k => h ⟨fun _ => k, fun _ => h3⟩
      have ea : ((a.natAbs : Nat) : Int) = -a := by omega
      have en : ((n.natAbs : Nat) : Int) = n := by omega
      rw [ea, en, Int.neg_mul] at hq
      omega
    · have h4 : n < 0 := by
        by_cases k : n < 0
        · exact k
        · exact absurd ⟨fun k' => absurd k' h3, fun k' => absurd k' k⟩ h
      have ea : ((a.natAbs : Nat) : Int) = a := by omega
      have en : ((n.natAbs : Nat) : Int) = -n := by omega
      rw [ea, en, Int.mul_neg] at hq
      omega

end Go.Proofs.YtnnggchkdffpnaaDoor
