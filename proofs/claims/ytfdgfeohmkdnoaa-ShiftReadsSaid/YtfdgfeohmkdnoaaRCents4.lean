/-
  Layer 3, the document's calls: sums and differences of two.
-/
import Derived.Test.YtfdgfeohmkdnoaaRCents3
namespace Go.Proofs.Ytfdgfeohmkdnoaa
set_option linter.unusedSimpArgs false
set_option linter.unusedVariables false
open Go.RowKit Go.WideShapes Go.ChangeShapes Go.ChangeAt

set_option maxRecDepth 100000 in
theorem radd_any (a b : Int) (ha : inR a) (hb : inR b) (w : World) :
    Calls Try.prog 32 #[.int .i64 a, .int .i64 b] w fun e w' => e = .returned (.tuple #[.int .i64 (sumV (a + b)), .int .i64 (sumE (a + b))]) ∧ RowKit.Below w.heap.size w w' := by
  have HA := hide ((RowKit.Below.refl w.heap.size w).alloc (Nat.le_refl _) (Obj.cells #[Value.int IntKind.i64 a, Value.int IntKind.i64 b] 2))
  have HTT := hide (rtotal_any [a, b] (by intro x hx; simp at hx; rcases hx with rfl | rfl <;> assumption) (by simp) w.heap.size 0 2 (w.alloc (Obj.cells #[Value.int IntKind.i64 a, Value.int IntKind.i64 b] 2)) (by simp) (fun k hk => by
    match k, hk with
    | 0, _ => exact World.cell?_alloc_new _ _ _ _
    | 1, _ => exact World.cell?_alloc_new _ _ _ _))
  rw [show [a, b].sum = a + b by simp] at HTT
  clear ha hb
  go_enter Try.func32, Try.ntmps32
  go_wp2_with fail
  refine HTT.out.mono ?_
  rintro e w1 ⟨rfl, hb⟩
  have HB := hide (HA.out.trans (hb.mono HA.out.size))
  clear hb
  go_wp2_with fail
  go_ret2
  exact ⟨rfl, HB.out⟩
end Go.Proofs.Ytfdgfeohmkdnoaa
