/-
  Layer 5, the program's calls: New of a shape that may not be.
-/
import Derived.Test.YthippbckjldijaaNand13
namespace Go.Proofs.Ythippbckjldijaa
set_option linter.unusedSimpArgs false
set_option linter.unusedVariables false
open Go.RowKit Go.WideShapes Go.ChangeShapes Go.ChangeAt Go.Deep

set_option maxRecDepth 100000 in
theorem new_bad (b p s : Int) (h : rightS b p s = false) (v : Value) (w : World) :
    Calls Try.prog 8 #[.agg #[.int .i64 b, .int .i64 p, .int .i64 s], v] w fun e w' => e = .returned (.tuple #[.pointer none, .int .i64 2]) ∧ Below w.heap.size w w' := by
  have HR := hide (fun W => right_any b p s W)
  rw [h] at HR
  clear h
  go_enter Try.func8, Try.ntmps8
  go_wp2_with fail
  refine (HR.out _).mono ?_
  rintro e w1 ⟨rfl, hb⟩
  have HB := hide (((Below.refl w.heap.size w).alloc (Nat.le_refl _) (.cells #[.int .i64 b, .int .i64 p, .int .i64 s] 26)).trans (hb.mono (by simp)))
  clear hb
  go_wp2_with fail
  go_ret2
  exact ⟨rfl, HB.out⟩
end Go.Proofs.Ythippbckjldijaa
