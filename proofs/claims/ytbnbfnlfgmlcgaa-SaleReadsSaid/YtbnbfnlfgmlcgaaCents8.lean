/-
  Layer 3: amounts of numbers, by contract; the sum of a row of the call's own.
-/
import Derived.Test.YtbnbfnlfgmlcgaaCents5
import Derived.Test.YtbnbfnlfgmlcgaaKitF
namespace Go.Proofs.Ytbnbfnlfgmlcgaa
set_option linter.unusedSimpArgs false
set_option linter.unusedVariables false
open Go.RowKit Go.WideShapes Go.ChangeShapes Go.ChangeAt

theorem new_one (w : World) (v : Value) (t : Nat) : ∀ (j : Nat) (u : Value), [v][j]? = some u → (w.alloc (.cells #[v] t)).cell? ((⟨w.heap.size, 0, none⟩ : Addr).add j) = some u := by
  intro j u h
  have e : (⟨w.heap.size, 0, none⟩ : Addr).add j = ⟨w.heap.size, j, none⟩ := by
    rw [Go.WideShapes.add_plain, Nat.zero_add]
  rw [e, World.cell?_alloc_new]
  simpa using h
theorem one_int (x : Int) : ∀ u ∈ [Value.int .i64 x], u.oneCell' = true := by
  intro u hu
  simp at hu
  subst hu
  rfl
theorem take_next (xs : List Int) (k : Nat) (h : k < xs.length) : xs.take (k + 1) = xs.take k ++ [xs.getD k 0] := by
  rw [List.take_add_one, List.getElem?_eq_getElem h]
  simp [List.getD, h]
def CentsAt (xs : List Int) (w : World) (e : Ending) (w' : World) : Prop := ∃ (a : Option Addr) (c : Nat), e = .returned (.slice a xs.length c) ∧ w'.ownsRow w.heap.size 31 1 (.slice a xs.length c) xs.length (xs.map (Value.int .i64)) ∧ Below w.heap.size w w'

theorem sum_nil0 : sumV ([] : List Int).sum = 0 ∧ sumE ([] : List Int).sum = 0 := sum_in (show inR 0 by unfold inR; omega)
end Go.Proofs.Ytbnbfnlfgmlcgaa
