/-
  Layer 3: amounts of numbers, by contract; the sum of a row of the call's own.
-/
import Derived.Test.YtjnfmgbbhiklaaaCents5
import Derived.Test.YtjnfmgbbhiklaaaKitF
namespace Go.Proofs.Ytjnfmgbbhiklaaa
set_option linter.unusedSimpArgs false
set_option linter.unusedVariables false
open Go.RowKit Go.WideShapes Go.ChangeShapes Go.ChangeAt

theorem new_one (w : World) (v : Value) (t : Nat) : ∀ (j : Nat) (u : Value), [v][j]? = some u → (w.alloc (.cells #[v] t)).cell? ((⟨w.heap.size, 0, none⟩ : Addr).add j) = some u := by
  intro j u h
  have e : (⟨w.heap.size, 0, none⟩ : Addr).add j = ⟨w.heap.size, j, none⟩ := by
    rw [Go.WideShapes.add_plain, Nat.zero_add]
  rw [e, World.cell?_alloc_new]
  simpa using h
theorem one_int (x : Int) : ∀ u ∈ [Value.int .i64 x], u.oneCell' = true := by
  intro u hu
  simp at hu
  subst hu
  rfl
theorem take_next (xs : List Int) (k : Nat) (h : k < xs.length) : xs.take (k + 1) = xs.take k ++ [xs.getD k 0] := by
  rw [List.take_add_one, List.getElem?_eq_getElem h]
  simp [List.getD, h]
def CentsAt (xs : List Int) (w : World) (e : Ending) (w' : World) : Prop := ∃ (a : Option Addr) (c : Nat), e = .returned (.slice a xs.length c) ∧ w'.ownsRow w.heap.size 37 1 (.slice a xs.length c) xs.length (xs.map (Value.int .i64)) ∧ Below w.heap.size w w'

theorem sum_nil0 : sumV ([] : List Int).sum = 0 ∧ sumE ([] : List Int).sum = 0 := sum_in (show inR 0 by unfold inR; omega)
/-- the sum of what a row of the call's own holds -/
theorem total_owns (xs : List Int) (hx : ∀ x ∈ xs, inR x) (hn : xs.length ≤ 1000) (a : Option Addr) (c B : Nat) (w : World) (h : w.ownsRow B 37 1 (.slice a xs.length c) xs.length (xs.map (Value.int .i64))) :
    Calls Try.prog 24 #[.slice a xs.length c] w fun e w' => e = .returned (.tuple #[.int .i64 (sumV xs.sum), .int .i64 (sumE xs.sum)]) ∧ w = w' := by
  rcases h.2 with ⟨h1, h2⟩ | ⟨g, cap, cur, h1, h2, h3, h4, h5, h6, h7⟩
  · obtain rfl : xs = [] := List.eq_nil_of_length_eq_zero h2
    rw [sum_nil0.1, sum_nil0.2]
    simp only [Value.slice.injEq] at h1
    rw [h1.1, h1.2.2]
    exact total_nil 0 w
  · simp only [Value.slice.injEq] at h1
    rw [h1.1]
    refine total_any xs hx (by omega) g 0 c w fun k hk => ?_
    rw [cell_of_block h3, Nat.zero_add, ← Array.getElem?_toList]
    have e := congrArg (fun l : List Value => l[k]?) h7
    simp only [Nat.mul_one] at e
    rw [List.getElem?_take_of_lt hk] at e
    rw [e, List.getElem?_map, List.getElem?_eq_getElem hk]
    simp [List.getD, hk]
end Go.Proofs.Ytjnfmgbbhiklaaa
