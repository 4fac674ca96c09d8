/-
  Layer 3's laws: CentsOrder: what it needs of lists, and its walk.
-/
import Derived.Test.YtbfllpidnfcmpaaDoorCents7
import Derived.Test.YtbfllpidnfcmpaaDoorCents8
namespace Go.Proofs.YtbfllpidnfcmpaaDoor
set_option linter.unusedSimpArgs false
set_option linter.unusedVariables false
open Go.RowKit Go.WideShapes Go.ChangeShapes Go.ChangeAt

def sumTo (f : Nat → Int) : Nat → Int
  | 0 => 0
  | k + 1 => sumTo f k + f k
theorem sumTo_congr {f g : Nat → Int} : ∀ n, (∀ i, i < n → f i = g i) → sumTo f n = sumTo g n
  | 0, _ => rfl
  | k + 1, h => by rw [sumTo, sumTo, sumTo_congr k fun i hi => h i (by omega), h k (by omega)]
theorem sumTo_first (f : Nat → Int) : ∀ n, sumTo f (n + 1) = f 0 + sumTo (fun i => f (i + 1)) n
  | 0 => by simp [sumTo]
  | k + 1 => by rw [sumTo, sumTo_first f k, sumTo]; omega
theorem sumTo_back (g : Nat → Int) : ∀ n, sumTo (fun i => g (n - 1 - i)) n = sumTo g n
  | 0 => rfl
  | k + 1 => by
    rw [sumTo_first, sumTo, ← sumTo_back g k]
    have e : sumTo (fun i => g (k + 1 - 1 - (i + 1))) k = sumTo (fun i => g (k - 1 - i)) k := sumTo_congr k fun i hi => by
      show g _ = g _
      congr 1
      omega
    rw [e]
    show g (k + 1 - 1 - 0) + _ = _
    rw [show k + 1 - 1 - 0 = k by omega]
    omega
theorem sumTo_turn (g : Nat → Int) (m : Nat) : ∀ t, sumTo (fun i => g ((m + 1 - 1 - i + t) % (m + 1))) (m + 1) = sumTo g (m + 1)
  | 0 => by
    rw [← sumTo_back g (m + 1)]
    exact sumTo_congr _ fun i hi => by
      show g _ = g _
      congr 1
      rw [Nat.add_zero, Nat.mod_eq_of_lt (by omega)]
  | t + 1 => by
    rw [← sumTo_turn g m t, sumTo_first, sumTo]
    have e : sumTo (fun i => g ((m + 1 - 1 - (i + 1) + (t + 1)) % (m + 1))) m = sumTo (fun i => g ((m + 1 - 1 - i + t) % (m + 1))) m := sumTo_congr m fun i hi => by
      show g _ = g _
      rw [show m + 1 - 1 - (i + 1) + (t + 1) = m + 1 - 1 - i + t by omega]
    rw [e]
    show g _ + _ = _ + g _
    rw [show m + 1 - 1 - 0 + (t + 1) = t + (m + 1) by omega, Nat.add_mod_right, show m + 1 - 1 - m + t = t by omega]
    omega
theorem sum_sumTo (xs : List Int) : ∀ k, k ≤ xs.length → (xs.take k).sum = sumTo (fun i => xs.getD i 0) k
  | 0, _ => by simp [sumTo]
  | k + 1, h => by rw [sum_step xs k (by omega), sum_sumTo xs k (by omega), sumTo]
def turnL (xs : List Int) (t k : Nat) : List Int := (List.range k).map fun i => xs.getD ((xs.length - 1 - i + t) % xs.length) 0
theorem turnL_next (xs : List Int) (t k : Nat) : turnL xs t (k + 1) = turnL xs t k ++ [xs.getD ((xs.length - 1 - k + t) % xs.length) 0] := by simp [turnL, List.range_succ]
theorem turnL_length (xs : List Int) (t k : Nat) : (turnL xs t k).length = k := by simp [turnL]
theorem turnL_sumTo (xs : List Int) (t : Nat) : ∀ k, (turnL xs t k).sum = sumTo (fun i => xs.getD ((xs.length - 1 - i + t) % xs.length) 0) k
  | 0 => by simp [turnL, sumTo]
  | k + 1 => by rw [turnL_next, List.sum_append, turnL_sumTo xs t k, sumTo]; simp
theorem turnL_sum (xs : List Int) (t : Nat) (h : 0 < xs.length) : (turnL xs t xs.length).sum = xs.sum := by
  have e := sum_sumTo xs xs.length (Nat.le_refl _)
  rw [List.take_length] at e
  rw [turnL_sumTo, e]
  obtain ⟨m, hm⟩ : ∃ m, xs.length = m + 1 := ⟨xs.length - 1, by omega⟩
  rw [hm]
  exact sumTo_turn (fun i => xs.getD i 0) m t
theorem turnL_in (xs : List Int) (t k : Nat) (h : 0 < xs.length) (hx : ∀ x ∈ xs, inR x) : ∀ x ∈ turnL xs t k, inR x := by
  intro x hx2
  simp only [turnL, List.mem_map] at hx2
  obtain ⟨i, _, rfl⟩ := hx2
  exact getD_in xs hx _ (Nat.mod_lt _ h)

/-- amounts of what a row of the call's own holds -/
theorem list_owns (xs : List Int) (hn : xs.length ≤ 1000) (a : Option Addr) (c B : Nat) (w : World) (h : w.ownsRow B 2 1 (.slice a xs.length c) xs.length (xs.map (Value.int .i64))) :
    Calls Tryd.prog 16 #[.slice a xs.length c] w (CentsAt xs w) := by
  rcases h.2 with ⟨h1, h2⟩ | ⟨g, cap, cur, h1, h2, h3, h4, h5, h6, h7⟩
  · obtain rfl : xs = [] := List.eq_nil_of_length_eq_zero h2
    refine (list_zero a c w).mono ?_
    rintro e w' ⟨rfl, rfl⟩
    exact ⟨none, 0, rfl, World.ownsRow_nil _ _ _ _, Below.refl _ _⟩
  · simp only [Value.slice.injEq] at h1
    rw [h1.1]
    refine list_any xs hn g 0 c w (heap_lt h3) fun k hk => ?_
    rw [cell_of_block h3, Nat.zero_add, ← Array.getElem?_toList]
    have e := congrArg (fun l : List Value => l[k]?) h7
    simp only [Nat.mul_one] at e
    rw [List.getElem?_take_of_lt hk] at e
    rw [e, List.getElem?_map, List.getElem?_eq_getElem hk]
    simp [List.getD, hk]
theorem sum_split (xs : List Int) (k : Nat) : (xs.take k).sum + (xs.drop k).sum = xs.sum := by rw [← List.sum_append, List.take_append_drop]
end Go.Proofs.YtbfllpidnfcmpaaDoor
