/-
  Layer 11, the program's calls: Count, Spread, New, Take, Most by contracts.
-/
import Derived.Test.YtpgogdnjddeagaaPool
import Derived.Deep.DeepCutAuto
import Derived.Deep.RegionHeld3
namespace Go.Proofs.Ytpgogdnjddeagaa
set_option linter.unusedSimpArgs false
set_option linter.unusedVariables false
open Go.RowKit

def aheadB (most : Bool) (x y : Int) : Bool := if most then decide (y < x) else decide (x < y)
/-- the best of the first k blocks; -1: none -/
def bestK (most : Bool) (L : List (Int × Int)) : Nat → Int
  | 0 => -1
  | k + 1 => if (L.getD k (0, 0)).1 = 1 ∧ (bestK most L k < 0 ∨ aheadB most (L.getD k (0, 0)).2 (L.getD (bestK most L k).toNat (0, 0)).2 = true) then (k : Int) else bestK most L k
theorem bestK_bd (most : Bool) (L : List (Int × Int)) : ∀ k : Nat, -1 ≤ bestK most L k ∧ bestK most L k < k
  | 0 => by simp [bestK]
  | k + 1 => by
    have := bestK_bd most L k
    unfold bestK
    split <;> omega
theorem bestK_next (most : Bool) (L : List (Int × Int)) (k : Nat) :
    ((L.getD k (0, 0)).1 = 1 → (bestK most L k < 0 ∨ aheadB most (L.getD k (0, 0)).2 (L.getD (bestK most L k).toNat (0, 0)).2 = true) → bestK most L (k + 1) = (k : Int)) ∧
    (((L.getD k (0, 0)).1 = 1 → ¬ bestK most L k < 0 ∧ ¬ aheadB most (L.getD k (0, 0)).2 (L.getD (bestK most L k).toNat (0, 0)).2 = true) → bestK most L (k + 1) = bestK most L k) := by
  refine ⟨fun h1 h2 => if_pos ⟨h1, h2⟩, fun h => if_neg ?_⟩
  rintro ⟨h1, h2⟩
  obtain ⟨h3, h4⟩ := h h1
  rcases h2 with h2 | h2
  · exact h3 h2
  · exact h4 h2
def takeZ (most : Bool) (L : List (Int × Int)) : Int × Int := if bestK most L L.length < 0 then (0, 13) else (bestK most L L.length, 0)
def takeL (most : Bool) (L : List (Int × Int)) : List (Int × Int) := if bestK most L L.length < 0 then L else L.set (bestK most L L.length).toNat (2, (L.getD (bestK most L L.length).toNat (0, 0)).2)
theorem keep_pick {w W W' : World} {nb p q n : Nat} {x y : Int} (h : W.cell? ⟨nb, 0, none⟩ = some (.int .i64 x) ∧ W.cell? ⟨nb, 1, none⟩ = some (.int .i64 y) ∧ W.cell? ⟨p, 0, none⟩ = some (.slice (some ⟨q, 0, none⟩) n n) ∧ nb < W.heap.size ∧ p < W.heap.size ∧ Below w.heap.size w W) (hb : Below W.heap.size W W') : W'.cell? ⟨nb, 0, none⟩ = some (.int .i64 x) ∧ W'.cell? ⟨nb, 1, none⟩ = some (.int .i64 y) ∧ W'.cell? ⟨p, 0, none⟩ = some (.slice (some ⟨q, 0, none⟩) n n) ∧ nb < W'.heap.size ∧ p < W'.heap.size ∧ Below w.heap.size w W' := by
  obtain ⟨c0, c1, c2, l0, l1, hB⟩ := h
  exact ⟨cell_keep c0 l0 hb, cell_keep c1 l0 hb, cell_keep c2 l1 hb, Nat.lt_of_lt_of_le l0 hb.size, Nat.lt_of_lt_of_le l1 hb.size, below_trans hB hb⟩
theorem drew_pick {w W : World} {nb p q n : Nat} {x y : Int} (h : W.cell? ⟨nb, 0, none⟩ = some (.int .i64 x) ∧ W.cell? ⟨nb, 1, none⟩ = some (.int .i64 y) ∧ W.cell? ⟨p, 0, none⟩ = some (.slice (some ⟨q, 0, none⟩) n n) ∧ nb < W.heap.size ∧ p < W.heap.size ∧ Below w.heap.size w W) : W.drew.cell? ⟨nb, 0, none⟩ = some (.int .i64 x) ∧ W.drew.cell? ⟨nb, 1, none⟩ = some (.int .i64 y) ∧ W.drew.cell? ⟨p, 0, none⟩ = some (.slice (some ⟨q, 0, none⟩) n n) ∧ nb < W.drew.heap.size ∧ p < W.drew.heap.size ∧ Below w.heap.size w W.drew := by
  obtain ⟨c0, c1, c2, l0, l1, hB⟩ := h
  exact ⟨c0, c1, c2, l0, l1, hB.drew⟩
theorem keep_pick3 {w W W' : World} {nb p q n j : Nat} {x y u v : Int} (h : W.cell? ⟨nb, 0, none⟩ = some (.int .i64 x) ∧ W.cell? ⟨nb, 1, none⟩ = some (.int .i64 y) ∧ W.cell? ⟨p, 0, none⟩ = some (.slice (some ⟨q, 0, none⟩) n n) ∧ W.cell? ⟨q, j * 2, none⟩ = some (.int .i64 u) ∧ W.cell? ⟨q, j * 2 + 1, none⟩ = some (.int .i64 v) ∧ nb < W.heap.size ∧ p < W.heap.size ∧ q < W.heap.size ∧ Below w.heap.size w W) (hb : Below W.heap.size W W') : W'.cell? ⟨nb, 0, none⟩ = some (.int .i64 x) ∧ W'.cell? ⟨nb, 1, none⟩ = some (.int .i64 y) ∧ W'.cell? ⟨p, 0, none⟩ = some (.slice (some ⟨q, 0, none⟩) n n) ∧ W'.cell? ⟨q, j * 2, none⟩ = some (.int .i64 u) ∧ W'.cell? ⟨q, j * 2 + 1, none⟩ = some (.int .i64 v) ∧ nb < W'.heap.size ∧ p < W'.heap.size ∧ q < W'.heap.size ∧ Below w.heap.size w W' := by
  obtain ⟨c0, c1, c2, c3, c4, l0, l1, l2, hB⟩ := h
  exact ⟨cell_keep c0 l0 hb, cell_keep c1 l0 hb, cell_keep c2 l1 hb, cell_keep c3 l2 hb, cell_keep c4 l2 hb, Nat.lt_of_lt_of_le l0 hb.size, Nat.lt_of_lt_of_le l1 hb.size, Nat.lt_of_lt_of_le l2 hb.size, below_trans hB hb⟩
theorem drew_pick3 {w W : World} {nb p q n j : Nat} {x y u v : Int} (h : W.cell? ⟨nb, 0, none⟩ = some (.int .i64 x) ∧ W.cell? ⟨nb, 1, none⟩ = some (.int .i64 y) ∧ W.cell? ⟨p, 0, none⟩ = some (.slice (some ⟨q, 0, none⟩) n n) ∧ W.cell? ⟨q, j * 2, none⟩ = some (.int .i64 u) ∧ W.cell? ⟨q, j * 2 + 1, none⟩ = some (.int .i64 v) ∧ nb < W.heap.size ∧ p < W.heap.size ∧ q < W.heap.size ∧ Below w.heap.size w W) : W.drew.cell? ⟨nb, 0, none⟩ = some (.int .i64 x) ∧ W.drew.cell? ⟨nb, 1, none⟩ = some (.int .i64 y) ∧ W.drew.cell? ⟨p, 0, none⟩ = some (.slice (some ⟨q, 0, none⟩) n n) ∧ W.drew.cell? ⟨q, j * 2, none⟩ = some (.int .i64 u) ∧ W.drew.cell? ⟨q, j * 2 + 1, none⟩ = some (.int .i64 v) ∧ nb < W.drew.heap.size ∧ p < W.drew.heap.size ∧ q < W.drew.heap.size ∧ Below w.heap.size w W.drew := by
  obtain ⟨c0, c1, c2, c3, c4, l0, l1, l2, hB⟩ := h
  exact ⟨c0, c1, c2, c3, c4, l0, l1, l2, hB.drew⟩

end Go.Proofs.Ytpgogdnjddeagaa
