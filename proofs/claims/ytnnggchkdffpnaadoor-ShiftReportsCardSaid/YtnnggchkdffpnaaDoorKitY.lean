/-
  General lemmas of this project's own: slices of slices that come in.
-/
import Derived.Test.YtnnggchkdffpnaaDoorKitV
namespace Go.Proofs.YtnnggchkdffpnaaDoor
set_option linter.unusedSimpArgs false
set_option linter.unusedVariables false
open Go.RowKit Go.WideShapes Go.ChangeShapes Go.ChangeAt Go.Deep
section
variable {H : Type} {enc : TypeId × Value → H} {P : Program} {w : World} {base : Nat} {sp : Nat → Bool} {held : Bool} {r : Reach} {b0 : Nat}
/-- a slice of one-cell elements: each as it reads -/
theorem open_ones {t e : TypeId} {v : Value} {d : DataW H} {ps : List MemPlace} (ht : P.underlying t = some (.slice e)) (hC : P.cellsOf e = 1) (hv : Value.okWide P w r b0 t v) (h : DataW.Trod enc P w base sp held t v d ps) :
    ∃ (a : Option Addr) (cap : Nat) (U : List Value), v = .slice a U.length cap ∧ U.length ≤ cap ∧ cap ≤ maxLen ∧ ∀ i, i < U.length → ∃ b off, a = some ⟨b, off, none⟩ ∧ b < w.heap.size ∧ w.cell? ⟨b, off + i, none⟩ = some (U.getD i undef) ∧ ∃ m0 y, DataW.trod enc P w base sp held m0 e [U.getD i undef] = some y := by
  obtain ⟨a, len, cap, rfl⟩ := okWide_slice ht hv
  obtain ⟨fuel, hh⟩ := h
  rcases open_slice ht hh with ⟨hcs, _⟩ | ⟨a', len', cap', m, n, D, Pl, hcs, _, hl, hm, hmm, _, hi⟩
  · simp [Value.cells] at hcs
    obtain ⟨rfl, rfl, rfl⟩ := hcs
    exact ⟨none, 0, [], rfl, by simp, by simp, by simp⟩
  · simp [Value.cells] at hcs
    obtain ⟨rfl, rfl, rfl⟩ := hcs
    have hlm : len ≤ m := by rw [hmm]; split <;> omega
    obtain ⟨U, hU, hp⟩ := list_of_all (α := Value) undef (fun i u => w.cell? (a'.add i) = some u ∧ ∃ m0 y, DataW.trod enc P w base sp held m0 e [u] = some y) len (fun i hil => by
      obtain ⟨cs', h1, h2⟩ := hi i (by omega)
      rw [hC, Nat.mul_one] at h1
      obtain ⟨_, hcl, hat⟩ := World.cells?_some h1
      obtain ⟨u, rfl⟩ : ∃ u, cs' = [u] := List.length_eq_one_iff.1 hcl
      have := hat 0 (by decide)
      rw [Go.Deep.add_add, Nat.add_zero] at this
      exact ⟨u, this, _, _, h2⟩)
    refine ⟨some a', cap, U, by rw [hU], by omega, hm, fun i hiL => ?_⟩
    obtain ⟨h1, h2⟩ := hp i (by omega)
    have hspot : a'.spot = none := by
      obtain ⟨g1, -⟩ := hp 0 (by omega)
      have := World.cell?_spot g1
      simpa [Addr.add] using this
    obtain ⟨b, off, spot⟩ := a'
    have hs : spot = none := hspot
    subst hs
    have e1 : (⟨b, off, none⟩ : Addr).add i = ⟨b, off + i, none⟩ := by rw [← Go.WideShapes.add_plain]
    rw [e1] at h1
    exact ⟨b, off, rfl, World.block_lt_of_cell? w _ h1, h1, h2⟩
end
end Go.Proofs.YtnnggchkdffpnaaDoor
