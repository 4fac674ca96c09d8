/-
  Layer 4, the program's calls: a reader by contracts.
-/
import Derived.Test.YtjnfmgbbhiklaaaKitD
import Derived.Test.YtjnfmgbbhiklaaaBe
--DBG
namespace Go.Proofs.Ytjnfmgbbhiklaaa
set_option linter.unusedSimpArgs false
set_option linter.unusedVariables false
open Go.RowKit


def noBytes : ByteArray := ⟨#[]⟩
/-- what is taken, what is left, and whether it is wrong -/
def rdTake (s : ByteArray) (bad : Bool) (n : Int) (ok : Bool) : ByteArray × ByteArray × Bool :=
  if bad = true then (⟨#[]⟩, s, true) else if ok = false ∨ (s.size : Int) < n then (⟨#[]⟩, s, true) else (s.extract 0 n.toNat, s.extract n.toNat s.size, false)

def endE (s : ByteArray) (bad : Bool) : Int := if bad = true ∨ s.size ≠ 0 then 4 else 0
theorem rdTake_size (s : ByteArray) (bad : Bool) (n : Int) (ok : Bool) : (rdTake s bad n ok).1.size ≤ s.size := by
  unfold rdTake
  split
  · exact Nat.zero_le _
  · split
    · exact Nat.zero_le _
    · simp; omega
theorem fits_zero (wd : Int) : fitsB (0 : Int).toNat wd = decide (1 ≤ wd ∧ wd ≤ 8) := by
  unfold fitsB
  rw [Bool.eq_iff_iff]
  simp only [decide_eq_true_eq]
  constructor
  · rintro ⟨h1, h2, _⟩; exact ⟨h1, h2⟩
  · rintro ⟨h1, h2⟩; exact ⟨h1, h2, pow256 _⟩
/-- a number's field -/
def rdNum (s : ByteArray) (bad : Bool) (wd : Int) : ByteArray × ByteArray × Bool := rdTake s bad wd (decide (1 ≤ wd ∧ wd ≤ 8))
end Go.Proofs.Ytjnfmgbbhiklaaa
