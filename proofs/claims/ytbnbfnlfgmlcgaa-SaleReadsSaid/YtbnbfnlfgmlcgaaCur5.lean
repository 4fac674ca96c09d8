/-
  Layer 4: write, and the document's Write by contracts.
-/
import Derived.Test.YtbnbfnlfgmlcgaaCur4
import Derived.Test.YtbnbfnlfgmlcgaaRef1
--DBG
namespace Go.Proofs.Ytbnbfnlfgmlcgaa
set_option linter.unusedSimpArgs false
set_option linter.unusedVariables false
open Go.RowKit

/-- fields lie below block B -/
def FldsAt (w : World) (B : Nat) (a : Option Addr) (m : List Fld) : Prop := ∀ i, i < m.length → ∃ g, a = some ⟨g, 0, none⟩ ∧ g < B ∧ ∀ j, j < 4 → w.cell? ⟨g, i * 4 + j, none⟩ = (fc (m.getD i fld0))[j]?
theorem FldsAt.below {w w' : World} {B : Nat} {a : Option Addr} {m : List Fld} (h : FldsAt w B a m) (hb : Below B w w') : FldsAt w' B a m := fun i hi => by
  obtain ⟨g, h1, h2, h3⟩ := h i hi
  exact ⟨g, h1, h2, fun j hj => by rw [hb.cell (p := ⟨g, i * 4 + j, none⟩) h2]; exact h3 j hj⟩
theorem FldsAt.at {w : World} {B : Nat} {a : Option Addr} {m : List Fld} (h : FldsAt w B a m) (i : Nat) (hi : i < m.length) :
    ∃ g, a = some ⟨g, 0, none⟩ ∧ g < B ∧ w.cell? ⟨g, i * 4, none⟩ = some (.int .i64 (m.getD i fld0).k) ∧ w.cell? ⟨g, i * 4 + 1, none⟩ = some (.int .i64 (m.getD i fld0).w) ∧ w.cell? ⟨g, i * 4 + 2, none⟩ = some (.int .u64 (m.getD i fld0).n) ∧ w.cell? ⟨g, i * 4 + 3, none⟩ = some (.string (m.getD i fld0).s) := by
  obtain ⟨g, h1, h2, h3⟩ := h i hi
  exact ⟨g, h1, h2, h3 0 (by omega), h3 1 (by omega), h3 2 (by omega), h3 3 (by omega)⟩
theorem take_getD (m : List Fld) (k : Nat) (h : k < m.length) : m.take (k + 1) = m.take k ++ [m.getD k fld0] := by
  rw [List.take_succ_eq_append_getElem h]
  simp [List.getD, h]
theorem getD_mem (m : List Fld) (k : Nat) (h : k < m.length) : m.getD k fld0 ∈ m := by simp [List.getD, h]
theorem wrap_back (n : Int) (h0 : 0 ≤ n) (h1 : n ≤ 18446744073709551615) : IntKind.u64.wrap (wrap64 n) = n := by
  rw [IntKind.wrap_u64]
  unfold wrap64
  omega
theorem wrap64_bd (n : Int) : -9223372036854775808 ≤ wrap64 n ∧ wrap64 n ≤ 9223372036854775807 := by unfold wrap64; omega
end Go.Proofs.Ytbnbfnlfgmlcgaa
