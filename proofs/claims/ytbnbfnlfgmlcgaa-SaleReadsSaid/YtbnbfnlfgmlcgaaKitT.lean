/-
  A text's bytes as a new row, and back.
-/
import Derived.Test.YtbnbfnlfgmlcgaaKitN
import Derived.Test.YtbnbfnlfgmlcgaaBe
import Derived.Lib.ConvBytes
import Derived.Deep.Cut
import Derived.Deep.CutBlock
namespace Go.Proofs.Ytbnbfnlfgmlcgaa
set_option linter.unusedSimpArgs false
set_option linter.unusedVariables false
open Go.RowKit Go.WideShapes Go.ChangeShapes Go.ChangeAt

def rowC (l : List UInt8) (z : Nat) : Array Value := (l.map fun (b : UInt8) => Value.int .u8 (b.toNat : Int)).toArray ++ Array.replicate z (.int .u8 0)
theorem rowC_size (l : List UInt8) (z : Nat) : (rowC l z).size = l.length + z := by simp [rowC]
theorem rowC_at (l : List UInt8) (z i : Nat) (h : i < l.length) : (rowC l z)[i]? = some (.int .u8 ((l.getD i 0).toNat : Int)) := by
  unfold rowC
  rw [Array.getElem?_append_left (by simpa using h)]
  simp [List.getD, h]
theorem rowC_set (l : List UInt8) (z i : Nat) (h : i < l.length) (x : UInt8) : (rowC l z).setIfInBounds i (.int .u8 (x.toNat : Int)) = rowC (l.set i x) z := by
  unfold rowC
  rw [Array.setIfInBounds_append_left (by simpa using h)]
  congr 1
  simp [List.map_set]
/-- []byte(s): a new block that holds them -/
theorem conv_text (w : World) (s : ByteArray) : ∃ (z : Nat) (w' : World), (convert 9 44 (.string s)).run Try.prog w = .ok (.slice (some ⟨w.heap.size, 0, none⟩) s.size (s.size + z)) w' ∧
    Below w.heap.size w w' ∧ w'.heap.size = w.heap.size + 1 ∧ w'.heap[w.heap.size]? = some (.cells (rowC s.data.toList z) 5 (s.size + z, s.size + z + 1)) := by
  have hg := grownCap_ge w s.size 0 5
  have hc : Lib.bytesCells w 5 s = rowC s.data.toList (grownCap w s.size 0 5 - s.size) := by
    unfold Lib.bytesCells rowC
    congr 1
    apply Array.ext'
    simp
  have hz : (Lib.bytesCells w 5 s).size = s.size + (grownCap w s.size 0 5 - s.size) := by rw [hc, rowC_size, size_list]
  refine ⟨grownCap w s.size 0 5 - s.size, Lib.bytesWorld w 5 s, ?_, ⟨rfl, rfl, rfl, by rw [Lib.bytesWorld_size]; omega, fun k hk => Lib.bytesWorld_at_old w _ s k hk⟩, Lib.bytesWorld_size _ _ _, ?_⟩
  · rw [Lib.run_convert_string_bytes w 9 44 5 s Try.underlying9 Try.underlying44 Try.underlying5, show s.size + (grownCap w s.size 0 5 - s.size) = grownCap w s.size 0 5 by omega]
  · rw [Lib.bytesWorld_at_new, hz, hc]

end Go.Proofs.Ytbnbfnlfgmlcgaa
