/-
  Layer 3, the document's calls: the sum of nothing.
-/
import Derived.Test.YtjnfmgbbhiklaaaRCents3
namespace Go.Proofs.Ytjnfmgbbhiklaaa
set_option linter.unusedSimpArgs false
set_option linter.unusedVariables false
open Go.RowKit Go.WideShapes Go.ChangeShapes Go.ChangeAt

set_option maxRecDepth 100000 in
theorem rtotal_zero (a : Option Addr) (cap : Nat) (w : World) :
    Calls Try.prog 22 #[.slice a 0 cap] w fun e w' => e = .returned (.tuple #[.int .i64 0, .int .i64 0]) ∧ RowKit.Below w.heap.size w w' := by
  have HB0 := hide ((RowKit.Below.refl w.heap.size w).alloc (Nat.le_refl _) (Obj.cells #[Value.int IntKind.i64 0, Value.int IntKind.i64 0] 92))
  have HNW := hide (heap_new w (Obj.cells #[Value.int IntKind.i64 0, Value.int IntKind.i64 0] 92))
  obtain ⟨v1, v2⟩ := sum_in (show inR 0 by unfold inR; omega)
  have hbk := fun W => back_any 0 0 (by omega) (by omega) 0 (by omega) W
  rw [v1, v2] at hbk
  have HBK := hide hbk
  clear v1 v2 hbk
  go_enter Try.func22, Try.ntmps22
  go_wp2_with fail
  go_loopw [5] (fun i W => i = .int .i64 0 ∧ RowKit.Below w.heap.size w W ∧ W.heap[w.heap.size]? = some (.cells #[.int .i64 0, .int .i64 0] 92 (0, 0))) (fun i _ => 0)
  case atStart => exact ⟨rfl, HB0.out, HNW.out⟩
  case round =>
    obtain ⟨rfl, hB, hcell⟩ := hrel
    have HB := hide hB
    have c0 := cell_of_block hcell 0
    have c1 := cell_of_block hcell 1
    clear hB hcell
    go_wp2_with fail
    refine (HBK.out _).mono ?_
    rintro e w2 ⟨rfl, hb⟩
    have HB2 := hide (HB.out.trans (hb.mono HB.out.size))
    clear hb
    go_wp2_with fail
    go_ret2
    exact ⟨rfl, HB2.out⟩
end Go.Proofs.Ytjnfmgbbhiklaaa
