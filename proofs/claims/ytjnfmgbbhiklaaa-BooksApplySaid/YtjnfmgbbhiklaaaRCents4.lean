/-
  Layer 3, the document's calls: sums and differences of two.
-/
import Derived.Test.YtjnfmgbbhiklaaaRCents3
namespace Go.Proofs.Ytjnfmgbbhiklaaa
set_option linter.unusedSimpArgs false
set_option linter.unusedVariables false
open Go.RowKit Go.WideShapes Go.ChangeShapes Go.ChangeAt

set_option maxRecDepth 100000 in
theorem rsub_any (a b : Int) (ha : inR a) (hb : inR b) (w : World) :
    Calls Try.prog 27 #[.int .i64 a, .int .i64 b] w fun e w' => e = .returned (.tuple #[.int .i64 (sumV (a - b)), .int .i64 (sumE (a - b))]) ∧ RowKit.Below w.heap.size w w' := by
  have HHA := hide (fun W => half_any a ha W)
  have HHB := hide (fun W => half_any b hb W)
  obtain ⟨f1, f2, f3, f4, f5⟩ := half_facts a
  obtain ⟨g1, g2, g3, g4, g5⟩ := half_facts b
  have e1 : -9223372037 ≤ a.tdiv 1000000000 ∧ a.tdiv 1000000000 ≤ 9223372037 := by unfold inR at ha; omega
  have e2 : -9223372037 ≤ b.tdiv 1000000000 ∧ b.tdiv 1000000000 ≤ 9223372037 := by unfold inR at hb; omega
  generalize a.tdiv 1000000000 = q at *
  generalize a.tmod 1000000000 = r at *
  generalize b.tdiv 1000000000 = u at *
  generalize b.tmod 1000000000 = v at *
  have hw0 : wrap64 (q - u) = q - u := by unfold wrap64; omega
  have hw1 : wrap64 (r - v) = r - v := by unfold wrap64; omega
  have HBK := hide (fun W => back_any (q - u) (r - v) (by omega) (by omega) (a - b) (by omega) W)
  clear ha hb f1 f2 f3 f4 f5 g1 g2 g3 g4 g5 e1 e2
  go_enter Try.func27, Try.ntmps27
  go_wp2_with fail
  refine (HHA.out _).mono ?_
  rintro e w1 ⟨rfl, hb⟩
  have HB1 := hide hb
  clear hb
  go_upto_region 2 with (fail)
  have HX1 := hide (heap_new w1 (Obj.cells #[Value.int .i64 q, Value.int .i64 r] 92))
  have HB2 := hide (HB1.out.alloc HB1.out.size (Obj.cells #[Value.int .i64 q, Value.int .i64 r] 92))
  generalize w1.alloc (Obj.cells #[Value.int .i64 q, Value.int .i64 r] 92) = w2 at *
  generalize w1.heap.size = xa at *
  clear HB1
  go_wp2_with fail
  refine (HHB.out _).mono ?_
  rintro e w3 ⟨rfl, hb⟩
  have HX3 := (hb.block _ (heap_lt HX1.out)).trans HX1.out
  have HB3 := hide (HB2.out.trans (hb.mono HB2.out.size))
  have HX4 := hide ((heap_old w3 (Obj.cells #[Value.int .i64 u, Value.int .i64 v] 92) _ (heap_lt HX3)).trans HX3)
  have HY4 := hide (heap_new w3 (Obj.cells #[Value.int .i64 u, Value.int .i64 v] 92))
  have HB4 := hide (HB3.out.alloc HB3.out.size (Obj.cells #[Value.int .i64 u, Value.int .i64 v] 92))
  clear hb HX3 HB3 HB2 HX1
  go_upto_region 3 with (fail)
  generalize w3.alloc (Obj.cells #[Value.int .i64 u, Value.int .i64 v] 92) = w4 at *
  generalize w3.heap.size = xb at *
  have c0 := cell_of_block HX4.out 0
  have c1 := cell_of_block HX4.out 1
  have d0 := cell_of_block HY4.out 0
  have d1 := cell_of_block HY4.out 1
  go_wp2_with fail
  refine (HBK.out _).mono ?_
  rintro e w5 ⟨rfl, hb⟩
  have HB5 := hide (HB4.out.trans (hb.mono HB4.out.size))
  clear hb
  go_wp2_with fail
  go_ret2
  exact ⟨rfl, HB5.out⟩
end Go.Proofs.Ytjnfmgbbhiklaaa
