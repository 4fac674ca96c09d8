/-
  Layer 3, the document's calls: the sum of all, sums, differences.
-/
import Derived.Test.YtfdgfeohmkdnoaaRCents
import Derived.Test.YtfdgfeohmkdnoaaCents5
namespace Go.Proofs.Ytfdgfeohmkdnoaa
set_option linter.unusedSimpArgs false
set_option linter.unusedVariables false
open Go.RowKit Go.WideShapes Go.ChangeShapes Go.ChangeAt

set_option maxRecDepth 100000 in
set_option maxHeartbeats 800000 in
theorem rtotal_any (xs : List Int) (hx : ∀ x ∈ xs, inR x) (hn : xs.length ≤ 1000) (b o cap : Nat) (w : World) (hb : b < w.heap.size) (hc : ∀ k, k < xs.length → w.cell? ⟨b, o + k, none⟩ = some (.int .i64 (xs.getD k 0))) :
    Calls Try.prog 48 #[.slice (some ⟨b, o, none⟩) xs.length cap] w fun e w' => e = .returned (.tuple #[.int .i64 (sumV xs.sum), .int .i64 (sumE xs.sum)]) ∧ RowKit.Below w.heap.size w w' := by
  have HX := hide hx
  have HC := hide hc
  have HN := hide hn
  have HBS := hide hb
  have HB0 := hide ((RowKit.Below.refl w.heap.size w).alloc (Nat.le_refl _) (Obj.cells #[Value.int IntKind.i64 0, Value.int IntKind.i64 0] 112))
  have hnw := heap_new w (Obj.cells #[Value.int IntKind.i64 0, Value.int IntKind.i64 0] 112)
  have HNW := hide hnw
  clear hx hc hb hnw
  go_enter Try.func48, Try.ntmps48
  go_wp2_with fail
  go_loopw [5] (fun i W => ∃ (k : Nat) (h0 h1 : Int), k ≤ xs.length ∧ i = .int .i64 k ∧ RowKit.Below w.heap.size w W ∧ W.heap[w.heap.size]? = some (.cells #[.int .i64 h0, .int .i64 h1] 112 (0, 0)) ∧ (xs.take k).sum = 1000000000 * h0 + h1 ∧ (-(9223372037 * (k : Int)) ≤ h0 ∧ h0 ≤ 9223372037 * (k : Int)) ∧ (-(1000000000 * (k : Int)) ≤ h1 ∧ h1 ≤ 1000000000 * (k : Int))) (fun i _ => xs.length - (intOf i).toNat)
  case atStart => exact ⟨0, 0, 0, by omega, rfl, HB0.out, HNW.out, by simp, by omega, by omega⟩
  case round =>
    obtain ⟨k, h0, h1, hk, rfl, hB, hcell, hS, hb0, hb1⟩ := hrel
    have HB := hide hB
    have HCE := hide hcell
    have c0 := cell_of_block hcell 0
    have c1 := cell_of_block hcell 1
    by_cases hlt : k < xs.length
    · have hci := (HB.out.cell (p := ⟨b, o + k, none⟩) HBS.out).trans (HC.out k hlt)
      have hxr := getD_in xs HX.out k hlt
      have HST := hide (sum_step xs k hlt)
      have HHF := hide (fun W => half_any (xs.getD k 0) hxr W)
      obtain ⟨g1, g2, g3, g4, g5⟩ := half_facts (xs.getD k 0)
      have hrng : -9223372037 ≤ (xs.getD k 0).tdiv 1000000000 ∧ (xs.getD k 0).tdiv 1000000000 ≤ 9223372037 := by unfold inR at hxr; omega
      clear hB hcell hxr
      generalize xs.getD k 0 = x at *
      generalize x.tdiv 1000000000 = q at *
      generalize x.tmod 1000000000 = r at *
      have hw0 : wrap64 (h0 + q) = h0 + q := by unfold wrap64; omega
      have hw1 : wrap64 (h1 + r) = h1 + r := by unfold wrap64; omega
      have HF := hide (And.intro hS (And.intro hb0 (And.intro hb1 (And.intro g1 (And.intro g4 (And.intro g5 hrng))))))
      clear hS hb0 hb1 g1 g2 g3 g4 g5 hrng
      go_wp2_with fail
      refine (HHF.out _).mono ?_
      rintro e w2 ⟨rfl, hb⟩
      have hlt2 : w.heap.size < wr.heap.size := heap_lt HCE.out
      have HC2 := (hb.block _ hlt2).trans HCE.out
      have HB2 := HB.out.trans (hb.mono HB.out.size)
      have HC3 := hide ((heap_old w2 (Obj.cells #[Value.int .i64 q, Value.int .i64 r] 112) _ (heap_lt HC2)).trans HC2)
      have HX3 := hide (heap_new w2 (Obj.cells #[Value.int .i64 q, Value.int .i64 r] 112))
      have HB3 := hide (HB2.alloc HB2.size (Obj.cells #[Value.int .i64 q, Value.int .i64 r] 112))
      have hne : ¬ w.heap.size = w2.heap.size := by have := heap_lt HC2; omega
      clear hb hlt2 HC2 HB2 c0 c1 hci HHF HCE HB
      go_upto_region 6 with (fail)
      generalize w2.alloc (Obj.cells #[Value.int .i64 q, Value.int .i64 r] 112) = w3 at *
      generalize w2.heap.size = xb at *
      have c0 := cell_of_block HC3.out 0
      have c1 := cell_of_block HC3.out 1
      have d0 := cell_of_block HX3.out 0
      have d1 := cell_of_block HX3.out 1
      have f0 := frozen_of_block HC3.out 0
      have f1 := frozen_of_block HC3.out 1
      have hne2 : ¬ xb = w.heap.size := fun h => hne h.symm
      generalize hN : w.heap.size = N at *
      have HW0 := hide hw0
      have HW1 := hide hw1
      go_wp2_with fail
      clear hw0 hw1
      subst hN
      go_roundw
      case rel =>
        obtain ⟨e1, e2, e3, e4, e5, e6, e7⟩ := HF.out
        refine ⟨k + 1, h0 + q, h1 + r, by omega, by go_num, (HB3.out.setCell (p := ⟨w.heap.size, 0, none⟩) (Nat.le_refl _) _).setCell (p := ⟨w.heap.size, 1, none⟩) (Nat.le_refl _) _, ?_, by rw [HST.out]; omega, by omega, by omega⟩
        rw [block_setCell (block_setCell HC3.out 0 _) 1 _]
        try simp only [HW0.out, HW1.out]
        rfl
      case measure => simp [intOf]; omega
    · obtain rfl : k = xs.length := by omega
      rw [List.take_length] at hS
      have HBK := hide (fun W => back_any h0 h1 (by omega) (by omega) xs.sum hS W)
      clear hS hb0 hb1
      go_wp2_with fail
      refine (HBK.out _).mono ?_
      rintro e w2 ⟨rfl, hb⟩
      have HB2 := hide (HB.out.trans (hb.mono HB.out.size))
      clear hb
      go_wp2_with fail
      go_ret2
      exact ⟨rfl, HB2.out⟩
end Go.Proofs.Ytfdgfeohmkdnoaa
