/-
  Layer 23: Copy; turned.
-/
import Derived.Test.YtjnfmgbbhiklaaaBooks2

namespace Go.Proofs.Ytjnfmgbbhiklaaa
set_option linter.unusedSimpArgs false
set_option linter.unusedVariables false
open Go.RowKit Go.WideShapes Go.ChangeShapes Go.ChangeAt Go.Deep
set_option maxRecDepth 100000 in
theorem bkcopy_any (N p bm : Nat) (M : List LnM) (w : World) (h : BooksIs N w p bm M) :
    Calls Try.prog 8 #[.pointer (some ⟨p, 0, none⟩)] w fun e w' => ∃ p' bm', e = .returned (.pointer (some ⟨p', 0, none⟩)) ∧ BooksIs N w' p' bm' M ∧ w.heap.size ≤ bm' ∧ w.heap.size ≤ p' ∧ Below w.heap.size w w' := by
  have HC := hide h
  obtain ⟨f, cn, hcn, ⟨D, h1, h2⟩, hF⟩ := h.map
  have HCL := hide (AnyW.maps_Clone_owns Try.cloneA 3 asIs bm cn D w h1)
  have H2 := hide h2
  have HF := hide hF
  have e0 := cell_of_block h.head 0
  clear h h1 h2 hF
  go_enter Try.func8, Try.ntmps8
  go_wp2_with fail
  refine HCL.out.mono ?_
  rintro e w1 ⟨rfl, ho, -, hb⟩
  have HO := hide ho
  have HB := hide hb
  clear ho hb e0 HCL
  go_wp2_with fail
  go_ret
  have hb2 := (Below.refl w1.heap.size w1).alloc (Nat.le_refl _) (.cells #[.map (some w.heap.size)] 62)
  have M1 : MapIs w1 Try.prog 3 w.heap.size cn M.length f := ⟨D, HO.out, H2.out⟩
  have hs := HB.out.size
  exact ⟨w1.heap.size, w.heap.size, rfl, ⟨heap_new _ _, ⟨f, cn, hcn, M1.below hb2, HF.out⟩, HC.out.rise, HC.out.nz, HC.out.ok⟩, Nat.le_refl _, hs, HB.out.trans (hb2.mono hs)⟩
def trnV (s : Int) : Int := if inR s then sumV (0 - s) else 0
def trnE (s : Int) : Int := if inR s then sumE (0 - s) else 6
set_option maxRecDepth 100000 in
theorem turned_with (v : Value) (s : Int) (w : World) (h : Calls Try.prog 24 #[v] w fun e w' => e = .returned (.tuple #[.int .i64 (sumV s), .int .i64 (sumE s)]) ∧ w = w') :
    Calls Try.prog 26 #[v] w fun e w' => e = .returned (.tuple #[.int .i64 (trnV s), .int .i64 (trnE s)]) ∧ w = w' := by
  have H := hide h
  clear h
  by_cases hs : inR s
  · obtain ⟨h1, h2⟩ := sum_in hs
    rw [h1, h2] at H
    have HS := hide (csub_any 0 s ⟨by omega, by omega⟩ hs w)
    have H1 := hide (show trnV s = sumV (0 - s) from if_pos hs)
    have H2 := hide (show trnE s = sumE (0 - s) from if_pos hs)
    generalize sumV (0 - s) = x at *
    generalize sumE (0 - s) = y at *
    clear h1 h2
    go_enter Try.func26, Try.ntmps26
    go_wp2_with fail
    refine H.out.mono ?_
    rintro e w1 ⟨rfl, rfl⟩
    go_wp2_with fail
    refine HS.out.mono ?_
    rintro e w1 ⟨rfl, rfl⟩
    go_wp2_with fail
    go_ret2
    exact ⟨by rw [H1.out, H2.out]; rfl, rfl⟩
  · obtain ⟨h1, h2⟩ := sum_out hs
    rw [h1, h2] at H
    have H1 := hide (show trnV s = 0 from if_neg hs)
    have H2 := hide (show trnE s = 6 from if_neg hs)
    clear h1 h2
    go_enter Try.func26, Try.ntmps26
    go_wp2_with fail
    refine H.out.mono ?_
    rintro e w1 ⟨rfl, rfl⟩
    go_wp2_with fail
    go_ret2
    exact ⟨by rw [H1.out, H2.out]; rfl, rfl⟩
end Go.Proofs.Ytjnfmgbbhiklaaa
