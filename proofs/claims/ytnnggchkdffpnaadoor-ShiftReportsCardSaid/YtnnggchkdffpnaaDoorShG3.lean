/-
  Layer 26: Totals of any number, Copy, by contract.
-/
import Derived.Test.YtnnggchkdffpnaaDoorShG2
--import Derived.Test.Zdbg
namespace Go.Proofs.YtnnggchkdffpnaaDoor
set_option linter.unusedSimpArgs false
set_option linter.unusedVariables false
open Go.RowKit Go.WideShapes Go.ChangeShapes Go.ChangeAt Go.Deep
def STotIs (M : ShM) (n : Int) (w : World) (e : Ending) (w' : World) : Prop := e = .returned (.tuple #[totV ((shTot M n).getD tot0), .bool (shTot M n).isSome]) ∧ Below w.heap.size w w'
set_option maxRecDepth 100000 in
set_option maxHeartbeats 8000000 in
theorem shtot_closed (n : Int) (hn : inR n) (B p : Nat) (keep next xc xs xv xr xi xo : Int) (L : List TotM) (V : Value) (w : World) (h : ShIs w B p ⟨keep, next, false, ⟨xc, xs, xv, xr, xi, xo⟩, L⟩ V) :
    Calls Tryd.prog 11 #[.pointer (some ⟨p, 0, none⟩), .int .i64 n] w (STotIs ⟨keep, next, false, ⟨xc, xs, xv, xr, xi, xo⟩, L⟩ n w) := by
  have hnx : 1 ≤ next ∧ next ≤ 4294967296 := h.ok.nx
  have hlow : (L.length : Int) + 0 ≤ next - 1 := h.ok.low
  unfold inR at hn
  obtain ⟨a, cp, rfl⟩ := owns_split h.row
  have HR0 := hide (show w.ownsRow B 34 6 (.slice a L.length cp) L.length (L.flatMap totC) from h.row)
  have HD := hide (show w.heap[p]? = some (.cells #[.int .i64 keep, .int .i64 next, .bool false, .int .i64 xc, .int .i64 xs, .int .i64 xv, .int .i64 xr, .int .i64 xi, .int .i64 xo, .slice a L.length cp] 56 (0, 0)) from h.head)
  have HTO := hide (show shTot ⟨keep, next, false, ⟨xc, xs, xv, xr, xi, xo⟩, L⟩ n = if next ≤ n ∨ n < next - (L.length : Int) then none else some (L.getD ((L.length : Int) - (next - n)).toNat tot0) from by unfold shTot shLast; dsimp only; rw [if_neg (fun hh => by cases hh.1), if_neg (show ¬ (false = true) from by decide)])
  clear h
  unfold STotIs
  have hal := (Below.refl w.heap.size w).alloc (Nat.le_refl _) (.cells #[.int .i64 0, .int .i64 0, .int .i64 0, .int .i64 0, .int .i64 0, .int .i64 0] 34)
  have XR := hide (heap_new w (.cells #[.int .i64 0, .int .i64 0, .int .i64 0, .int .i64 0, .int .i64 0, .int .i64 0] 34))
  have N := hide (show (w.alloc (.cells #[.int .i64 0, .int .i64 0, .int .i64 0, .int .i64 0, .int .i64 0, .int .i64 0] 34)).heap[p]? = some (.cells #[.int .i64 keep, .int .i64 next, .bool false, .int .i64 xc, .int .i64 xs, .int .i64 xv, .int .i64 xr, .int .i64 xi, .int .i64 xo, .slice a L.length cp] 56 (0, 0)) from (hal.block _ (heap_lt HD.out)).trans HD.out)
  have HR := hide (owns_below HR0.out hal)
  have BB := hide hal
  clear hal
  go_enter Tryd.func11, Tryd.ntmps11
  go_upto_region 1 with (fail)
  generalize w.alloc (.cells #[.int .i64 0, .int .i64 0, .int .i64 0, .int .i64 0, .int .i64 0, .int .i64 0] 34) = w1 at *
  generalize hrb : w.heap.size = rb at XR ⊢
  have HBrb := hide (show w.heap.size ≤ rb from by rw [hrb]; exact Nat.le_refl _)
  clear hrb HD HR0
  obtain ⟨⟨c0, c1, c2, c3, c4, c5, c6, c7, c8, c9⟩, -⟩ := sh_facts N.out
  by_cases ho : next ≤ n ∨ n < next - (L.length : Int)
  · have HE := hide (HTO.out.trans (if_pos ho))
    obtain ⟨⟨g0, g1, g2, g3, g4, g5⟩, ⟨q0, q1, q2, q3, q4, q5⟩⟩ := six_facts XR.out
    by_cases h1 : next ≤ n
    · clear ho
      go_wp2_with fail
      clear g0 g1 g2 g3 g4 g5 q0 q1 q2 q3 q4 q5 c0 c1 c2 c3 c4 c5 c6 c7 c8 c9
      have Hf0 := hide (show (w1.setCell ⟨rb, 0, none⟩ (.int .i64 0)).heap[rb]? = some (.cells #[.int .i64 0, .int .i64 0, .int .i64 0, .int .i64 0, .int .i64 0, .int .i64 0] 34 (0, 0)) from block_setCell XR.out 0 (.int .i64 0))
      have Bf0 := hide (BB.out.setCell (p := ⟨rb, 0, none⟩) HBrb.out (.int .i64 0))
      generalize w1.setCell ⟨rb, 0, none⟩ (.int .i64 0) = wf0 at *
      have Hf1 := hide (show (wf0.setCell ⟨rb, 1, none⟩ (.int .i64 0)).heap[rb]? = some (.cells #[.int .i64 0, .int .i64 0, .int .i64 0, .int .i64 0, .int .i64 0, .int .i64 0] 34 (0, 0)) from block_setCell Hf0.out 1 (.int .i64 0))
      have Bf1 := hide (Bf0.out.setCell (p := ⟨rb, 1, none⟩) HBrb.out (.int .i64 0))
      generalize wf0.setCell ⟨rb, 1, none⟩ (.int .i64 0) = wf1 at *
      have Hf2 := hide (show (wf1.setCell ⟨rb, 2, none⟩ (.int .i64 0)).heap[rb]? = some (.cells #[.int .i64 0, .int .i64 0, .int .i64 0, .int .i64 0, .int .i64 0, .int .i64 0] 34 (0, 0)) from block_setCell Hf1.out 2 (.int .i64 0))
      have Bf2 := hide (Bf1.out.setCell (p := ⟨rb, 2, none⟩) HBrb.out (.int .i64 0))
      generalize wf1.setCell ⟨rb, 2, none⟩ (.int .i64 0) = wf2 at *
      have Hf3 := hide (show (wf2.setCell ⟨rb, 3, none⟩ (.int .i64 0)).heap[rb]? = some (.cells #[.int .i64 0, .int .i64 0, .int .i64 0, .int .i64 0, .int .i64 0, .int .i64 0] 34 (0, 0)) from block_setCell Hf2.out 3 (.int .i64 0))
      have Bf3 := hide (Bf2.out.setCell (p := ⟨rb, 3, none⟩) HBrb.out (.int .i64 0))
      generalize wf2.setCell ⟨rb, 3, none⟩ (.int .i64 0) = wf3 at *
      have Hf4 := hide (show (wf3.setCell ⟨rb, 4, none⟩ (.int .i64 0)).heap[rb]? = some (.cells #[.int .i64 0, .int .i64 0, .int .i64 0, .int .i64 0, .int .i64 0, .int .i64 0] 34 (0, 0)) from block_setCell Hf3.out 4 (.int .i64 0))
      have Bf4 := hide (Bf3.out.setCell (p := ⟨rb, 4, none⟩) HBrb.out (.int .i64 0))
      generalize wf3.setCell ⟨rb, 4, none⟩ (.int .i64 0) = wf4 at *
      have Hf5 := hide (show (wf4.setCell ⟨rb, 5, none⟩ (.int .i64 0)).heap[rb]? = some (.cells #[.int .i64 0, .int .i64 0, .int .i64 0, .int .i64 0, .int .i64 0, .int .i64 0] 34 (0, 0)) from block_setCell Hf4.out 5 (.int .i64 0))
      have Bf5 := hide (Bf4.out.setCell (p := ⟨rb, 5, none⟩) HBrb.out (.int .i64 0))
      generalize wf4.setCell ⟨rb, 5, none⟩ (.int .i64 0) = wf5 at *
      (try simp only [Exit.inBlock, Exit.then])
      refine bodyPost_ret (res_ct (P := Tryd.prog) rfl _ wf5 rb 34 #[.int .i64 0, .int .i64 0, .int .i64 0, .int .i64 0, .int .i64 0, .int .i64 0] (0, 0) _ rfl Hf5.out Tryd.underlying34 rfl (by kernel_rfl)) rfl ?_
      rw [HE.out]
      exact ⟨rfl, Bf5.out⟩
    · have h2 : n < next - (L.length : Int) := by omega
      have hwl : IntKind.i64.wrap (next - (L.length : Int)) = next - (L.length : Int) := by rw [IntKind.wrap_i64]; omega
      clear ho
      go_wp2_with fail
      clear g0 g1 g2 g3 g4 g5 q0 q1 q2 q3 q4 q5 c0 c1 c2 c3 c4 c5 c6 c7 c8 c9
      have Hf0 := hide (show (w1.setCell ⟨rb, 0, none⟩ (.int .i64 0)).heap[rb]? = some (.cells #[.int .i64 0, .int .i64 0, .int .i64 0, .int .i64 0, .int .i64 0, .int .i64 0] 34 (0, 0)) from block_setCell XR.out 0 (.int .i64 0))
      have Bf0 := hide (BB.out.setCell (p := ⟨rb, 0, none⟩) HBrb.out (.int .i64 0))
      generalize w1.setCell ⟨rb, 0, none⟩ (.int .i64 0) = wf0 at *
      have Hf1 := hide (show (wf0.setCell ⟨rb, 1, none⟩ (.int .i64 0)).heap[rb]? = some (.cells #[.int .i64 0, .int .i64 0, .int .i64 0, .int .i64 0, .int .i64 0, .int .i64 0] 34 (0, 0)) from block_setCell Hf0.out 1 (.int .i64 0))
      have Bf1 := hide (Bf0.out.setCell (p := ⟨rb, 1, none⟩) HBrb.out (.int .i64 0))
      generalize wf0.setCell ⟨rb, 1, none⟩ (.int .i64 0) = wf1 at *
      have Hf2 := hide (show (wf1.setCell ⟨rb, 2, none⟩ (.int .i64 0)).heap[rb]? = some (.cells #[.int .i64 0, .int .i64 0, .int .i64 0, .int .i64 0, .int .i64 0, .int .i64 0] 34 (0, 0)) from block_setCell Hf1.out 2 (.int .i64 0))
      have Bf2 := hide (Bf1.out.setCell (p := ⟨rb, 2, none⟩) HBrb.out (.int .i64 0))
      generalize wf1.setCell ⟨rb, 2, none⟩ (.int .i64 0) = wf2 at *
      have Hf3 := hide (show (wf2.setCell ⟨rb, 3, none⟩ (.int .i64 0)).heap[rb]? = some (.cells #[.int .i64 0, .int .i64 0, .int .i64 0, .int .i64 0, .int .i64 0, .int .i64 0] 34 (0, 0)) from block_setCell Hf2.out 3 (.int .i64 0))
      have Bf3 := hide (Bf2.out.setCell (p := ⟨rb, 3, none⟩) HBrb.out (.int .i64 0))
      generalize wf2.setCell ⟨rb, 3, none⟩ (.int .i64 0) = wf3 at *
      have Hf4 := hide (show (wf3.setCell ⟨rb, 4, none⟩ (.int .i64 0)).heap[rb]? = some (.cells #[.int .i64 0, .int .i64 0, .int .i64 0, .int .i64 0, .int .i64 0, .int .i64 0] 34 (0, 0)) from block_setCell Hf3.out 4 (.int .i64 0))
      have Bf4 := hide (Bf3.out.setCell (p := ⟨rb, 4, none⟩) HBrb.out (.int .i64 0))
      generalize wf3.setCell ⟨rb, 4, none⟩ (.int .i64 0) = wf4 at *
      have Hf5 := hide (show (wf4.setCell ⟨rb, 5, none⟩ (.int .i64 0)).heap[rb]? = some (.cells #[.int .i64 0, .int .i64 0, .int .i64 0, .int .i64 0, .int .i64 0, .int .i64 0] 34 (0, 0)) from block_setCell Hf4.out 5 (.int .i64 0))
      have Bf5 := hide (Bf4.out.setCell (p := ⟨rb, 5, none⟩) HBrb.out (.int .i64 0))
      generalize wf4.setCell ⟨rb, 5, none⟩ (.int .i64 0) = wf5 at *
      (try simp only [Exit.inBlock, Exit.then])
      refine bodyPost_ret (res_ct (P := Tryd.prog) rfl _ wf5 rb 34 #[.int .i64 0, .int .i64 0, .int .i64 0, .int .i64 0, .int .i64 0, .int .i64 0] (0, 0) _ rfl Hf5.out Tryd.underlying34 rfl (by kernel_rfl)) rfl ?_
      rw [HE.out]
      exact ⟨rfl, Bf5.out⟩
  · have hi1 : ¬ next ≤ n := by omega
    have hi2 : ¬ n < next - (L.length : Int) := by omega
    obtain ⟨k, hk⟩ : ∃ k : Nat, (k : Int) = (L.length : Int) - (next - n) := ⟨((L.length : Int) - (next - n)).toNat, by omega⟩
    have hkl : k < L.length := by omega
    have HE := hide (HTO.out.trans (if_neg ho))
    rw [show ((L.length : Int) - (next - n)).toNat = k by omega] at HE
    obtain ⟨gg, rfl, -, -, hcell⟩ := owns_rows totC totC_length tot0 HR.out k hkl
    have y0 := hcell 0 (by decide)
    have y1 := hcell 1 (by decide)
    have y2 := hcell 2 (by decide)
    have y3 := hcell 3 (by decide)
    have y4 := hcell 4 (by decide)
    have y5 := hcell 5 (by decide)
    generalize L.getD k tot0 = yy at *
    obtain ⟨yc, ys, yv, yr, yi, yo⟩ := yy
    simp only [totC, List.getElem?_cons_zero, List.getElem?_cons_succ, Nat.add_zero] at y0 y1 y2 y3 y4 y5
    have hwl : IntKind.i64.wrap (next - (L.length : Int)) = next - (L.length : Int) := by rw [IntKind.wrap_i64]; omega
    have hwa : IntKind.i64.wrap (next - n) = next - n := by rw [IntKind.wrap_i64]; omega
    have hwb : IntKind.i64.wrap ((L.length : Int) - (next - n)) = (k : Int) := by rw [IntKind.wrap_i64]; omega
    have hkI : (k : Int) < (L.length : Int) := by omega
    clear hcell ho
    have HK := hide hk
    clear hk
    go_upto_region 10 with (fail)
    go_still_tail 15, (by kernel_rfl)
    change wpList _ _ _ _ _ w1.drew
    clear c0 c1 c2 c3 c4 c5 c6 c7 c8 c9 y0 y1 y2 y3 y4 y5
    have XRZ := hide (show w1.drew.heap[rb]? = _ from XR.out)
    have BBZ := hide BB.out.drew
    clear XR BB
    generalize w1.drew = wz at *
    obtain ⟨⟨g0, g1, g2, g3, g4, g5⟩, ⟨q0, q1, q2, q3, q4, q5⟩⟩ := six_facts XRZ.out
    go_wp2_with fail
    clear g0 g1 g2 g3 g4 g5 q0 q1 q2 q3 q4 q5
    have Hf0 := hide (show (wz.setCell ⟨rb, 0, none⟩ (.int .i64 yc)).heap[rb]? = some (.cells #[.int .i64 yc, .int .i64 0, .int .i64 0, .int .i64 0, .int .i64 0, .int .i64 0] 34 (0, 0)) from block_setCell XRZ.out 0 (.int .i64 yc))
    have Bf0 := hide (BBZ.out.setCell (p := ⟨rb, 0, none⟩) HBrb.out (.int .i64 yc))
    generalize wz.setCell ⟨rb, 0, none⟩ (.int .i64 yc) = wf0 at *
    have Hf1 := hide (show (wf0.setCell ⟨rb, 1, none⟩ (.int .i64 ys)).heap[rb]? = some (.cells #[.int .i64 yc, .int .i64 ys, .int .i64 0, .int .i64 0, .int .i64 0, .int .i64 0] 34 (0, 0)) from block_setCell Hf0.out 1 (.int .i64 ys))
    have Bf1 := hide (Bf0.out.setCell (p := ⟨rb, 1, none⟩) HBrb.out (.int .i64 ys))
    generalize wf0.setCell ⟨rb, 1, none⟩ (.int .i64 ys) = wf1 at *
    have Hf2 := hide (show (wf1.setCell ⟨rb, 2, none⟩ (.int .i64 yv)).heap[rb]? = some (.cells #[.int .i64 yc, .int .i64 ys, .int .i64 yv, .int .i64 0, .int .i64 0, .int .i64 0] 34 (0, 0)) from block_setCell Hf1.out 2 (.int .i64 yv))
    have Bf2 := hide (Bf1.out.setCell (p := ⟨rb, 2, none⟩) HBrb.out (.int .i64 yv))
    generalize wf1.setCell ⟨rb, 2, none⟩ (.int .i64 yv) = wf2 at *
    have Hf3 := hide (show (wf2.setCell ⟨rb, 3, none⟩ (.int .i64 yr)).heap[rb]? = some (.cells #[.int .i64 yc, .int .i64 ys, .int .i64 yv, .int .i64 yr, .int .i64 0, .int .i64 0] 34 (0, 0)) from block_setCell Hf2.out 3 (.int .i64 yr))
    have Bf3 := hide (Bf2.out.setCell (p := ⟨rb, 3, none⟩) HBrb.out (.int .i64 yr))
    generalize wf2.setCell ⟨rb, 3, none⟩ (.int .i64 yr) = wf3 at *
    have Hf4 := hide (show (wf3.setCell ⟨rb, 4, none⟩ (.int .i64 yi)).heap[rb]? = some (.cells #[.int .i64 yc, .int .i64 ys, .int .i64 yv, .int .i64 yr, .int .i64 yi, .int .i64 0] 34 (0, 0)) from block_setCell Hf3.out 4 (.int .i64 yi))
    have Bf4 := hide (Bf3.out.setCell (p := ⟨rb, 4, none⟩) HBrb.out (.int .i64 yi))
    generalize wf3.setCell ⟨rb, 4, none⟩ (.int .i64 yi) = wf4 at *
    have Hf5 := hide (show (wf4.setCell ⟨rb, 5, none⟩ (.int .i64 yo)).heap[rb]? = some (.cells #[.int .i64 yc, .int .i64 ys, .int .i64 yv, .int .i64 yr, .int .i64 yi, .int .i64 yo] 34 (0, 0)) from block_setCell Hf4.out 5 (.int .i64 yo))
    have Bf5 := hide (Bf4.out.setCell (p := ⟨rb, 5, none⟩) HBrb.out (.int .i64 yo))
    generalize wf4.setCell ⟨rb, 5, none⟩ (.int .i64 yo) = wf5 at *
    (try simp only [Exit.inBlock, Exit.then])
    refine bodyPost_ret (res_ct (P := Tryd.prog) rfl _ wf5 rb 34 #[.int .i64 yc, .int .i64 ys, .int .i64 yv, .int .i64 yr, .int .i64 yi, .int .i64 yo] (0, 0) _ rfl Hf5.out Tryd.underlying34 rfl (by kernel_rfl)) rfl ?_
    rw [HE.out]
    exact ⟨rfl, Bf5.out⟩
set_option maxRecDepth 100000 in
set_option maxHeartbeats 8000000 in
theorem shtot_open (n : Int) (hn : inR n) (B p : Nat) (keep next xc xs xv xr xi xo : Int) (L : List TotM) (V : Value) (w : World) (h : ShIs w B p ⟨keep, next, true, ⟨xc, xs, xv, xr, xi, xo⟩, L⟩ V) :
    Calls Tryd.prog 11 #[.pointer (some ⟨p, 0, none⟩), .int .i64 n] w (STotIs ⟨keep, next, true, ⟨xc, xs, xv, xr, xi, xo⟩, L⟩ n w) := by
  have hnx : 1 ≤ next ∧ next ≤ 4294967296 := h.ok.nx
  have hlow : (L.length : Int) + 1 ≤ next - 1 := h.ok.low
  unfold inR at hn
  obtain ⟨a, cp, rfl⟩ := owns_split h.row
  have HOP := hide (fun W hW => open_any' p keep next hnx.1 hnx.2 true xc xs xv xr xi xo (.slice a L.length cp) W hW)
  rw [if_pos rfl] at HOP
  have HR0 := hide (show w.ownsRow B 34 6 (.slice a L.length cp) L.length (L.flatMap totC) from h.row)
  have HD := hide (show w.heap[p]? = some (.cells #[.int .i64 keep, .int .i64 next, .bool true, .int .i64 xc, .int .i64 xs, .int .i64 xv, .int .i64 xr, .int .i64 xi, .int .i64 xo, .slice a L.length cp] 56 (0, 0)) from h.head)
  have hwn : IntKind.i64.wrap (next - 1) = next - 1 := by rw [IntKind.wrap_i64]; omega
  clear h
  by_cases hnow : n = next - 1
  · have HE := hide (show shTot ⟨keep, next, true, ⟨xc, xs, xv, xr, xi, xo⟩, L⟩ n = some ⟨xc, xs, xv, xr, xi, xo⟩ from by unfold shTot; rw [if_pos ⟨rfl, hnow⟩])
    have HNB := hide (show (n == next - 1) = true from by rw [hnow]; exact beq_self_eq_true _)
    clear hnow
    unfold STotIs
    have hal := (Below.refl w.heap.size w).alloc (Nat.le_refl _) (.cells #[.int .i64 0, .int .i64 0, .int .i64 0, .int .i64 0, .int .i64 0, .int .i64 0] 34)
    have XR := hide (heap_new w (.cells #[.int .i64 0, .int .i64 0, .int .i64 0, .int .i64 0, .int .i64 0, .int .i64 0] 34))
    have N := hide (show (w.alloc (.cells #[.int .i64 0, .int .i64 0, .int .i64 0, .int .i64 0, .int .i64 0, .int .i64 0] 34)).heap[p]? = some (.cells #[.int .i64 keep, .int .i64 next, .bool true, .int .i64 xc, .int .i64 xs, .int .i64 xv, .int .i64 xr, .int .i64 xi, .int .i64 xo, .slice a L.length cp] 56 (0, 0)) from (hal.block _ (heap_lt HD.out)).trans HD.out)
    have HR := hide (owns_below HR0.out hal)
    have BB := hide hal
    clear hal
    go_enter Tryd.func11, Tryd.ntmps11
    go_upto_region 1 with (fail)
    generalize w.alloc (.cells #[.int .i64 0, .int .i64 0, .int .i64 0, .int .i64 0, .int .i64 0, .int .i64 0] 34) = w1 at *
    generalize hrb : w.heap.size = rb at XR ⊢
    have HBrb := hide (show w.heap.size ≤ rb from by rw [hrb]; exact Nat.le_refl _)
    clear hrb HD HR0
    obtain ⟨⟨c0, c1, c2, c3, c4, c5, c6, c7, c8, c9⟩, -⟩ := sh_facts N.out
    go_wp2_with fail
    refine (HOP.out _ N.out).mono ?_
    rintro e w9 ⟨rfl, rfl⟩
    have hnb := HNB.out
    go_upto_region 4 with (fail)
    obtain ⟨⟨g0, g1, g2, g3, g4, g5⟩, ⟨q0, q1, q2, q3, q4, q5⟩⟩ := six_facts XR.out
    go_wp2_with fail
    clear g0 g1 g2 g3 g4 g5 q0 q1 q2 q3 q4 q5 c0 c1 c2 c3 c4 c5 c6 c7 c8 c9
    have Hf0 := hide (show (w1.setCell ⟨rb, 0, none⟩ (.int .i64 xc)).heap[rb]? = some (.cells #[.int .i64 xc, .int .i64 0, .int .i64 0, .int .i64 0, .int .i64 0, .int .i64 0] 34 (0, 0)) from block_setCell XR.out 0 (.int .i64 xc))
    have Bf0 := hide (BB.out.setCell (p := ⟨rb, 0, none⟩) HBrb.out (.int .i64 xc))
    generalize w1.setCell ⟨rb, 0, none⟩ (.int .i64 xc) = wf0 at *
    have Hf1 := hide (show (wf0.setCell ⟨rb, 1, none⟩ (.int .i64 xs)).heap[rb]? = some (.cells #[.int .i64 xc, .int .i64 xs, .int .i64 0, .int .i64 0, .int .i64 0, .int .i64 0] 34 (0, 0)) from block_setCell Hf0.out 1 (.int .i64 xs))
    have Bf1 := hide (Bf0.out.setCell (p := ⟨rb, 1, none⟩) HBrb.out (.int .i64 xs))
    generalize wf0.setCell ⟨rb, 1, none⟩ (.int .i64 xs) = wf1 at *
    have Hf2 := hide (show (wf1.setCell ⟨rb, 2, none⟩ (.int .i64 xv)).heap[rb]? = some (.cells #[.int .i64 xc, .int .i64 xs, .int .i64 xv, .int .i64 0, .int .i64 0, .int .i64 0] 34 (0, 0)) from block_setCell Hf1.out 2 (.int .i64 xv))
    have Bf2 := hide (Bf1.out.setCell (p := ⟨rb, 2, none⟩) HBrb.out (.int .i64 xv))
    generalize wf1.setCell ⟨rb, 2, none⟩ (.int .i64 xv) = wf2 at *
    have Hf3 := hide (show (wf2.setCell ⟨rb, 3, none⟩ (.int .i64 xr)).heap[rb]? = some (.cells #[.int .i64 xc, .int .i64 xs, .int .i64 xv, .int .i64 xr, .int .i64 0, .int .i64 0] 34 (0, 0)) from block_setCell Hf2.out 3 (.int .i64 xr))
    have Bf3 := hide (Bf2.out.setCell (p := ⟨rb, 3, none⟩) HBrb.out (.int .i64 xr))
    generalize wf2.setCell ⟨rb, 3, none⟩ (.int .i64 xr) = wf3 at *
    have Hf4 := hide (show (wf3.setCell ⟨rb, 4, none⟩ (.int .i64 xi)).heap[rb]? = some (.cells #[.int .i64 xc, .int .i64 xs, .int .i64 xv, .int .i64 xr, .int .i64 xi, .int .i64 0] 34 (0, 0)) from block_setCell Hf3.out 4 (.int .i64 xi))
    have Bf4 := hide (Bf3.out.setCell (p := ⟨rb, 4, none⟩) HBrb.out (.int .i64 xi))
    generalize wf3.setCell ⟨rb, 4, none⟩ (.int .i64 xi) = wf4 at *
    have Hf5 := hide (show (wf4.setCell ⟨rb, 5, none⟩ (.int .i64 xo)).heap[rb]? = some (.cells #[.int .i64 xc, .int .i64 xs, .int .i64 xv, .int .i64 xr, .int .i64 xi, .int .i64 xo] 34 (0, 0)) from block_setCell Hf4.out 5 (.int .i64 xo))
    have Bf5 := hide (Bf4.out.setCell (p := ⟨rb, 5, none⟩) HBrb.out (.int .i64 xo))
    generalize wf4.setCell ⟨rb, 5, none⟩ (.int .i64 xo) = wf5 at *
    (try simp only [Exit.inBlock, Exit.then])
    refine bodyPost_ret (res_ct (P := Tryd.prog) rfl _ wf5 rb 34 #[.int .i64 xc, .int .i64 xs, .int .i64 xv, .int .i64 xr, .int .i64 xi, .int .i64 xo] (0, 0) _ rfl Hf5.out Tryd.underlying34 rfl (by kernel_rfl)) rfl ?_
    rw [HE.out]
    exact ⟨rfl, Bf5.out⟩
  · have HTO := hide (show shTot ⟨keep, next, true, ⟨xc, xs, xv, xr, xi, xo⟩, L⟩ n = if next - 1 ≤ n ∨ n < next - 1 - (L.length : Int) then none else some (L.getD ((L.length : Int) - (next - 1 - n)).toNat tot0) from by unfold shTot shLast; dsimp only; rw [if_neg (fun hh => hnow hh.2), if_pos rfl])
    have HNB := hide (show (n == next - 1) = false from beq_eq_false_iff_ne.mpr hnow)
    clear hnow
    unfold STotIs
    have hal := (Below.refl w.heap.size w).alloc (Nat.le_refl _) (.cells #[.int .i64 0, .int .i64 0, .int .i64 0, .int .i64 0, .int .i64 0, .int .i64 0] 34)
    have XR := hide (heap_new w (.cells #[.int .i64 0, .int .i64 0, .int .i64 0, .int .i64 0, .int .i64 0, .int .i64 0] 34))
    have N := hide (show (w.alloc (.cells #[.int .i64 0, .int .i64 0, .int .i64 0, .int .i64 0, .int .i64 0, .int .i64 0] 34)).heap[p]? = some (.cells #[.int .i64 keep, .int .i64 next, .bool true, .int .i64 xc, .int .i64 xs, .int .i64 xv, .int .i64 xr, .int .i64 xi, .int .i64 xo, .slice a L.length cp] 56 (0, 0)) from (hal.block _ (heap_lt HD.out)).trans HD.out)
    have HR := hide (owns_below HR0.out hal)
    have BB := hide hal
    clear hal
    go_enter Tryd.func11, Tryd.ntmps11
    go_upto_region 1 with (fail)
    generalize w.alloc (.cells #[.int .i64 0, .int .i64 0, .int .i64 0, .int .i64 0, .int .i64 0, .int .i64 0] 34) = w1 at *
    generalize hrb : w.heap.size = rb at XR ⊢
    have HBrb := hide (show w.heap.size ≤ rb from by rw [hrb]; exact Nat.le_refl _)
    clear hrb HD HR0
    obtain ⟨⟨c0, c1, c2, c3, c4, c5, c6, c7, c8, c9⟩, -⟩ := sh_facts N.out
    go_wp2_with fail
    refine (HOP.out _ N.out).mono ?_
    rintro e w9 ⟨rfl, rfl⟩
    have hnb := HNB.out
    go_upto_region 5 with (fail)
    by_cases ho : next - 1 ≤ n ∨ n < next - 1 - (L.length : Int)
    · have HE := hide (HTO.out.trans (if_pos ho))
      obtain ⟨⟨g0, g1, g2, g3, g4, g5⟩, ⟨q0, q1, q2, q3, q4, q5⟩⟩ := six_facts XR.out
      by_cases h1 : next - 1 ≤ n
      · clear ho
        go_wp2_with fail
        clear g0 g1 g2 g3 g4 g5 q0 q1 q2 q3 q4 q5 c0 c1 c2 c3 c4 c5 c6 c7 c8 c9
        have Hf0 := hide (show (w1.setCell ⟨rb, 0, none⟩ (.int .i64 0)).heap[rb]? = some (.cells #[.int .i64 0, .int .i64 0, .int .i64 0, .int .i64 0, .int .i64 0, .int .i64 0] 34 (0, 0)) from block_setCell XR.out 0 (.int .i64 0))
        have Bf0 := hide (BB.out.setCell (p := ⟨rb, 0, none⟩) HBrb.out (.int .i64 0))
        generalize w1.setCell ⟨rb, 0, none⟩ (.int .i64 0) = wf0 at *
        have Hf1 := hide (show (wf0.setCell ⟨rb, 1, none⟩ (.int .i64 0)).heap[rb]? = some (.cells #[.int .i64 0, .int .i64 0, .int .i64 0, .int .i64 0, .int .i64 0, .int .i64 0] 34 (0, 0)) from block_setCell Hf0.out 1 (.int .i64 0))
        have Bf1 := hide (Bf0.out.setCell (p := ⟨rb, 1, none⟩) HBrb.out (.int .i64 0))
        generalize wf0.setCell ⟨rb, 1, none⟩ (.int .i64 0) = wf1 at *
        have Hf2 := hide (show (wf1.setCell ⟨rb, 2, none⟩ (.int .i64 0)).heap[rb]? = some (.cells #[.int .i64 0, .int .i64 0, .int .i64 0, .int .i64 0, .int .i64 0, .int .i64 0] 34 (0, 0)) from block_setCell Hf1.out 2 (.int .i64 0))
        have Bf2 := hide (Bf1.out.setCell (p := ⟨rb, 2, none⟩) HBrb.out (.int .i64 0))
        generalize wf1.setCell ⟨rb, 2, none⟩ (.int .i64 0) = wf2 at *
        have Hf3 := hide (show (wf2.setCell ⟨rb, 3, none⟩ (.int .i64 0)).heap[rb]? = some (.cells #[.int .i64 0, .int .i64 0, .int .i64 0, .int .i64 0, .int .i64 0, .int .i64 0] 34 (0, 0)) from block_setCell Hf2.out 3 (.int .i64 0))
        have Bf3 := hide (Bf2.out.setCell (p := ⟨rb, 3, none⟩) HBrb.out (.int .i64 0))
        generalize wf2.setCell ⟨rb, 3, none⟩ (.int .i64 0) = wf3 at *
        have Hf4 := hide (show (wf3.setCell ⟨rb, 4, none⟩ (.int .i64 0)).heap[rb]? = some (.cells #[.int .i64 0, .int .i64 0, .int .i64 0, .int .i64 0, .int .i64 0, .int .i64 0] 34 (0, 0)) from block_setCell Hf3.out 4 (.int .i64 0))
        have Bf4 := hide (Bf3.out.setCell (p := ⟨rb, 4, none⟩) HBrb.out (.int .i64 0))
        generalize wf3.setCell ⟨rb, 4, none⟩ (.int .i64 0) = wf4 at *
        have Hf5 := hide (show (wf4.setCell ⟨rb, 5, none⟩ (.int .i64 0)).heap[rb]? = some (.cells #[.int .i64 0, .int .i64 0, .int .i64 0, .int .i64 0, .int .i64 0, .int .i64 0] 34 (0, 0)) from block_setCell Hf4.out 5 (.int .i64 0))
        have Bf5 := hide (Bf4.out.setCell (p := ⟨rb, 5, none⟩) HBrb.out (.int .i64 0))
        generalize wf4.setCell ⟨rb, 5, none⟩ (.int .i64 0) = wf5 at *
        (try simp only [Exit.inBlock, Exit.then])
        refine bodyPost_ret (res_ct (P := Tryd.prog) rfl _ wf5 rb 34 #[.int .i64 0, .int .i64 0, .int .i64 0, .int .i64 0, .int .i64 0, .int .i64 0] (0, 0) _ rfl Hf5.out Tryd.underlying34 rfl (by kernel_rfl)) rfl ?_
        rw [HE.out]
        exact ⟨rfl, Bf5.out⟩
      · have h2 : n < next - 1 - (L.length : Int) := by omega
        have hwl : IntKind.i64.wrap (next - 1 - (L.length : Int)) = next - 1 - (L.length : Int) := by rw [IntKind.wrap_i64]; omega
        clear ho
        go_wp2_with fail
        clear g0 g1 g2 g3 g4 g5 q0 q1 q2 q3 q4 q5 c0 c1 c2 c3 c4 c5 c6 c7 c8 c9
        have Hf0 := hide (show (w1.setCell ⟨rb, 0, none⟩ (.int .i64 0)).heap[rb]? = some (.cells #[.int .i64 0, .int .i64 0, .int .i64 0, .int .i64 0, .int .i64 0, .int .i64 0] 34 (0, 0)) from block_setCell XR.out 0 (.int .i64 0))
        have Bf0 := hide (BB.out.setCell (p := ⟨rb, 0, none⟩) HBrb.out (.int .i64 0))
        generalize w1.setCell ⟨rb, 0, none⟩ (.int .i64 0) = wf0 at *
        have Hf1 := hide (show (wf0.setCell ⟨rb, 1, none⟩ (.int .i64 0)).heap[rb]? = some (.cells #[.int .i64 0, .int .i64 0, .int .i64 0, .int .i64 0, .int .i64 0, .int .i64 0] 34 (0, 0)) from block_setCell Hf0.out 1 (.int .i64 0))
        have Bf1 := hide (Bf0.out.setCell (p := ⟨rb, 1, none⟩) HBrb.out (.int .i64 0))
        generalize wf0.setCell ⟨rb, 1, none⟩ (.int .i64 0) = wf1 at *
        have Hf2 := hide (show (wf1.setCell ⟨rb, 2, none⟩ (.int .i64 0)).heap[rb]? = some (.cells #[.int .i64 0, .int .i64 0, .int .i64 0, .int .i64 0, .int .i64 0, .int .i64 0] 34 (0, 0)) from block_setCell Hf1.out 2 (.int .i64 0))
        have Bf2 := hide (Bf1.out.setCell (p := ⟨rb, 2, none⟩) HBrb.out (.int .i64 0))
        generalize wf1.setCell ⟨rb, 2, none⟩ (.int .i64 0) = wf2 at *
        have Hf3 := hide (show (wf2.setCell ⟨rb, 3, none⟩ (.int .i64 0)).heap[rb]? = some (.cells #[.int .i64 0, .int .i64 0, .int .i64 0, .int .i64 0, .int .i64 0, .int .i64 0] 34 (0, 0)) from block_setCell Hf2.out 3 (.int .i64 0))
        have Bf3 := hide (Bf2.out.setCell (p := ⟨rb, 3, none⟩) HBrb.out (.int .i64 0))
        generalize wf2.setCell ⟨rb, 3, none⟩ (.int .i64 0) = wf3 at *
        have Hf4 := hide (show (wf3.setCell ⟨rb, 4, none⟩ (.int .i64 0)).heap[rb]? = some (.cells #[.int .i64 0, .int .i64 0, .int .i64 0, .int .i64 0, .int .i64 0, .int .i64 0] 34 (0, 0)) from block_setCell Hf3.out 4 (.int .i64 0))
        have Bf4 := hide (Bf3.out.setCell (p := ⟨rb, 4, none⟩) HBrb.out (.int .i64 0))
        generalize wf3.setCell ⟨rb, 4, none⟩ (.int .i64 0) = wf4 at *
        have Hf5 := hide (show (wf4.setCell ⟨rb, 5, none⟩ (.int .i64 0)).heap[rb]? = some (.cells #[.int .i64 0, .int .i64 0, .int .i64 0, .int .i64 0, .int .i64 0, .int .i64 0] 34 (0, 0)) from block_setCell Hf4.out 5 (.int .i64 0))
        have Bf5 := hide (Bf4.out.setCell (p := ⟨rb, 5, none⟩) HBrb.out (.int .i64 0))
        generalize wf4.setCell ⟨rb, 5, none⟩ (.int .i64 0) = wf5 at *
        (try simp only [Exit.inBlock, Exit.then])
        refine bodyPost_ret (res_ct (P := Tryd.prog) rfl _ wf5 rb 34 #[.int .i64 0, .int .i64 0, .int .i64 0, .int .i64 0, .int .i64 0, .int .i64 0] (0, 0) _ rfl Hf5.out Tryd.underlying34 rfl (by kernel_rfl)) rfl ?_
        rw [HE.out]
        exact ⟨rfl, Bf5.out⟩
    · have hi1 : ¬ next - 1 ≤ n := by omega
      have hi2 : ¬ n < next - 1 - (L.length : Int) := by omega
      obtain ⟨k, hk⟩ : ∃ k : Nat, (k : Int) = (L.length : Int) - (next - 1 - n) := ⟨((L.length : Int) - (next - 1 - n)).toNat, by omega⟩
      have hkl : k < L.length := by omega
      have HE := hide (HTO.out.trans (if_neg ho))
      rw [show ((L.length : Int) - (next - 1 - n)).toNat = k by omega] at HE
      obtain ⟨gg, rfl, -, -, hcell⟩ := owns_rows totC totC_length tot0 HR.out k hkl
      have y0 := hcell 0 (by decide)
      have y1 := hcell 1 (by decide)
      have y2 := hcell 2 (by decide)
      have y3 := hcell 3 (by decide)
      have y4 := hcell 4 (by decide)
      have y5 := hcell 5 (by decide)
      generalize L.getD k tot0 = yy at *
      obtain ⟨yc, ys, yv, yr, yi, yo⟩ := yy
      simp only [totC, List.getElem?_cons_zero, List.getElem?_cons_succ, Nat.add_zero] at y0 y1 y2 y3 y4 y5
      have hwl : IntKind.i64.wrap (next - 1 - (L.length : Int)) = next - 1 - (L.length : Int) := by rw [IntKind.wrap_i64]; omega
      have hwa : IntKind.i64.wrap (next - 1 - n) = next - 1 - n := by rw [IntKind.wrap_i64]; omega
      have hwb : IntKind.i64.wrap ((L.length : Int) - (next - 1 - n)) = (k : Int) := by rw [IntKind.wrap_i64]; omega
      have hkI : (k : Int) < (L.length : Int) := by omega
      clear hcell ho
      have HK := hide hk
      clear hk
      go_upto_region 10 with (fail)
      go_still_tail 15, (by kernel_rfl)
      change wpList _ _ _ _ _ w1.drew
      clear c0 c1 c2 c3 c4 c5 c6 c7 c8 c9 y0 y1 y2 y3 y4 y5
      have XRZ := hide (show w1.drew.heap[rb]? = _ from XR.out)
      have BBZ := hide BB.out.drew
      clear XR BB
      generalize w1.drew = wz at *
      obtain ⟨⟨g0, g1, g2, g3, g4, g5⟩, ⟨q0, q1, q2, q3, q4, q5⟩⟩ := six_facts XRZ.out
      go_wp2_with fail
      clear g0 g1 g2 g3 g4 g5 q0 q1 q2 q3 q4 q5
      have Hf0 := hide (show (wz.setCell ⟨rb, 0, none⟩ (.int .i64 yc)).heap[rb]? = some (.cells #[.int .i64 yc, .int .i64 0, .int .i64 0, .int .i64 0, .int .i64 0, .int .i64 0] 34 (0, 0)) from block_setCell XRZ.out 0 (.int .i64 yc))
      have Bf0 := hide (BBZ.out.setCell (p := ⟨rb, 0, none⟩) HBrb.out (.int .i64 yc))
      generalize wz.setCell ⟨rb, 0, none⟩ (.int .i64 yc) = wf0 at *
      have Hf1 := hide (show (wf0.setCell ⟨rb, 1, none⟩ (.int .i64 ys)).heap[rb]? = some (.cells #[.int .i64 yc, .int .i64 ys, .int .i64 0, .int .i64 0, .int .i64 0, .int .i64 0] 34 (0, 0)) from block_setCell Hf0.out 1 (.int .i64 ys))
      have Bf1 := hide (Bf0.out.setCell (p := ⟨rb, 1, none⟩) HBrb.out (.int .i64 ys))
      generalize wf0.setCell ⟨rb, 1, none⟩ (.int .i64 ys) = wf1 at *
      have Hf2 := hide (show (wf1.setCell ⟨rb, 2, none⟩ (.int .i64 yv)).heap[rb]? = some (.cells #[.int .i64 yc, .int .i64 ys, .int .i64 yv, .int .i64 0, .int .i64 0, .int .i64 0] 34 (0, 0)) from block_setCell Hf1.out 2 (.int .i64 yv))
      have Bf2 := hide (Bf1.out.setCell (p := ⟨rb, 2, none⟩) HBrb.out (.int .i64 yv))
      generalize wf1.setCell ⟨rb, 2, none⟩ (.int .i64 yv) = wf2 at *
      have Hf3 := hide (show (wf2.setCell ⟨rb, 3, none⟩ (.int .i64 yr)).heap[rb]? = some (.cells #[.int .i64 yc, .int .i64 ys, .int .i64 yv, .int .i64 yr, .int .i64 0, .int .i64 0] 34 (0, 0)) from block_setCell Hf2.out 3 (.int .i64 yr))
      have Bf3 := hide (Bf2.out.setCell (p := ⟨rb, 3, none⟩) HBrb.out (.int .i64 yr))
      generalize wf2.setCell ⟨rb, 3, none⟩ (.int .i64 yr) = wf3 at *
      have Hf4 := hide (show (wf3.setCell ⟨rb, 4, none⟩ (.int .i64 yi)).heap[rb]? = some (.cells #[.int .i64 yc, .int .i64 ys, .int .i64 yv, .int .i64 yr, .int .i64 yi, .int .i64 0] 34 (0, 0)) from block_setCell Hf3.out 4 (.int .i64 yi))
      have Bf4 := hide (Bf3.out.setCell (p := ⟨rb, 4, none⟩) HBrb.out (.int .i64 yi))
      generalize wf3.setCell ⟨rb, 4, none⟩ (.int .i64 yi) = wf4 at *
      have Hf5 := hide (show (wf4.setCell ⟨rb, 5, none⟩ (.int .i64 yo)).heap[rb]? = some (.cells #[.int .i64 yc, .int .i64 ys, .int .i64 yv, .int .i64 yr, .int .i64 yi, .int .i64 yo] 34 (0, 0)) from block_setCell Hf4.out 5 (.int .i64 yo))
      have Bf5 := hide (Bf4.out.setCell (p := ⟨rb, 5, none⟩) HBrb.out (.int .i64 yo))
      generalize wf4.setCell ⟨rb, 5, none⟩ (.int .i64 yo) = wf5 at *
      (try simp only [Exit.inBlock, Exit.then])
      refine bodyPost_ret (res_ct (P := Tryd.prog) rfl _ wf5 rb 34 #[.int .i64 yc, .int .i64 ys, .int .i64 yv, .int .i64 yr, .int .i64 yi, .int .i64 yo] (0, 0) _ rfl Hf5.out Tryd.underlying34 rfl (by kernel_rfl)) rfl ?_
      rw [HE.out]
      exact ⟨rfl, Bf5.out⟩
theorem shtot_any (n : Int) (hn : inR n) (B p : Nat) (M : ShM) (V : Value) (w : World) (h : ShIs w B p M V) : Calls Tryd.prog 11 #[.pointer (some ⟨p, 0, none⟩), .int .i64 n] w (STotIs M n w) := by
  obtain ⟨keep, next, op, ⟨xc, xs, xv, xr, xi, xo⟩, L⟩ := M
  cases op with
  | true => exact shtot_open n hn B p keep next xc xs xv xr xi xo L V w h
  | false => exact shtot_closed n hn B p keep next xc xs xv xr xi xo L V w h
end Go.Proofs.YtnnggchkdffpnaaDoor
