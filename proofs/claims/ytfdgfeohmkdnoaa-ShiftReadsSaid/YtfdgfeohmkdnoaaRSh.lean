/-
  Layer 26: the document's shifts: Of, Start by contract.
-/
import Derived.Test.YtfdgfeohmkdnoaaMSh
import Derived.Test.YtfdgfeohmkdnoaaShG3
import Derived.Test.YtfdgfeohmkdnoaaKitV
import Derived.Test.YtfdgfeohmkdnoaaRCents
--import Derived.Test.Zdbg
namespace Go.Proofs.Ytfdgfeohmkdnoaa
set_option linter.unusedSimpArgs false
set_option linter.unusedVariables false
open Go.RowKit Go.WideShapes Go.ChangeShapes Go.ChangeAt Go.Deep

/-- the document's value: nw: its totals of now -/
def rsV (M : ShM) (nw : TotM) (a : Option Addr) (c : Nat) : Value := .agg #[.int .i64 M.keep, .int .i64 M.next, .bool M.op, .int .i64 nw.c, .int .i64 nw.s, .int .i64 nw.v, .int .i64 nw.r, .int .i64 nw.i, .int .i64 nw.o, .slice a M.L.length c]
/-- rows of totals -/
def TsIn (w : World) (a : Option Addr) (L : List TotM) : Prop := ∀ i, i < L.length → ∃ b, a = some ⟨b, 0, none⟩ ∧ b < w.heap.size ∧ ∀ j, j < 6 → w.cell? ⟨b, i * 6 + j, none⟩ = (totC (L.getD i tot0))[j]?
theorem TsIn.below {w w' : World} {a : Option Addr} {L : List TotM} (h : TsIn w a L) (hb : Below w.heap.size w w') : TsIn w' a L := fun i hi => by
  obtain ⟨b, h1, h2, h3⟩ := h i hi
  refine ⟨b, h1, Nat.lt_of_lt_of_le h2 hb.size, fun j hj => ?_⟩
  have e := h3 j hj
  have hx : ∃ u, (totC (L.getD i tot0))[j]? = some u := ⟨_, List.getElem?_eq_getElem (by rw [totC_length]; exact hj)⟩
  obtain ⟨u, hu⟩ := hx
  rw [hu] at e ⊢
  exact cell_keep e h2 hb
theorem TsIn.of_owns {w : World} {B e c m : Nat} {a : Option Addr} {L : List TotM} (h : w.ownsRow B e 6 (.slice a m c) L.length (L.flatMap totC)) : TsIn w a L := fun i hi => by
  obtain ⟨g, h1, -, h3, h4⟩ := owns_rows totC totC_length tot0 h i hi
  exact ⟨g, h1, h3, h4⟩
theorem TsIn.nil (w : World) (a : Option Addr) : TsIn w a [] := fun i hi => absurd hi (Nat.not_lt_zero i)
structure RsIs (w : World) (M : ShM) (nw : TotM) (a : Option Addr) (c : Nat) : Prop where
  row : w.ownsRow 0 29 6 (.slice a M.L.length c) M.L.length (M.L.flatMap totC)
  now : M.op = true → nw = M.now
theorem RsIs.ts {w : World} {M : ShM} {nw : TotM} {a : Option Addr} {c : Nat} (h : RsIs w M nw a c) : TsIn w a M.L := TsIn.of_owns h.row
theorem RsIs.cap {w : World} {M : ShM} {nw : TotM} {a : Option Addr} {c : Nat} (h : RsIs w M nw a c) : M.L.length ≤ c := by
  rcases h.row.2 with ⟨-, h1⟩ | ⟨g', cap', cur, hv, -, -, h5, -⟩
  · omega
  · simp only [Value.slice.injEq] at hv
    obtain ⟨-, -, rfl⟩ := hv
    exact h5
theorem RsIs.below {w w' : World} {M : ShM} {nw : TotM} {a : Option Addr} {c : Nat} (h : RsIs w M nw a c) (hb : Below w.heap.size w w') : RsIs w' M nw a c := ⟨owns_below h.row hb, h.now⟩
theorem RsIs.keepsT {Ts : List TypeId} {w w' : World} {M : ShM} {nw : TotM} {a : Option Addr} {c : Nat} (h : RsIs w M nw a c) (hk : KeepsT Ts w w') (ht : 29 ∉ Ts) : RsIs w' M nw a c := ⟨hk.owns h.row ht, h.now⟩
set_option maxRecDepth 100000 in
set_option maxHeartbeats 4000000 in
theorem rsof_closed (n : Int) (hn : inR n) (keep next : Int) (zc zs zv zr zi zo xc xs xv xr xi xo : Int) (L : List TotM) (a : Option Addr) (cp : Nat) (w : World) (hok : ShOk ⟨keep, next, false, ⟨zc, zs, zv, zr, zi, zo⟩, L⟩) (hin : RsIs w ⟨keep, next, false, ⟨zc, zs, zv, zr, zi, zo⟩, L⟩ ⟨xc, xs, xv, xr, xi, xo⟩ a cp) :
    Calls Try.prog 21 #[rsV ⟨keep, next, false, ⟨zc, zs, zv, zr, zi, zo⟩, L⟩ ⟨xc, xs, xv, xr, xi, xo⟩ a cp, .int .i64 n] w (STotIs ⟨keep, next, false, ⟨zc, zs, zv, zr, zi, zo⟩, L⟩ n w) := by
  have hnx : 1 ≤ next ∧ next ≤ 4294967296 := hok.nx
  have hlow : (L.length : Int) + 0 ≤ next - 1 := hok.low
  unfold inR at hn
  have hcI : (L.length : Int) ≤ (cp : Int) := by have h5 : L.length ≤ cp := hin.cap; omega
  have HIN := hide (show TsIn w a L from hin.ts)
  have HTO := hide (show shTot ⟨keep, next, false, ⟨zc, zs, zv, zr, zi, zo⟩, L⟩ n = if next - 1 + 1 ≤ n ∨ n < next - 1 + 1 - (L.length : Int) then none else some (L.getD ((L.length : Int) - (next - 1 + 1 - n)).toNat tot0) from by unfold shTot shLast; dsimp only; rw [if_neg (fun hh => by cases hh.1), if_neg (show ¬ (false = true) from by decide), show next - 1 + 1 = next by omega])
  have hwn : IntKind.i64.wrap (next - 1) = next - 1 := by rw [IntKind.wrap_i64]; omega
  clear hin hok
  unfold STotIs rsV
  go_enter Try.func21, Try.ntmps21
  go_upto_region 6 with (fail)
  obtain ⟨w2, hw2⟩ : ∃ w2, w2 = (w.alloc (.cells #[.int .i64 keep, .int .i64 next, .bool false, .int .i64 xc, .int .i64 xs, .int .i64 xv, .int .i64 xr, .int .i64 xi, .int .i64 xo, .slice a L.length cp] 32)).alloc (.cells #[.int .i64 0, .int .i64 0, .int .i64 0, .int .i64 0, .int .i64 0, .int .i64 0] 29) := ⟨_, rfl⟩
  rw [← hw2]
  have XB := hide (show w2.heap[w.heap.size]? = some (.cells #[.int .i64 keep, .int .i64 next, .bool false, .int .i64 xc, .int .i64 xs, .int .i64 xv, .int .i64 xr, .int .i64 xi, .int .i64 xo, .slice a L.length cp] 32 (0, 0)) by rw [hw2, heap_old _ _ _ (by simp), heap_new])
  have XR := hide (show w2.heap[w.heap.size + 1]? = some (.cells #[.int .i64 0, .int .i64 0, .int .i64 0, .int .i64 0, .int .i64 0, .int .i64 0] 29 (0, 0)) by rw [hw2]; exact heap_alloc2_new w _ _)
  have BB := hide (show Below w.heap.size w w2 by rw [hw2]; exact ((Below.refl w.heap.size w).alloc (Nat.le_refl _) _).alloc (by simp) _)
  have TS := hide (HIN.out.below BB.out)
  clear hw2 HIN
  obtain ⟨bb, hbb⟩ : ∃ k, w.heap.size = k := ⟨_, rfl⟩
  obtain ⟨rb, hrb⟩ : ∃ k, bb + 1 = k := ⟨_, rfl⟩
  rw [hbb] at XB XR ⊢
  rw [hrb] at XR ⊢
  have HBrb := hide (show w.heap.size ≤ rb by omega)
  have HBB := hide hbb
  clear hbb hrb
  have c4 := cell_of_block XB.out 9
  go_wp2_with fail
  go_loopw [7] (fun i W => ∃ k : Nat, i = .int .i64 k ∧ k ≤ L.length ∧ (∀ j, j < k → n ≠ (next - 1) - (L.length : Int) + 1 + (j : Int)) ∧ W = w2) (fun i _ => L.length - (intOf i).toNat)
  case atStart => exact ⟨0, rfl, Nat.zero_le _, fun j hj => absurd hj (Nat.not_lt_zero j), rfl⟩
  case round =>
    obtain ⟨k, rfl, hk, hno, rfl⟩ := hrel
    have c9 := cell_of_block XB.out 9
    by_cases hlt : k < L.length
    · have hw1 : wrap64 ((next - 1) - (L.length : Int)) = (next - 1) - (L.length : Int) := by unfold wrap64; omega
      have hw2 : wrap64 ((next - 1) - (L.length : Int) + 1) = (next - 1) - (L.length : Int) + 1 := by unfold wrap64; omega
      have hw3 : wrap64 ((next - 1) - (L.length : Int) + 1 + (k : Int)) = (next - 1) - (L.length : Int) + 1 + (k : Int) := by unfold wrap64; omega
      have hv1 : IntKind.i64.wrap ((next - 1) - (L.length : Int)) = (next - 1) - (L.length : Int) := by rw [IntKind.wrap_i64]; omega
      have hv2 : IntKind.i64.wrap ((next - 1) - (L.length : Int) + 1) = (next - 1) - (L.length : Int) + 1 := by rw [IntKind.wrap_i64]; omega
      have hv3 : IntKind.i64.wrap ((next - 1) - (L.length : Int) + 1 + (k : Int)) = (next - 1) - (L.length : Int) + 1 + (k : Int) := by rw [IntKind.wrap_i64]; omega
      by_cases heq : n = (next - 1) - (L.length : Int) + 1 + (k : Int)
      · have HE := hide (HTO.out.trans (if_neg (show ¬ ((next - 1) + 1 ≤ n ∨ n < (next - 1) + 1 - (L.length : Int)) by omega)))
        rw [show ((L.length : Int) - ((next - 1) + 1 - n)).toNat = k by omega] at HE
        have hb1 : (n == (next - 1) - (L.length : Int) + 1 + (k : Int)) = true := by rw [heq]; exact beq_self_eq_true _
        obtain ⟨gg, rfl, hgl, hcell⟩ := TS.out k hlt
        have y0 := hcell 0 (by decide)
        have y1 := hcell 1 (by decide)
        have y2 := hcell 2 (by decide)
        have y3 := hcell 3 (by decide)
        have y4 := hcell 4 (by decide)
        have y5 := hcell 5 (by decide)
        generalize L.getD k tot0 = yy at *
        obtain ⟨yc, ys, yv, yr, yi, yo⟩ := yy
        simp only [totC, List.getElem?_cons_zero, List.getElem?_cons_succ, Nat.add_zero] at y0 y1 y2 y3 y4 y5
        have HQ := hide heq
        clear hcell heq hno
        obtain ⟨⟨g0, g1, g2, g3, g4, g5⟩, ⟨q0, q1, q2, q3, q4, q5⟩⟩ := six_facts XR.out
        go_wp2_with fail
        clear g0 g1 g2 g3 g4 g5 q0 q1 q2 q3 q4 q5 c9 y0 y1 y2 y3 y4 y5
        have Hf0 := hide (show (wr.setCell ⟨rb, 0, none⟩ (.int .i64 yc)).heap[rb]? = some (.cells #[.int .i64 yc, .int .i64 0, .int .i64 0, .int .i64 0, .int .i64 0, .int .i64 0] 29 (0, 0)) from block_setCell XR.out 0 (.int .i64 yc))
        have Bf0 := hide (BB.out.setCell (p := ⟨rb, 0, none⟩) HBrb.out (.int .i64 yc))
        generalize wr.setCell ⟨rb, 0, none⟩ (.int .i64 yc) = wf0 at *
        have Hf1 := hide (show (wf0.setCell ⟨rb, 1, none⟩ (.int .i64 ys)).heap[rb]? = some (.cells #[.int .i64 yc, .int .i64 ys, .int .i64 0, .int .i64 0, .int .i64 0, .int .i64 0] 29 (0, 0)) from block_setCell Hf0.out 1 (.int .i64 ys))
        have Bf1 := hide (Bf0.out.setCell (p := ⟨rb, 1, none⟩) HBrb.out (.int .i64 ys))
        generalize wf0.setCell ⟨rb, 1, none⟩ (.int .i64 ys) = wf1 at *
        have Hf2 := hide (show (wf1.setCell ⟨rb, 2, none⟩ (.int .i64 yv)).heap[rb]? = some (.cells #[.int .i64 yc, .int .i64 ys, .int .i64 yv, .int .i64 0, .int .i64 0, .int .i64 0] 29 (0, 0)) from block_setCell Hf1.out 2 (.int .i64 yv))
        have Bf2 := hide (Bf1.out.setCell (p := ⟨rb, 2, none⟩) HBrb.out (.int .i64 yv))
        generalize wf1.setCell ⟨rb, 2, none⟩ (.int .i64 yv) = wf2 at *
        have Hf3 := hide (show (wf2.setCell ⟨rb, 3, none⟩ (.int .i64 yr)).heap[rb]? = some (.cells #[.int .i64 yc, .int .i64 ys, .int .i64 yv, .int .i64 yr, .int .i64 0, .int .i64 0] 29 (0, 0)) from block_setCell Hf2.out 3 (.int .i64 yr))
        have Bf3 := hide (Bf2.out.setCell (p := ⟨rb, 3, none⟩) HBrb.out (.int .i64 yr))
        generalize wf2.setCell ⟨rb, 3, none⟩ (.int .i64 yr) = wf3 at *
        have Hf4 := hide (show (wf3.setCell ⟨rb, 4, none⟩ (.int .i64 yi)).heap[rb]? = some (.cells #[.int .i64 yc, .int .i64 ys, .int .i64 yv, .int .i64 yr, .int .i64 yi, .int .i64 0] 29 (0, 0)) from block_setCell Hf3.out 4 (.int .i64 yi))
        have Bf4 := hide (Bf3.out.setCell (p := ⟨rb, 4, none⟩) HBrb.out (.int .i64 yi))
        generalize wf3.setCell ⟨rb, 4, none⟩ (.int .i64 yi) = wf4 at *
        have Hf5 := hide (show (wf4.setCell ⟨rb, 5, none⟩ (.int .i64 yo)).heap[rb]? = some (.cells #[.int .i64 yc, .int .i64 ys, .int .i64 yv, .int .i64 yr, .int .i64 yi, .int .i64 yo] 29 (0, 0)) from block_setCell Hf4.out 5 (.int .i64 yo))
        have Bf5 := hide (Bf4.out.setCell (p := ⟨rb, 5, none⟩) HBrb.out (.int .i64 yo))
        generalize wf4.setCell ⟨rb, 5, none⟩ (.int .i64 yo) = wf5 at *
        (try simp only [Exit.inBlock, Exit.then])
        refine bodyPost_ret (res_ct (P := Try.prog) rfl _ wf5 rb 29 #[.int .i64 yc, .int .i64 ys, .int .i64 yv, .int .i64 yr, .int .i64 yi, .int .i64 yo] (0, 0) _ rfl Hf5.out Try.underlying29 rfl (by kernel_rfl)) rfl ?_
        rw [HE.out]
        exact ⟨rfl, Bf5.out⟩
      · have hb1 : (n == (next - 1) - (L.length : Int) + 1 + (k : Int)) = false := beq_eq_false_iff_ne.mpr heq
        have HQ := hide heq
        clear heq
        go_wp2_with fail
        go_roundw
        case rel => exact ⟨k + 1, by go_num, hlt, (fun j hj => by
          by_cases e : j = k
          · subst e; exact HQ.out
          · exact hno j (by omega)), trivial⟩
        case measure => simp [intOf]; omega
    · obtain rfl : k = L.length := by omega
      have HE := hide (HTO.out.trans (if_pos (show (next - 1) + 1 ≤ n ∨ n < (next - 1) + 1 - (L.length : Int) from by
        refine Classical.byContradiction fun hc => ?_
        exact hno (n - ((next - 1) - (L.length : Int) + 1)).toNat (by omega) (by omega))))
      have HNO := hide hno
      clear hno
      obtain ⟨⟨g0, g1, g2, g3, g4, g5⟩, ⟨q0, q1, q2, q3, q4, q5⟩⟩ := six_facts XR.out
      have hrl := heap_lt XR.out
      go_upto_region 12 with (fail)
      clear g0 g1 g2 g3 g4 g5 q0 q1 q2 q3 q4 q5 c9
      have hal := (Below.refl wr.heap.size wr).alloc (Nat.le_refl _) (.cells #[.int .i64 0, .int .i64 0, .int .i64 0, .int .i64 0, .int .i64 0, .int .i64 0] 29)
      have XZ := hide (heap_new wr (.cells #[.int .i64 0, .int .i64 0, .int .i64 0, .int .i64 0, .int .i64 0, .int .i64 0] 29))
      have XR2 := hide ((hal.block _ hrl).trans XR.out)
      have B2 := hide (BB.out.trans (hal.mono BB.out.size))
      clear hal hrl XR BB XB
      generalize wr.alloc (.cells #[.int .i64 0, .int .i64 0, .int .i64 0, .int .i64 0, .int .i64 0, .int .i64 0] 29) = wy at *
      generalize wr.heap.size = zb at *
      obtain ⟨⟨g0, g1, g2, g3, g4, g5⟩, ⟨q0, q1, q2, q3, q4, q5⟩⟩ := six_facts XR2.out
      obtain ⟨⟨h0, h1, h2, h3, h4, h5⟩, -⟩ := six_facts XZ.out
      go_wp2_with fail
      clear g0 g1 g2 g3 g4 g5 q0 q1 q2 q3 q4 q5 h0 h1 h2 h3 h4 h5
      have He0 := hide (show (wy.setCell ⟨rb, 0, none⟩ (.int .i64 0)).heap[rb]? = some (.cells #[.int .i64 0, .int .i64 0, .int .i64 0, .int .i64 0, .int .i64 0, .int .i64 0] 29 (0, 0)) from block_setCell XR2.out 0 (.int .i64 0))
      have Be0 := hide (B2.out.setCell (p := ⟨rb, 0, none⟩) HBrb.out (.int .i64 0))
      generalize wy.setCell ⟨rb, 0, none⟩ (.int .i64 0) = we0 at *
      have He1 := hide (show (we0.setCell ⟨rb, 1, none⟩ (.int .i64 0)).heap[rb]? = some (.cells #[.int .i64 0, .int .i64 0, .int .i64 0, .int .i64 0, .int .i64 0, .int .i64 0] 29 (0, 0)) from block_setCell He0.out 1 (.int .i64 0))
      have Be1 := hide (Be0.out.setCell (p := ⟨rb, 1, none⟩) HBrb.out (.int .i64 0))
      generalize we0.setCell ⟨rb, 1, none⟩ (.int .i64 0) = we1 at *
      have He2 := hide (show (we1.setCell ⟨rb, 2, none⟩ (.int .i64 0)).heap[rb]? = some (.cells #[.int .i64 0, .int .i64 0, .int .i64 0, .int .i64 0, .int .i64 0, .int .i64 0] 29 (0, 0)) from block_setCell He1.out 2 (.int .i64 0))
      have Be2 := hide (Be1.out.setCell (p := ⟨rb, 2, none⟩) HBrb.out (.int .i64 0))
      generalize we1.setCell ⟨rb, 2, none⟩ (.int .i64 0) = we2 at *
      have He3 := hide (show (we2.setCell ⟨rb, 3, none⟩ (.int .i64 0)).heap[rb]? = some (.cells #[.int .i64 0, .int .i64 0, .int .i64 0, .int .i64 0, .int .i64 0, .int .i64 0] 29 (0, 0)) from block_setCell He2.out 3 (.int .i64 0))
      have Be3 := hide (Be2.out.setCell (p := ⟨rb, 3, none⟩) HBrb.out (.int .i64 0))
      generalize we2.setCell ⟨rb, 3, none⟩ (.int .i64 0) = we3 at *
      have He4 := hide (show (we3.setCell ⟨rb, 4, none⟩ (.int .i64 0)).heap[rb]? = some (.cells #[.int .i64 0, .int .i64 0, .int .i64 0, .int .i64 0, .int .i64 0, .int .i64 0] 29 (0, 0)) from block_setCell He3.out 4 (.int .i64 0))
      have Be4 := hide (Be3.out.setCell (p := ⟨rb, 4, none⟩) HBrb.out (.int .i64 0))
      generalize we3.setCell ⟨rb, 4, none⟩ (.int .i64 0) = we4 at *
      have He5 := hide (show (we4.setCell ⟨rb, 5, none⟩ (.int .i64 0)).heap[rb]? = some (.cells #[.int .i64 0, .int .i64 0, .int .i64 0, .int .i64 0, .int .i64 0, .int .i64 0] 29 (0, 0)) from block_setCell He4.out 5 (.int .i64 0))
      have Be5 := hide (Be4.out.setCell (p := ⟨rb, 5, none⟩) HBrb.out (.int .i64 0))
      generalize we4.setCell ⟨rb, 5, none⟩ (.int .i64 0) = we5 at *
      (try simp only [Exit.inBlock, Exit.then])
      refine bodyPost_ret (res_ct (P := Try.prog) rfl _ we5 rb 29 #[.int .i64 0, .int .i64 0, .int .i64 0, .int .i64 0, .int .i64 0, .int .i64 0] (0, 0) _ rfl He5.out Try.underlying29 rfl (by kernel_rfl)) rfl ?_
      rw [HE.out]
      exact ⟨rfl, Be5.out⟩

set_option maxRecDepth 100000 in
set_option maxHeartbeats 4000000 in
theorem rsof_open (n : Int) (hn : inR n) (keep next : Int) (zc zs zv zr zi zo xc xs xv xr xi xo : Int) (L : List TotM) (a : Option Addr) (cp : Nat) (w : World) (hok : ShOk ⟨keep, next, true, ⟨zc, zs, zv, zr, zi, zo⟩, L⟩) (hin : RsIs w ⟨keep, next, true, ⟨zc, zs, zv, zr, zi, zo⟩, L⟩ ⟨xc, xs, xv, xr, xi, xo⟩ a cp) :
    Calls Try.prog 21 #[rsV ⟨keep, next, true, ⟨zc, zs, zv, zr, zi, zo⟩, L⟩ ⟨xc, xs, xv, xr, xi, xo⟩ a cp, .int .i64 n] w (STotIs ⟨keep, next, true, ⟨zc, zs, zv, zr, zi, zo⟩, L⟩ n w) := by
  have hnx : 1 ≤ next ∧ next ≤ 4294967296 := hok.nx
  have hlow : (L.length : Int) + 1 ≤ next - 1 := hok.low
  unfold inR at hn
  have hcI : (L.length : Int) ≤ (cp : Int) := by have h5 : L.length ≤ cp := hin.cap; omega
  have HIN := hide (show TsIn w a L from hin.ts)
  have HNW := hide (show (⟨xc, xs, xv, xr, xi, xo⟩ : TotM) = ⟨zc, zs, zv, zr, zi, zo⟩ from hin.now rfl)
  have hwn : IntKind.i64.wrap (next - 1) = next - 1 := by rw [IntKind.wrap_i64]; omega
  have hwn2 : IntKind.i64.wrap (next - 1 - 1) = next - 1 - 1 := by rw [IntKind.wrap_i64]; omega
  clear hin hok
  unfold STotIs rsV
  by_cases hnow : n = next - 1
  · have HE := hide (show shTot ⟨keep, next, true, ⟨zc, zs, zv, zr, zi, zo⟩, L⟩ n = some ⟨xc, xs, xv, xr, xi, xo⟩ from by unfold shTot; rw [if_pos ⟨rfl, hnow⟩, HNW.out])
    have hnb : (n == next - 1) = true := by rw [hnow]; exact beq_self_eq_true _
    clear hnow
    go_enter Try.func21, Try.ntmps21
    go_wp2_with fail
    refine bodyPost_ret (res_ct (P := Try.prog) rfl _ _ (w.heap.size + 1) 29 #[.int .i64 xc, .int .i64 xs, .int .i64 xv, .int .i64 xr, .int .i64 xi, .int .i64 xo] (0, 0) _ rfl (by exact heap_alloc2_new w _ _) Try.underlying29 rfl (by kernel_rfl)) rfl ?_
    rw [HE.out]
    exact ⟨rfl, ((Below.refl w.heap.size w).alloc (Nat.le_refl _) _).alloc (by simp) _⟩
  · have HTO := hide (show shTot ⟨keep, next, true, ⟨zc, zs, zv, zr, zi, zo⟩, L⟩ n = if next - 1 - 1 + 1 ≤ n ∨ n < next - 1 - 1 + 1 - (L.length : Int) then none else some (L.getD ((L.length : Int) - (next - 1 - 1 + 1 - n)).toNat tot0) from by unfold shTot shLast; dsimp only; rw [if_neg (fun hh => hnow hh.2), if_pos rfl, show next - 1 - 1 + 1 = next - 1 by omega])
    have hnb : (n == next - 1) = false := beq_eq_false_iff_ne.mpr hnow
    clear hnow
    go_enter Try.func21, Try.ntmps21
    go_upto_region 6 with (fail)
    obtain ⟨w2, hw2⟩ : ∃ w2, w2 = (w.alloc (.cells #[.int .i64 keep, .int .i64 next, .bool true, .int .i64 xc, .int .i64 xs, .int .i64 xv, .int .i64 xr, .int .i64 xi, .int .i64 xo, .slice a L.length cp] 32)).alloc (.cells #[.int .i64 0, .int .i64 0, .int .i64 0, .int .i64 0, .int .i64 0, .int .i64 0] 29) := ⟨_, rfl⟩
    rw [← hw2]
    have XB := hide (show w2.heap[w.heap.size]? = some (.cells #[.int .i64 keep, .int .i64 next, .bool true, .int .i64 xc, .int .i64 xs, .int .i64 xv, .int .i64 xr, .int .i64 xi, .int .i64 xo, .slice a L.length cp] 32 (0, 0)) by rw [hw2, heap_old _ _ _ (by simp), heap_new])
    have XR := hide (show w2.heap[w.heap.size + 1]? = some (.cells #[.int .i64 0, .int .i64 0, .int .i64 0, .int .i64 0, .int .i64 0, .int .i64 0] 29 (0, 0)) by rw [hw2]; exact heap_alloc2_new w _ _)
    have BB := hide (show Below w.heap.size w w2 by rw [hw2]; exact ((Below.refl w.heap.size w).alloc (Nat.le_refl _) _).alloc (by simp) _)
    have TS := hide (HIN.out.below BB.out)
    clear hw2 HIN
    obtain ⟨bb, hbb⟩ : ∃ k, w.heap.size = k := ⟨_, rfl⟩
    obtain ⟨rb, hrb⟩ : ∃ k, bb + 1 = k := ⟨_, rfl⟩
    rw [hbb] at XB XR ⊢
    rw [hrb] at XR ⊢
    have HBrb := hide (show w.heap.size ≤ rb by omega)
    have HBB := hide hbb
    clear hbb hrb
    have c4 := cell_of_block XB.out 9
    go_wp2_with fail
    go_loopw [7] (fun i W => ∃ k : Nat, i = .int .i64 k ∧ k ≤ L.length ∧ (∀ j, j < k → n ≠ (next - 1 - 1) - (L.length : Int) + 1 + (j : Int)) ∧ W = w2) (fun i _ => L.length - (intOf i).toNat)
    case atStart => exact ⟨0, rfl, Nat.zero_le _, fun j hj => absurd hj (Nat.not_lt_zero j), rfl⟩
    case round =>
      obtain ⟨k, rfl, hk, hno, rfl⟩ := hrel
      have c9 := cell_of_block XB.out 9
      by_cases hlt : k < L.length
      · have hw1 : wrap64 ((next - 1 - 1) - (L.length : Int)) = (next - 1 - 1) - (L.length : Int) := by unfold wrap64; omega
        have hw2 : wrap64 ((next - 1 - 1) - (L.length : Int) + 1) = (next - 1 - 1) - (L.length : Int) + 1 := by unfold wrap64; omega
        have hw3 : wrap64 ((next - 1 - 1) - (L.length : Int) + 1 + (k : Int)) = (next - 1 - 1) - (L.length : Int) + 1 + (k : Int) := by unfold wrap64; omega
        have hv1 : IntKind.i64.wrap ((next - 1 - 1) - (L.length : Int)) = (next - 1 - 1) - (L.length : Int) := by rw [IntKind.wrap_i64]; omega
        have hv2 : IntKind.i64.wrap ((next - 1 - 1) - (L.length : Int) + 1) = (next - 1 - 1) - (L.length : Int) + 1 := by rw [IntKind.wrap_i64]; omega
        have hv3 : IntKind.i64.wrap ((next - 1 - 1) - (L.length : Int) + 1 + (k : Int)) = (next - 1 - 1) - (L.length : Int) + 1 + (k : Int) := by rw [IntKind.wrap_i64]; omega
        by_cases heq : n = (next - 1 - 1) - (L.length : Int) + 1 + (k : Int)
        · have HE := hide (HTO.out.trans (if_neg (show ¬ ((next - 1 - 1) + 1 ≤ n ∨ n < (next - 1 - 1) + 1 - (L.length : Int)) by omega)))
          rw [show ((L.length : Int) - ((next - 1 - 1) + 1 - n)).toNat = k by omega] at HE
          have hb1 : (n == (next - 1 - 1) - (L.length : Int) + 1 + (k : Int)) = true := by rw [heq]; exact beq_self_eq_true _
          obtain ⟨gg, rfl, hgl, hcell⟩ := TS.out k hlt
          have y0 := hcell 0 (by decide)
          have y1 := hcell 1 (by decide)
          have y2 := hcell 2 (by decide)
          have y3 := hcell 3 (by decide)
          have y4 := hcell 4 (by decide)
          have y5 := hcell 5 (by decide)
          generalize L.getD k tot0 = yy at *
          obtain ⟨yc, ys, yv, yr, yi, yo⟩ := yy
          simp only [totC, List.getElem?_cons_zero, List.getElem?_cons_succ, Nat.add_zero] at y0 y1 y2 y3 y4 y5
          have HQ := hide heq
          clear hcell heq hno
          obtain ⟨⟨g0, g1, g2, g3, g4, g5⟩, ⟨q0, q1, q2, q3, q4, q5⟩⟩ := six_facts XR.out
          go_wp2_with fail
          clear g0 g1 g2 g3 g4 g5 q0 q1 q2 q3 q4 q5 c9 y0 y1 y2 y3 y4 y5
          have Hf0 := hide (show (wr.setCell ⟨rb, 0, none⟩ (.int .i64 yc)).heap[rb]? = some (.cells #[.int .i64 yc, .int .i64 0, .int .i64 0, .int .i64 0, .int .i64 0, .int .i64 0] 29 (0, 0)) from block_setCell XR.out 0 (.int .i64 yc))
          have Bf0 := hide (BB.out.setCell (p := ⟨rb, 0, none⟩) HBrb.out (.int .i64 yc))
          generalize wr.setCell ⟨rb, 0, none⟩ (.int .i64 yc) = wf0 at *
          have Hf1 := hide (show (wf0.setCell ⟨rb, 1, none⟩ (.int .i64 ys)).heap[rb]? = some (.cells #[.int .i64 yc, .int .i64 ys, .int .i64 0, .int .i64 0, .int .i64 0, .int .i64 0] 29 (0, 0)) from block_setCell Hf0.out 1 (.int .i64 ys))
          have Bf1 := hide (Bf0.out.setCell (p := ⟨rb, 1, none⟩) HBrb.out (.int .i64 ys))
          generalize wf0.setCell ⟨rb, 1, none⟩ (.int .i64 ys) = wf1 at *
          have Hf2 := hide (show (wf1.setCell ⟨rb, 2, none⟩ (.int .i64 yv)).heap[rb]? = some (.cells #[.int .i64 yc, .int .i64 ys, .int .i64 yv, .int .i64 0, .int .i64 0, .int .i64 0] 29 (0, 0)) from block_setCell Hf1.out 2 (.int .i64 yv))
          have Bf2 := hide (Bf1.out.setCell (p := ⟨rb, 2, none⟩) HBrb.out (.int .i64 yv))
          generalize wf1.setCell ⟨rb, 2, none⟩ (.int .i64 yv) = wf2 at *
          have Hf3 := hide (show (wf2.setCell ⟨rb, 3, none⟩ (.int .i64 yr)).heap[rb]? = some (.cells #[.int .i64 yc, .int .i64 ys, .int .i64 yv, .int .i64 yr, .int .i64 0, .int .i64 0] 29 (0, 0)) from block_setCell Hf2.out 3 (.int .i64 yr))
          have Bf3 := hide (Bf2.out.setCell (p := ⟨rb, 3, none⟩) HBrb.out (.int .i64 yr))
          generalize wf2.setCell ⟨rb, 3, none⟩ (.int .i64 yr) = wf3 at *
          have Hf4 := hide (show (wf3.setCell ⟨rb, 4, none⟩ (.int .i64 yi)).heap[rb]? = some (.cells #[.int .i64 yc, .int .i64 ys, .int .i64 yv, .int .i64 yr, .int .i64 yi, .int .i64 0] 29 (0, 0)) from block_setCell Hf3.out 4 (.int .i64 yi))
          have Bf4 := hide (Bf3.out.setCell (p := ⟨rb, 4, none⟩) HBrb.out (.int .i64 yi))
          generalize wf3.setCell ⟨rb, 4, none⟩ (.int .i64 yi) = wf4 at *
          have Hf5 := hide (show (wf4.setCell ⟨rb, 5, none⟩ (.int .i64 yo)).heap[rb]? = some (.cells #[.int .i64 yc, .int .i64 ys, .int .i64 yv, .int .i64 yr, .int .i64 yi, .int .i64 yo] 29 (0, 0)) from block_setCell Hf4.out 5 (.int .i64 yo))
          have Bf5 := hide (Bf4.out.setCell (p := ⟨rb, 5, none⟩) HBrb.out (.int .i64 yo))
          generalize wf4.setCell ⟨rb, 5, none⟩ (.int .i64 yo) = wf5 at *
          (try simp only [Exit.inBlock, Exit.then])
          refine bodyPost_ret (res_ct (P := Try.prog) rfl _ wf5 rb 29 #[.int .i64 yc, .int .i64 ys, .int .i64 yv, .int .i64 yr, .int .i64 yi, .int .i64 yo] (0, 0) _ rfl Hf5.out Try.underlying29 rfl (by kernel_rfl)) rfl ?_
          rw [HE.out]
          exact ⟨rfl, Bf5.out⟩
        · have hb1 : (n == (next - 1 - 1) - (L.length : Int) + 1 + (k : Int)) = false := beq_eq_false_iff_ne.mpr heq
          have HQ := hide heq
          clear heq
          go_wp2_with fail
          go_roundw
          case rel => exact ⟨k + 1, by go_num, hlt, (fun j hj => by
            by_cases e : j = k
            · subst e; exact HQ.out
            · exact hno j (by omega)), trivial⟩
          case measure => simp [intOf]; omega
      · obtain rfl : k = L.length := by omega
        have HE := hide (HTO.out.trans (if_pos (show (next - 1 - 1) + 1 ≤ n ∨ n < (next - 1 - 1) + 1 - (L.length : Int) from by
          refine Classical.byContradiction fun hc => ?_
          exact hno (n - ((next - 1 - 1) - (L.length : Int) + 1)).toNat (by omega) (by omega))))
        have HNO := hide hno
        clear hno
        obtain ⟨⟨g0, g1, g2, g3, g4, g5⟩, ⟨q0, q1, q2, q3, q4, q5⟩⟩ := six_facts XR.out
        have hrl := heap_lt XR.out
        go_upto_region 12 with (fail)
        clear g0 g1 g2 g3 g4 g5 q0 q1 q2 q3 q4 q5 c9
        have hal := (Below.refl wr.heap.size wr).alloc (Nat.le_refl _) (.cells #[.int .i64 0, .int .i64 0, .int .i64 0, .int .i64 0, .int .i64 0, .int .i64 0] 29)
        have XZ := hide (heap_new wr (.cells #[.int .i64 0, .int .i64 0, .int .i64 0, .int .i64 0, .int .i64 0, .int .i64 0] 29))
        have XR2 := hide ((hal.block _ hrl).trans XR.out)
        have B2 := hide (BB.out.trans (hal.mono BB.out.size))
        clear hal hrl XR BB XB
        generalize wr.alloc (.cells #[.int .i64 0, .int .i64 0, .int .i64 0, .int .i64 0, .int .i64 0, .int .i64 0] 29) = wy at *
        generalize wr.heap.size = zb at *
        obtain ⟨⟨g0, g1, g2, g3, g4, g5⟩, ⟨q0, q1, q2, q3, q4, q5⟩⟩ := six_facts XR2.out
        obtain ⟨⟨h0, h1, h2, h3, h4, h5⟩, -⟩ := six_facts XZ.out
        go_wp2_with fail
        clear g0 g1 g2 g3 g4 g5 q0 q1 q2 q3 q4 q5 h0 h1 h2 h3 h4 h5
        have He0 := hide (show (wy.setCell ⟨rb, 0, none⟩ (.int .i64 0)).heap[rb]? = some (.cells #[.int .i64 0, .int .i64 0, .int .i64 0, .int .i64 0, .int .i64 0, .int .i64 0] 29 (0, 0)) from block_setCell XR2.out 0 (.int .i64 0))
        have Be0 := hide (B2.out.setCell (p := ⟨rb, 0, none⟩) HBrb.out (.int .i64 0))
        generalize wy.setCell ⟨rb, 0, none⟩ (.int .i64 0) = we0 at *
        have He1 := hide (show (we0.setCell ⟨rb, 1, none⟩ (.int .i64 0)).heap[rb]? = some (.cells #[.int .i64 0, .int .i64 0, .int .i64 0, .int .i64 0, .int .i64 0, .int .i64 0] 29 (0, 0)) from block_setCell He0.out 1 (.int .i64 0))
        have Be1 := hide (Be0.out.setCell (p := ⟨rb, 1, none⟩) HBrb.out (.int .i64 0))
        generalize we0.setCell ⟨rb, 1, none⟩ (.int .i64 0) = we1 at *
        have He2 := hide (show (we1.setCell ⟨rb, 2, none⟩ (.int .i64 0)).heap[rb]? = some (.cells #[.int .i64 0, .int .i64 0, .int .i64 0, .int .i64 0, .int .i64 0, .int .i64 0] 29 (0, 0)) from block_setCell He1.out 2 (.int .i64 0))
        have Be2 := hide (Be1.out.setCell (p := ⟨rb, 2, none⟩) HBrb.out (.int .i64 0))
        generalize we1.setCell ⟨rb, 2, none⟩ (.int .i64 0) = we2 at *
        have He3 := hide (show (we2.setCell ⟨rb, 3, none⟩ (.int .i64 0)).heap[rb]? = some (.cells #[.int .i64 0, .int .i64 0, .int .i64 0, .int .i64 0, .int .i64 0, .int .i64 0] 29 (0, 0)) from block_setCell He2.out 3 (.int .i64 0))
        have Be3 := hide (Be2.out.setCell (p := ⟨rb, 3, none⟩) HBrb.out (.int .i64 0))
        generalize we2.setCell ⟨rb, 3, none⟩ (.int .i64 0) = we3 at *
        have He4 := hide (show (we3.setCell ⟨rb, 4, none⟩ (.int .i64 0)).heap[rb]? = some (.cells #[.int .i64 0, .int .i64 0, .int .i64 0, .int .i64 0, .int .i64 0, .int .i64 0] 29 (0, 0)) from block_setCell He3.out 4 (.int .i64 0))
        have Be4 := hide (Be3.out.setCell (p := ⟨rb, 4, none⟩) HBrb.out (.int .i64 0))
        generalize we3.setCell ⟨rb, 4, none⟩ (.int .i64 0) = we4 at *
        have He5 := hide (show (we4.setCell ⟨rb, 5, none⟩ (.int .i64 0)).heap[rb]? = some (.cells #[.int .i64 0, .int .i64 0, .int .i64 0, .int .i64 0, .int .i64 0, .int .i64 0] 29 (0, 0)) from block_setCell He4.out 5 (.int .i64 0))
        have Be5 := hide (Be4.out.setCell (p := ⟨rb, 5, none⟩) HBrb.out (.int .i64 0))
        generalize we4.setCell ⟨rb, 5, none⟩ (.int .i64 0) = we5 at *
        (try simp only [Exit.inBlock, Exit.then])
        refine bodyPost_ret (res_ct (P := Try.prog) rfl _ we5 rb 29 #[.int .i64 0, .int .i64 0, .int .i64 0, .int .i64 0, .int .i64 0, .int .i64 0] (0, 0) _ rfl He5.out Try.underlying29 rfl (by kernel_rfl)) rfl ?_
        rw [HE.out]
        exact ⟨rfl, Be5.out⟩

theorem rsof_any (n : Int) (hn : inR n) (M : ShM) (nw : TotM) (a : Option Addr) (cp : Nat) (w : World) (hok : ShOk M) (hin : RsIs w M nw a cp) : Calls Try.prog 21 #[rsV M nw a cp, .int .i64 n] w (STotIs M n w) := by
  obtain ⟨keep, next, op, ⟨zc, zs, zv, zr, zi, zo⟩, L⟩ := M
  obtain ⟨xc, xs, xv, xr, xi, xo⟩ := nw
  cases op with
  | true => exact rsof_open n hn keep next zc zs zv zr zi zo xc xs xv xr xi xo L a cp w hok hin
  | false => exact rsof_closed n hn keep next zc zs zv zr zi zo xc xs xv xr xi xo L a cp w hok hin
end Go.Proofs.Ytfdgfeohmkdnoaa
