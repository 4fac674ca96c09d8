/-
  Layer 26: the document's shifts: Add by contract.
-/
import Derived.Test.YtfdgfeohmkdnoaaRSh2
import Derived.Test.YtfdgfeohmkdnoaaRCents4
--import Derived.Test.Zdbg
namespace Go.Proofs.Ytfdgfeohmkdnoaa
set_option linter.unusedSimpArgs false
set_option linter.unusedVariables false
open Go.RowKit Go.WideShapes Go.ChangeShapes Go.ChangeAt Go.Deep

theorem heap_alloc3_new (w : World) (A B C : Obj) : (((w.alloc A).alloc B).alloc C).heap[w.heap.size + 1 + 1]? = some C := by
  have h := heap_new ((w.alloc A).alloc B) C
  have e : ((w.alloc A).alloc B).heap.size = w.heap.size + 1 + 1 := by simp
  rw [e] at h
  exact h
set_option maxRecDepth 100000 in
set_option maxHeartbeats 4000000 in
theorem rsadd_1 (keep next xc xs xv xr xi xo : Int) (a : Option Addr) (L : List TotM) (cp : Nat) (am : Int) (h0 : 0 ≤ am) (hc : 0 ≤ xc ∧ xc < 4294967295) (x : Int) (hs : inR xs) (ham : inR am) (hx : inR (xs + am)) (hxe : xs + am = x) (w : World) :
    Calls Try.prog 15 #[.agg #[.int .i64 keep, .int .i64 next, .bool true, .int .i64 xc, .int .i64 xs, .int .i64 xv, .int .i64 xr, .int .i64 xi, .int .i64 xo, .slice a L.length cp], .int .u8 1, .int .i64 am] w fun e w' => e = .returned (.tuple #[.agg #[.int .i64 keep, .int .i64 next, .bool true, .int .i64 (xc + 1), .int .i64 x, .int .i64 xv, .int .i64 xr, .int .i64 xi, .int .i64 xo, .slice a L.length cp], .int .i64 0]) ∧ Below w.heap.size w w' := by
  have HAD := hide (fun W => radd_any xs am hs ham W)
  rw [(sum_in hx).1, (sum_in hx).2, hxe] at HAD
  clear hx hxe hs ham
  have hwc : IntKind.i64.wrap (xc + 1) = xc + 1 := by rw [IntKind.wrap_i64]; omega
  have hwc2 : wrap64 (xc + 1) = xc + 1 := by unfold wrap64; omega
  have hc2 : ¬ 4294967295 ≤ xc := by omega
  have ham0 : ¬ am < 0 := by omega
  clear hc
  go_enter Try.func15, Try.ntmps15
  go_upto_region 8 with (fail)
  obtain ⟨w3, hw3⟩ : ∃ w3, w3 = ((w.alloc (.cells #[.int .i64 keep, .int .i64 next, .bool true, .int .i64 xc, .int .i64 xs, .int .i64 xv, .int .i64 xr, .int .i64 xi, .int .i64 xo, .slice a L.length cp] 32)).alloc (.cells #[.int .i64 0, .int .i64 0, .bool false, .int .i64 0, .int .i64 0, .int .i64 0, .int .i64 0, .int .i64 0, .int .i64 0, .slice none 0 0] 32)).alloc (.cells #[.int .i64 xc, .int .i64 xs, .int .i64 xv, .int .i64 xr, .int .i64 xi, .int .i64 xo] 29) := ⟨_, rfl⟩
  rw [← hw3]
  have XB := hide (show w3.heap[w.heap.size]? = some (.cells #[.int .i64 keep, .int .i64 next, .bool true, .int .i64 xc, .int .i64 xs, .int .i64 xv, .int .i64 xr, .int .i64 xi, .int .i64 xo, .slice a L.length cp] 32 (0, 0)) by rw [hw3, heap_old _ _ _ (by simp; omega), heap_old _ _ _ (by simp), heap_new])
  have XR := hide (show w3.heap[(w.heap.size + 1)]? = some (.cells #[.int .i64 0, .int .i64 0, .bool false, .int .i64 0, .int .i64 0, .int .i64 0, .int .i64 0, .int .i64 0, .int .i64 0, .slice none 0 0] 32 (0, 0)) by rw [hw3, heap_old _ _ _ (by simp)]; exact heap_alloc2_new w _ _)
  have XT := hide (show w3.heap[(w.heap.size + 1 + 1)]? = some (.cells #[.int .i64 xc, .int .i64 xs, .int .i64 xv, .int .i64 xr, .int .i64 xi, .int .i64 xo] 29 (0, 0)) by rw [hw3]; exact heap_alloc3_new w _ _ _)
  have BB := hide (show Below w.heap.size w w3 by rw [hw3]; exact (((Below.refl w.heap.size w).alloc (Nat.le_refl _) _).alloc (by simp) _).alloc (by simp; omega) _)
  clear hw3
  obtain ⟨bb, hbb⟩ : ∃ k, w.heap.size = k := ⟨_, rfl⟩
  obtain ⟨rb, hrb⟩ : ∃ k, bb + 1 = k := ⟨_, rfl⟩
  obtain ⟨tb, htb⟩ : ∃ k, rb + 1 = k := ⟨_, rfl⟩
  rw [hbb] at XB XR XT ⊢
  rw [hrb] at XR XT ⊢
  rw [htb] at XT ⊢
  have HBbb := hide (show w.heap.size ≤ bb by omega)
  have HBrb := hide (show w.heap.size ≤ rb by omega)
  have HBtb := hide (show w.heap.size ≤ tb by omega)
  have HNE := hide (show bb ≠ rb ∧ bb ≠ tb ∧ rb ≠ tb by omega)
  have HBB := hide hbb
  clear hbb hrb htb
  obtain ⟨⟨g0, g1, g2, g3, g4, g5⟩, ⟨q0, q1, q2, q3, q4, q5⟩⟩ := six_facts XT.out
  go_wp2_with fail
  refine (HAD.out _).mono ?_
  rintro e w4 ⟨rfl, hb⟩
  have XB4 := hide ((hb.block _ (heap_lt XB.out)).trans XB.out)
  have XR4 := hide ((hb.block _ (heap_lt XR.out)).trans XR.out)
  have XT4 := hide ((hb.block _ (heap_lt XT.out)).trans XT.out)
  have BB4 := hide (BB.out.trans (hb.mono (Nat.le_trans HBbb.out (Nat.le_of_lt (heap_lt XB.out)))))
  clear g0 g1 g2 g3 g4 g5 q0 q1 q2 q3 q4 q5
  clear hb XB XR XT BB
  obtain ⟨⟨g0, g1, g2, g3, g4, g5⟩, ⟨q0, q1, q2, q3, q4, q5⟩⟩ := six_facts XT4.out
  go_upto_region 13 with (fail)
  clear g0 g1 g2 g3 g4 g5 q0 q1 q2 q3 q4 q5
  have Hs1 := hide (show (w4.setCell ⟨tb, 1, none⟩ (.int .i64 x)).heap[tb]? = some (.cells #[.int .i64 xc, .int .i64 x, .int .i64 xv, .int .i64 xr, .int .i64 xi, .int .i64 xo] 29 (0, 0)) from block_setCell XT4.out 1 (.int .i64 x))
  have Bs1 := hide (BB4.out.setCell (p := ⟨tb, 1, none⟩) HBtb.out (.int .i64 x))
  have XBs1 := hide ((block_setCell_other HNE.out.2.1.symm 1 (.int .i64 x)).trans XB4.out)
  have XRs1 := hide ((block_setCell_other HNE.out.2.2.symm 1 (.int .i64 x)).trans XR4.out)
  generalize w4.setCell ⟨tb, 1, none⟩ (.int .i64 x) = ws1 at *
  obtain ⟨⟨g0, g1, g2, g3, g4, g5⟩, ⟨q0, q1, q2, q3, q4, q5⟩⟩ := six_facts Hs1.out
  go_upto_region 14 with (fail)
  clear g0 g1 g2 g3 g4 g5 q0 q1 q2 q3 q4 q5
  have Ha0 := hide (show (ws1.setCell ⟨tb, 0, none⟩ (.int .i64 (xc + 1))).heap[tb]? = some (.cells #[.int .i64 (xc + 1), .int .i64 x, .int .i64 xv, .int .i64 xr, .int .i64 xi, .int .i64 xo] 29 (0, 0)) from block_setCell Hs1.out 0 (.int .i64 (xc + 1)))
  have Ba0 := hide (Bs1.out.setCell (p := ⟨tb, 0, none⟩) HBtb.out (.int .i64 (xc + 1)))
  have XBa0 := hide ((block_setCell_other HNE.out.2.1.symm 0 (.int .i64 (xc + 1))).trans XBs1.out)
  have XRa0 := hide ((block_setCell_other HNE.out.2.2.symm 0 (.int .i64 (xc + 1))).trans XRs1.out)
  generalize ws1.setCell ⟨tb, 0, none⟩ (.int .i64 (xc + 1)) = wa0 at *
  obtain ⟨⟨g0, g1, g2, g3, g4, g5⟩, ⟨q0, q1, q2, q3, q4, q5⟩⟩ := six_facts Ha0.out
  obtain ⟨⟨c0, c1, c2, c3, c4, c5, c6, c7, c8, c9⟩, ⟨f0, f1, f2, f3, f4, f5, f6, f7, f8, f9⟩⟩ := sh_facts XBa0.out
  go_upto_region 15 with (fail)
  clear g0 g1 g2 g3 g4 g5 q0 q1 q2 q3 q4 q5
  clear c0 c1 c2 c3 c4 c5 c6 c7 c8 c9 f0 f1 f2 f3 f4 f5 f6 f7 f8 f9
  have Hb3 := hide (show (wa0.setCell ⟨bb, 3, none⟩ (.int .i64 (xc + 1))).heap[bb]? = some (.cells #[.int .i64 keep, .int .i64 next, .bool true, .int .i64 (xc + 1), .int .i64 xs, .int .i64 xv, .int .i64 xr, .int .i64 xi, .int .i64 xo, .slice a L.length cp] 32 (0, 0)) from block_setCell XBa0.out 3 (.int .i64 (xc + 1)))
  have Bb3 := hide (Ba0.out.setCell (p := ⟨bb, 3, none⟩) HBbb.out (.int .i64 (xc + 1)))
  have XRb3 := hide ((block_setCell_other HNE.out.1 3 (.int .i64 (xc + 1))).trans XRa0.out)
  generalize wa0.setCell ⟨bb, 3, none⟩ (.int .i64 (xc + 1)) = wb3 at *
  have Hb4 := hide (show (wb3.setCell ⟨bb, 4, none⟩ (.int .i64 x)).heap[bb]? = some (.cells #[.int .i64 keep, .int .i64 next, .bool true, .int .i64 (xc + 1), .int .i64 x, .int .i64 xv, .int .i64 xr, .int .i64 xi, .int .i64 xo, .slice a L.length cp] 32 (0, 0)) from block_setCell Hb3.out 4 (.int .i64 x))
  have Bb4 := hide (Bb3.out.setCell (p := ⟨bb, 4, none⟩) HBbb.out (.int .i64 x))
  have XRb4 := hide ((block_setCell_other HNE.out.1 4 (.int .i64 x)).trans XRb3.out)
  generalize wb3.setCell ⟨bb, 4, none⟩ (.int .i64 x) = wb4 at *
  have Hb5 := hide (show (wb4.setCell ⟨bb, 5, none⟩ (.int .i64 xv)).heap[bb]? = some (.cells #[.int .i64 keep, .int .i64 next, .bool true, .int .i64 (xc + 1), .int .i64 x, .int .i64 xv, .int .i64 xr, .int .i64 xi, .int .i64 xo, .slice a L.length cp] 32 (0, 0)) from block_setCell Hb4.out 5 (.int .i64 xv))
  have Bb5 := hide (Bb4.out.setCell (p := ⟨bb, 5, none⟩) HBbb.out (.int .i64 xv))
  have XRb5 := hide ((block_setCell_other HNE.out.1 5 (.int .i64 xv)).trans XRb4.out)
  generalize wb4.setCell ⟨bb, 5, none⟩ (.int .i64 xv) = wb5 at *
  have Hb6 := hide (show (wb5.setCell ⟨bb, 6, none⟩ (.int .i64 xr)).heap[bb]? = some (.cells #[.int .i64 keep, .int .i64 next, .bool true, .int .i64 (xc + 1), .int .i64 x, .int .i64 xv, .int .i64 xr, .int .i64 xi, .int .i64 xo, .slice a L.length cp] 32 (0, 0)) from block_setCell Hb5.out 6 (.int .i64 xr))
  have Bb6 := hide (Bb5.out.setCell (p := ⟨bb, 6, none⟩) HBbb.out (.int .i64 xr))
  have XRb6 := hide ((block_setCell_other HNE.out.1 6 (.int .i64 xr)).trans XRb5.out)
  generalize wb5.setCell ⟨bb, 6, none⟩ (.int .i64 xr) = wb6 at *
  have Hb7 := hide (show (wb6.setCell ⟨bb, 7, none⟩ (.int .i64 xi)).heap[bb]? = some (.cells #[.int .i64 keep, .int .i64 next, .bool true, .int .i64 (xc + 1), .int .i64 x, .int .i64 xv, .int .i64 xr, .int .i64 xi, .int .i64 xo, .slice a L.length cp] 32 (0, 0)) from block_setCell Hb6.out 7 (.int .i64 xi))
  have Bb7 := hide (Bb6.out.setCell (p := ⟨bb, 7, none⟩) HBbb.out (.int .i64 xi))
  have XRb7 := hide ((block_setCell_other HNE.out.1 7 (.int .i64 xi)).trans XRb6.out)
  generalize wb6.setCell ⟨bb, 7, none⟩ (.int .i64 xi) = wb7 at *
  have Hb8 := hide (show (wb7.setCell ⟨bb, 8, none⟩ (.int .i64 xo)).heap[bb]? = some (.cells #[.int .i64 keep, .int .i64 next, .bool true, .int .i64 (xc + 1), .int .i64 x, .int .i64 xv, .int .i64 xr, .int .i64 xi, .int .i64 xo, .slice a L.length cp] 32 (0, 0)) from block_setCell Hb7.out 8 (.int .i64 xo))
  have Bb8 := hide (Bb7.out.setCell (p := ⟨bb, 8, none⟩) HBbb.out (.int .i64 xo))
  have XRb8 := hide ((block_setCell_other HNE.out.1 8 (.int .i64 xo)).trans XRb7.out)
  generalize wb7.setCell ⟨bb, 8, none⟩ (.int .i64 xo) = wb8 at *
  obtain ⟨⟨c0, c1, c2, c3, c4, c5, c6, c7, c8, c9⟩, ⟨f0, f1, f2, f3, f4, f5, f6, f7, f8, f9⟩⟩ := sh_facts Hb8.out
  obtain ⟨⟨d0, d1, d2, d3, d4, d5, d6, d7, d8, d9⟩, ⟨e0, e1, e2, e3, e4, e5, e6, e7, e8, e9⟩⟩ := sh_facts XRb8.out
  go_wp2_with fail
  clear c0 c1 c2 c3 c4 c5 c6 c7 c8 c9 f0 f1 f2 f3 f4 f5 f6 f7 f8 f9
  clear d0 d1 d2 d3 d4 d5 d6 d7 d8 d9 e0 e1 e2 e3 e4 e5 e6 e7 e8 e9
  have Hr0 := hide (show (wb8.setCell ⟨rb, 0, none⟩ (.int .i64 keep)).heap[rb]? = some (.cells #[.int .i64 keep, .int .i64 0, .bool false, .int .i64 0, .int .i64 0, .int .i64 0, .int .i64 0, .int .i64 0, .int .i64 0, .slice none 0 0] 32 (0, 0)) from block_setCell XRb8.out 0 (.int .i64 keep))
  have Br0 := hide (Bb8.out.setCell (p := ⟨rb, 0, none⟩) HBrb.out (.int .i64 keep))
  generalize wb8.setCell ⟨rb, 0, none⟩ (.int .i64 keep) = wr0 at *
  have Hr1 := hide (show (wr0.setCell ⟨rb, 1, none⟩ (.int .i64 next)).heap[rb]? = some (.cells #[.int .i64 keep, .int .i64 next, .bool false, .int .i64 0, .int .i64 0, .int .i64 0, .int .i64 0, .int .i64 0, .int .i64 0, .slice none 0 0] 32 (0, 0)) from block_setCell Hr0.out 1 (.int .i64 next))
  have Br1 := hide (Br0.out.setCell (p := ⟨rb, 1, none⟩) HBrb.out (.int .i64 next))
  generalize wr0.setCell ⟨rb, 1, none⟩ (.int .i64 next) = wr1 at *
  have Hr2 := hide (show (wr1.setCell ⟨rb, 2, none⟩ (.bool true)).heap[rb]? = some (.cells #[.int .i64 keep, .int .i64 next, .bool true, .int .i64 0, .int .i64 0, .int .i64 0, .int .i64 0, .int .i64 0, .int .i64 0, .slice none 0 0] 32 (0, 0)) from block_setCell Hr1.out 2 (.bool true))
  have Br2 := hide (Br1.out.setCell (p := ⟨rb, 2, none⟩) HBrb.out (.bool true))
  generalize wr1.setCell ⟨rb, 2, none⟩ (.bool true) = wr2 at *
  have Hr3 := hide (show (wr2.setCell ⟨rb, 3, none⟩ (.int .i64 (xc + 1))).heap[rb]? = some (.cells #[.int .i64 keep, .int .i64 next, .bool true, .int .i64 (xc + 1), .int .i64 0, .int .i64 0, .int .i64 0, .int .i64 0, .int .i64 0, .slice none 0 0] 32 (0, 0)) from block_setCell Hr2.out 3 (.int .i64 (xc + 1)))
  have Br3 := hide (Br2.out.setCell (p := ⟨rb, 3, none⟩) HBrb.out (.int .i64 (xc + 1)))
  generalize wr2.setCell ⟨rb, 3, none⟩ (.int .i64 (xc + 1)) = wr3 at *
  have Hr4 := hide (show (wr3.setCell ⟨rb, 4, none⟩ (.int .i64 x)).heap[rb]? = some (.cells #[.int .i64 keep, .int .i64 next, .bool true, .int .i64 (xc + 1), .int .i64 x, .int .i64 0, .int .i64 0, .int .i64 0, .int .i64 0, .slice none 0 0] 32 (0, 0)) from block_setCell Hr3.out 4 (.int .i64 x))
  have Br4 := hide (Br3.out.setCell (p := ⟨rb, 4, none⟩) HBrb.out (.int .i64 x))
  generalize wr3.setCell ⟨rb, 4, none⟩ (.int .i64 x) = wr4 at *
  have Hr5 := hide (show (wr4.setCell ⟨rb, 5, none⟩ (.int .i64 xv)).heap[rb]? = some (.cells #[.int .i64 keep, .int .i64 next, .bool true, .int .i64 (xc + 1), .int .i64 x, .int .i64 xv, .int .i64 0, .int .i64 0, .int .i64 0, .slice none 0 0] 32 (0, 0)) from block_setCell Hr4.out 5 (.int .i64 xv))
  have Br5 := hide (Br4.out.setCell (p := ⟨rb, 5, none⟩) HBrb.out (.int .i64 xv))
  generalize wr4.setCell ⟨rb, 5, none⟩ (.int .i64 xv) = wr5 at *
  have Hr6 := hide (show (wr5.setCell ⟨rb, 6, none⟩ (.int .i64 xr)).heap[rb]? = some (.cells #[.int .i64 keep, .int .i64 next, .bool true, .int .i64 (xc + 1), .int .i64 x, .int .i64 xv, .int .i64 xr, .int .i64 0, .int .i64 0, .slice none 0 0] 32 (0, 0)) from block_setCell Hr5.out 6 (.int .i64 xr))
  have Br6 := hide (Br5.out.setCell (p := ⟨rb, 6, none⟩) HBrb.out (.int .i64 xr))
  generalize wr5.setCell ⟨rb, 6, none⟩ (.int .i64 xr) = wr6 at *
  have Hr7 := hide (show (wr6.setCell ⟨rb, 7, none⟩ (.int .i64 xi)).heap[rb]? = some (.cells #[.int .i64 keep, .int .i64 next, .bool true, .int .i64 (xc + 1), .int .i64 x, .int .i64 xv, .int .i64 xr, .int .i64 xi, .int .i64 0, .slice none 0 0] 32 (0, 0)) from block_setCell Hr6.out 7 (.int .i64 xi))
  have Br7 := hide (Br6.out.setCell (p := ⟨rb, 7, none⟩) HBrb.out (.int .i64 xi))
  generalize wr6.setCell ⟨rb, 7, none⟩ (.int .i64 xi) = wr7 at *
  have Hr8 := hide (show (wr7.setCell ⟨rb, 8, none⟩ (.int .i64 xo)).heap[rb]? = some (.cells #[.int .i64 keep, .int .i64 next, .bool true, .int .i64 (xc + 1), .int .i64 x, .int .i64 xv, .int .i64 xr, .int .i64 xi, .int .i64 xo, .slice none 0 0] 32 (0, 0)) from block_setCell Hr7.out 8 (.int .i64 xo))
  have Br8 := hide (Br7.out.setCell (p := ⟨rb, 8, none⟩) HBrb.out (.int .i64 xo))
  generalize wr7.setCell ⟨rb, 8, none⟩ (.int .i64 xo) = wr8 at *
  have Hr9 := hide (show (wr8.setCell ⟨rb, 9, none⟩ (.slice a L.length cp)).heap[rb]? = some (.cells #[.int .i64 keep, .int .i64 next, .bool true, .int .i64 (xc + 1), .int .i64 x, .int .i64 xv, .int .i64 xr, .int .i64 xi, .int .i64 xo, .slice a L.length cp] 32 (0, 0)) from block_setCell Hr8.out 9 (.slice a L.length cp))
  have Br9 := hide (Br8.out.setCell (p := ⟨rb, 9, none⟩) HBrb.out (.slice a L.length cp))
  generalize wr8.setCell ⟨rb, 9, none⟩ (.slice a L.length cp) = wr9 at *
  (try simp only [Exit.inBlock, Exit.then])
  refine bodyPost_ret (res_ct (P := Try.prog) rfl _ wr9 rb 32 #[.int .i64 keep, .int .i64 next, .bool true, .int .i64 (xc + 1), .int .i64 x, .int .i64 xv, .int .i64 xr, .int .i64 xi, .int .i64 xo, .slice a L.length cp] (0, 0) _ rfl Hr9.out Try.underlying32 rfl (by kernel_rfl)) rfl ?_
  exact ⟨rfl, Br9.out⟩

set_option maxRecDepth 100000 in
set_option maxHeartbeats 4000000 in
theorem rsadd_2 (keep next xc xs xv xr xi xo : Int) (a : Option Addr) (L : List TotM) (cp : Nat) (am : Int) (h0 : 0 ≤ am) (hc : 0 ≤ xc ∧ xc < 4294967295) (x : Int) (hs : inR xv) (ham : inR am) (hx : inR (xv + am)) (hxe : xv + am = x) (w : World) :
    Calls Try.prog 15 #[.agg #[.int .i64 keep, .int .i64 next, .bool true, .int .i64 xc, .int .i64 xs, .int .i64 xv, .int .i64 xr, .int .i64 xi, .int .i64 xo, .slice a L.length cp], .int .u8 2, .int .i64 am] w fun e w' => e = .returned (.tuple #[.agg #[.int .i64 keep, .int .i64 next, .bool true, .int .i64 (xc + 1), .int .i64 xs, .int .i64 x, .int .i64 xr, .int .i64 xi, .int .i64 xo, .slice a L.length cp], .int .i64 0]) ∧ Below w.heap.size w w' := by
  have HAD := hide (fun W => radd_any xv am hs ham W)
  rw [(sum_in hx).1, (sum_in hx).2, hxe] at HAD
  clear hx hxe hs ham
  have hwc : IntKind.i64.wrap (xc + 1) = xc + 1 := by rw [IntKind.wrap_i64]; omega
  have hwc2 : wrap64 (xc + 1) = xc + 1 := by unfold wrap64; omega
  have hc2 : ¬ 4294967295 ≤ xc := by omega
  have ham0 : ¬ am < 0 := by omega
  clear hc
  go_enter Try.func15, Try.ntmps15
  go_upto_region 8 with (fail)
  obtain ⟨w3, hw3⟩ : ∃ w3, w3 = ((w.alloc (.cells #[.int .i64 keep, .int .i64 next, .bool true, .int .i64 xc, .int .i64 xs, .int .i64 xv, .int .i64 xr, .int .i64 xi, .int .i64 xo, .slice a L.length cp] 32)).alloc (.cells #[.int .i64 0, .int .i64 0, .bool false, .int .i64 0, .int .i64 0, .int .i64 0, .int .i64 0, .int .i64 0, .int .i64 0, .slice none 0 0] 32)).alloc (.cells #[.int .i64 xc, .int .i64 xs, .int .i64 xv, .int .i64 xr, .int .i64 xi, .int .i64 xo] 29) := ⟨_, rfl⟩
  rw [← hw3]
  have XB := hide (show w3.heap[w.heap.size]? = some (.cells #[.int .i64 keep, .int .i64 next, .bool true, .int .i64 xc, .int .i64 xs, .int .i64 xv, .int .i64 xr, .int .i64 xi, .int .i64 xo, .slice a L.length cp] 32 (0, 0)) by rw [hw3, heap_old _ _ _ (by simp; omega), heap_old _ _ _ (by simp), heap_new])
  have XR := hide (show w3.heap[(w.heap.size + 1)]? = some (.cells #[.int .i64 0, .int .i64 0, .bool false, .int .i64 0, .int .i64 0, .int .i64 0, .int .i64 0, .int .i64 0, .int .i64 0, .slice none 0 0] 32 (0, 0)) by rw [hw3, heap_old _ _ _ (by simp)]; exact heap_alloc2_new w _ _)
  have XT := hide (show w3.heap[(w.heap.size + 1 + 1)]? = some (.cells #[.int .i64 xc, .int .i64 xs, .int .i64 xv, .int .i64 xr, .int .i64 xi, .int .i64 xo] 29 (0, 0)) by rw [hw3]; exact heap_alloc3_new w _ _ _)
  have BB := hide (show Below w.heap.size w w3 by rw [hw3]; exact (((Below.refl w.heap.size w).alloc (Nat.le_refl _) _).alloc (by simp) _).alloc (by simp; omega) _)
  clear hw3
  obtain ⟨bb, hbb⟩ : ∃ k, w.heap.size = k := ⟨_, rfl⟩
  obtain ⟨rb, hrb⟩ : ∃ k, bb + 1 = k := ⟨_, rfl⟩
  obtain ⟨tb, htb⟩ : ∃ k, rb + 1 = k := ⟨_, rfl⟩
  rw [hbb] at XB XR XT ⊢
  rw [hrb] at XR XT ⊢
  rw [htb] at XT ⊢
  have HBbb := hide (show w.heap.size ≤ bb by omega)
  have HBrb := hide (show w.heap.size ≤ rb by omega)
  have HBtb := hide (show w.heap.size ≤ tb by omega)
  have HNE := hide (show bb ≠ rb ∧ bb ≠ tb ∧ rb ≠ tb by omega)
  have HBB := hide hbb
  clear hbb hrb htb
  obtain ⟨⟨g0, g1, g2, g3, g4, g5⟩, ⟨q0, q1, q2, q3, q4, q5⟩⟩ := six_facts XT.out
  go_wp2_with fail
  refine (HAD.out _).mono ?_
  rintro e w4 ⟨rfl, hb⟩
  have XB4 := hide ((hb.block _ (heap_lt XB.out)).trans XB.out)
  have XR4 := hide ((hb.block _ (heap_lt XR.out)).trans XR.out)
  have XT4 := hide ((hb.block _ (heap_lt XT.out)).trans XT.out)
  have BB4 := hide (BB.out.trans (hb.mono (Nat.le_trans HBbb.out (Nat.le_of_lt (heap_lt XB.out)))))
  clear g0 g1 g2 g3 g4 g5 q0 q1 q2 q3 q4 q5
  clear hb XB XR XT BB
  obtain ⟨⟨g0, g1, g2, g3, g4, g5⟩, ⟨q0, q1, q2, q3, q4, q5⟩⟩ := six_facts XT4.out
  go_upto_region 13 with (fail)
  clear g0 g1 g2 g3 g4 g5 q0 q1 q2 q3 q4 q5
  have Hs2 := hide (show (w4.setCell ⟨tb, 2, none⟩ (.int .i64 x)).heap[tb]? = some (.cells #[.int .i64 xc, .int .i64 xs, .int .i64 x, .int .i64 xr, .int .i64 xi, .int .i64 xo] 29 (0, 0)) from block_setCell XT4.out 2 (.int .i64 x))
  have Bs2 := hide (BB4.out.setCell (p := ⟨tb, 2, none⟩) HBtb.out (.int .i64 x))
  have XBs2 := hide ((block_setCell_other HNE.out.2.1.symm 2 (.int .i64 x)).trans XB4.out)
  have XRs2 := hide ((block_setCell_other HNE.out.2.2.symm 2 (.int .i64 x)).trans XR4.out)
  generalize w4.setCell ⟨tb, 2, none⟩ (.int .i64 x) = ws2 at *
  obtain ⟨⟨g0, g1, g2, g3, g4, g5⟩, ⟨q0, q1, q2, q3, q4, q5⟩⟩ := six_facts Hs2.out
  go_upto_region 14 with (fail)
  clear g0 g1 g2 g3 g4 g5 q0 q1 q2 q3 q4 q5
  have Ha0 := hide (show (ws2.setCell ⟨tb, 0, none⟩ (.int .i64 (xc + 1))).heap[tb]? = some (.cells #[.int .i64 (xc + 1), .int .i64 xs, .int .i64 x, .int .i64 xr, .int .i64 xi, .int .i64 xo] 29 (0, 0)) from block_setCell Hs2.out 0 (.int .i64 (xc + 1)))
  have Ba0 := hide (Bs2.out.setCell (p := ⟨tb, 0, none⟩) HBtb.out (.int .i64 (xc + 1)))
  have XBa0 := hide ((block_setCell_other HNE.out.2.1.symm 0 (.int .i64 (xc + 1))).trans XBs2.out)
  have XRa0 := hide ((block_setCell_other HNE.out.2.2.symm 0 (.int .i64 (xc + 1))).trans XRs2.out)
  generalize ws2.setCell ⟨tb, 0, none⟩ (.int .i64 (xc + 1)) = wa0 at *
  obtain ⟨⟨g0, g1, g2, g3, g4, g5⟩, ⟨q0, q1, q2, q3, q4, q5⟩⟩ := six_facts Ha0.out
  obtain ⟨⟨c0, c1, c2, c3, c4, c5, c6, c7, c8, c9⟩, ⟨f0, f1, f2, f3, f4, f5, f6, f7, f8, f9⟩⟩ := sh_facts XBa0.out
  go_upto_region 15 with (fail)
  clear g0 g1 g2 g3 g4 g5 q0 q1 q2 q3 q4 q5
  clear c0 c1 c2 c3 c4 c5 c6 c7 c8 c9 f0 f1 f2 f3 f4 f5 f6 f7 f8 f9
  have Hb3 := hide (show (wa0.setCell ⟨bb, 3, none⟩ (.int .i64 (xc + 1))).heap[bb]? = some (.cells #[.int .i64 keep, .int .i64 next, .bool true, .int .i64 (xc + 1), .int .i64 xs, .int .i64 xv, .int .i64 xr, .int .i64 xi, .int .i64 xo, .slice a L.length cp] 32 (0, 0)) from block_setCell XBa0.out 3 (.int .i64 (xc + 1)))
  have Bb3 := hide (Ba0.out.setCell (p := ⟨bb, 3, none⟩) HBbb.out (.int .i64 (xc + 1)))
  have XRb3 := hide ((block_setCell_other HNE.out.1 3 (.int .i64 (xc + 1))).trans XRa0.out)
  generalize wa0.setCell ⟨bb, 3, none⟩ (.int .i64 (xc + 1)) = wb3 at *
  have Hb4 := hide (show (wb3.setCell ⟨bb, 4, none⟩ (.int .i64 xs)).heap[bb]? = some (.cells #[.int .i64 keep, .int .i64 next, .bool true, .int .i64 (xc + 1), .int .i64 xs, .int .i64 xv, .int .i64 xr, .int .i64 xi, .int .i64 xo, .slice a L.length cp] 32 (0, 0)) from block_setCell Hb3.out 4 (.int .i64 xs))
  have Bb4 := hide (Bb3.out.setCell (p := ⟨bb, 4, none⟩) HBbb.out (.int .i64 xs))
  have XRb4 := hide ((block_setCell_other HNE.out.1 4 (.int .i64 xs)).trans XRb3.out)
  generalize wb3.setCell ⟨bb, 4, none⟩ (.int .i64 xs) = wb4 at *
  have Hb5 := hide (show (wb4.setCell ⟨bb, 5, none⟩ (.int .i64 x)).heap[bb]? = some (.cells #[.int .i64 keep, .int .i64 next, .bool true, .int .i64 (xc + 1), .int .i64 xs, .int .i64 x, .int .i64 xr, .int .i64 xi, .int .i64 xo, .slice a L.length cp] 32 (0, 0)) from block_setCell Hb4.out 5 (.int .i64 x))
  have Bb5 := hide (Bb4.out.setCell (p := ⟨bb, 5, none⟩) HBbb.out (.int .i64 x))
  have XRb5 := hide ((block_setCell_other HNE.out.1 5 (.int .i64 x)).trans XRb4.out)
  generalize wb4.setCell ⟨bb, 5, none⟩ (.int .i64 x) = wb5 at *
  have Hb6 := hide (show (wb5.setCell ⟨bb, 6, none⟩ (.int .i64 xr)).heap[bb]? = some (.cells #[.int .i64 keep, .int .i64 next, .bool true, .int .i64 (xc + 1), .int .i64 xs, .int .i64 x, .int .i64 xr, .int .i64 xi, .int .i64 xo, .slice a L.length cp] 32 (0, 0)) from block_setCell Hb5.out 6 (.int .i64 xr))
  have Bb6 := hide (Bb5.out.setCell (p := ⟨bb, 6, none⟩) HBbb.out (.int .i64 xr))
  have XRb6 := hide ((block_setCell_other HNE.out.1 6 (.int .i64 xr)).trans XRb5.out)
  generalize wb5.setCell ⟨bb, 6, none⟩ (.int .i64 xr) = wb6 at *
  have Hb7 := hide (show (wb6.setCell ⟨bb, 7, none⟩ (.int .i64 xi)).heap[bb]? = some (.cells #[.int .i64 keep, .int .i64 next, .bool true, .int .i64 (xc + 1), .int .i64 xs, .int .i64 x, .int .i64 xr, .int .i64 xi, .int .i64 xo, .slice a L.length cp] 32 (0, 0)) from block_setCell Hb6.out 7 (.int .i64 xi))
  have Bb7 := hide (Bb6.out.setCell (p := ⟨bb, 7, none⟩) HBbb.out (.int .i64 xi))
  have XRb7 := hide ((block_setCell_other HNE.out.1 7 (.int .i64 xi)).trans XRb6.out)
  generalize wb6.setCell ⟨bb, 7, none⟩ (.int .i64 xi) = wb7 at *
  have Hb8 := hide (show (wb7.setCell ⟨bb, 8, none⟩ (.int .i64 xo)).heap[bb]? = some (.cells #[.int .i64 keep, .int .i64 next, .bool true, .int .i64 (xc + 1), .int .i64 xs, .int .i64 x, .int .i64 xr, .int .i64 xi, .int .i64 xo, .slice a L.length cp] 32 (0, 0)) from block_setCell Hb7.out 8 (.int .i64 xo))
  have Bb8 := hide (Bb7.out.setCell (p := ⟨bb, 8, none⟩) HBbb.out (.int .i64 xo))
  have XRb8 := hide ((block_setCell_other HNE.out.1 8 (.int .i64 xo)).trans XRb7.out)
  generalize wb7.setCell ⟨bb, 8, none⟩ (.int .i64 xo) = wb8 at *
  obtain ⟨⟨c0, c1, c2, c3, c4, c5, c6, c7, c8, c9⟩, ⟨f0, f1, f2, f3, f4, f5, f6, f7, f8, f9⟩⟩ := sh_facts Hb8.out
  obtain ⟨⟨d0, d1, d2, d3, d4, d5, d6, d7, d8, d9⟩, ⟨e0, e1, e2, e3, e4, e5, e6, e7, e8, e9⟩⟩ := sh_facts XRb8.out
  go_wp2_with fail
  clear c0 c1 c2 c3 c4 c5 c6 c7 c8 c9 f0 f1 f2 f3 f4 f5 f6 f7 f8 f9
  clear d0 d1 d2 d3 d4 d5 d6 d7 d8 d9 e0 e1 e2 e3 e4 e5 e6 e7 e8 e9
  have Hr0 := hide (show (wb8.setCell ⟨rb, 0, none⟩ (.int .i64 keep)).heap[rb]? = some (.cells #[.int .i64 keep, .int .i64 0, .bool false, .int .i64 0, .int .i64 0, .int .i64 0, .int .i64 0, .int .i64 0, .int .i64 0, .slice none 0 0] 32 (0, 0)) from block_setCell XRb8.out 0 (.int .i64 keep))
  have Br0 := hide (Bb8.out.setCell (p := ⟨rb, 0, none⟩) HBrb.out (.int .i64 keep))
  generalize wb8.setCell ⟨rb, 0, none⟩ (.int .i64 keep) = wr0 at *
  have Hr1 := hide (show (wr0.setCell ⟨rb, 1, none⟩ (.int .i64 next)).heap[rb]? = some (.cells #[.int .i64 keep, .int .i64 next, .bool false, .int .i64 0, .int .i64 0, .int .i64 0, .int .i64 0, .int .i64 0, .int .i64 0, .slice none 0 0] 32 (0, 0)) from block_setCell Hr0.out 1 (.int .i64 next))
  have Br1 := hide (Br0.out.setCell (p := ⟨rb, 1, none⟩) HBrb.out (.int .i64 next))
  generalize wr0.setCell ⟨rb, 1, none⟩ (.int .i64 next) = wr1 at *
  have Hr2 := hide (show (wr1.setCell ⟨rb, 2, none⟩ (.bool true)).heap[rb]? = some (.cells #[.int .i64 keep, .int .i64 next, .bool true, .int .i64 0, .int .i64 0, .int .i64 0, .int .i64 0, .int .i64 0, .int .i64 0, .slice none 0 0] 32 (0, 0)) from block_setCell Hr1.out 2 (.bool true))
  have Br2 := hide (Br1.out.setCell (p := ⟨rb, 2, none⟩) HBrb.out (.bool true))
  generalize wr1.setCell ⟨rb, 2, none⟩ (.bool true) = wr2 at *
  have Hr3 := hide (show (wr2.setCell ⟨rb, 3, none⟩ (.int .i64 (xc + 1))).heap[rb]? = some (.cells #[.int .i64 keep, .int .i64 next, .bool true, .int .i64 (xc + 1), .int .i64 0, .int .i64 0, .int .i64 0, .int .i64 0, .int .i64 0, .slice none 0 0] 32 (0, 0)) from block_setCell Hr2.out 3 (.int .i64 (xc + 1)))
  have Br3 := hide (Br2.out.setCell (p := ⟨rb, 3, none⟩) HBrb.out (.int .i64 (xc + 1)))
  generalize wr2.setCell ⟨rb, 3, none⟩ (.int .i64 (xc + 1)) = wr3 at *
  have Hr4 := hide (show (wr3.setCell ⟨rb, 4, none⟩ (.int .i64 xs)).heap[rb]? = some (.cells #[.int .i64 keep, .int .i64 next, .bool true, .int .i64 (xc + 1), .int .i64 xs, .int .i64 0, .int .i64 0, .int .i64 0, .int .i64 0, .slice none 0 0] 32 (0, 0)) from block_setCell Hr3.out 4 (.int .i64 xs))
  have Br4 := hide (Br3.out.setCell (p := ⟨rb, 4, none⟩) HBrb.out (.int .i64 xs))
  generalize wr3.setCell ⟨rb, 4, none⟩ (.int .i64 xs) = wr4 at *
  have Hr5 := hide (show (wr4.setCell ⟨rb, 5, none⟩ (.int .i64 x)).heap[rb]? = some (.cells #[.int .i64 keep, .int .i64 next, .bool true, .int .i64 (xc + 1), .int .i64 xs, .int .i64 x, .int .i64 0, .int .i64 0, .int .i64 0, .slice none 0 0] 32 (0, 0)) from block_setCell Hr4.out 5 (.int .i64 x))
  have Br5 := hide (Br4.out.setCell (p := ⟨rb, 5, none⟩) HBrb.out (.int .i64 x))
  generalize wr4.setCell ⟨rb, 5, none⟩ (.int .i64 x) = wr5 at *
  have Hr6 := hide (show (wr5.setCell ⟨rb, 6, none⟩ (.int .i64 xr)).heap[rb]? = some (.cells #[.int .i64 keep, .int .i64 next, .bool true, .int .i64 (xc + 1), .int .i64 xs, .int .i64 x, .int .i64 xr, .int .i64 0, .int .i64 0, .slice none 0 0] 32 (0, 0)) from block_setCell Hr5.out 6 (.int .i64 xr))
  have Br6 := hide (Br5.out.setCell (p := ⟨rb, 6, none⟩) HBrb.out (.int .i64 xr))
  generalize wr5.setCell ⟨rb, 6, none⟩ (.int .i64 xr) = wr6 at *
  have Hr7 := hide (show (wr6.setCell ⟨rb, 7, none⟩ (.int .i64 xi)).heap[rb]? = some (.cells #[.int .i64 keep, .int .i64 next, .bool true, .int .i64 (xc + 1), .int .i64 xs, .int .i64 x, .int .i64 xr, .int .i64 xi, .int .i64 0, .slice none 0 0] 32 (0, 0)) from block_setCell Hr6.out 7 (.int .i64 xi))
  have Br7 := hide (Br6.out.setCell (p := ⟨rb, 7, none⟩) HBrb.out (.int .i64 xi))
  generalize wr6.setCell ⟨rb, 7, none⟩ (.int .i64 xi) = wr7 at *
  have Hr8 := hide (show (wr7.setCell ⟨rb, 8, none⟩ (.int .i64 xo)).heap[rb]? = some (.cells #[.int .i64 keep, .int .i64 next, .bool true, .int .i64 (xc + 1), .int .i64 xs, .int .i64 x, .int .i64 xr, .int .i64 xi, .int .i64 xo, .slice none 0 0] 32 (0, 0)) from block_setCell Hr7.out 8 (.int .i64 xo))
  have Br8 := hide (Br7.out.setCell (p := ⟨rb, 8, none⟩) HBrb.out (.int .i64 xo))
  generalize wr7.setCell ⟨rb, 8, none⟩ (.int .i64 xo) = wr8 at *
  have Hr9 := hide (show (wr8.setCell ⟨rb, 9, none⟩ (.slice a L.length cp)).heap[rb]? = some (.cells #[.int .i64 keep, .int .i64 next, .bool true, .int .i64 (xc + 1), .int .i64 xs, .int .i64 x, .int .i64 xr, .int .i64 xi, .int .i64 xo, .slice a L.length cp] 32 (0, 0)) from block_setCell Hr8.out 9 (.slice a L.length cp))
  have Br9 := hide (Br8.out.setCell (p := ⟨rb, 9, none⟩) HBrb.out (.slice a L.length cp))
  generalize wr8.setCell ⟨rb, 9, none⟩ (.slice a L.length cp) = wr9 at *
  (try simp only [Exit.inBlock, Exit.then])
  refine bodyPost_ret (res_ct (P := Try.prog) rfl _ wr9 rb 32 #[.int .i64 keep, .int .i64 next, .bool true, .int .i64 (xc + 1), .int .i64 xs, .int .i64 x, .int .i64 xr, .int .i64 xi, .int .i64 xo, .slice a L.length cp] (0, 0) _ rfl Hr9.out Try.underlying32 rfl (by kernel_rfl)) rfl ?_
  exact ⟨rfl, Br9.out⟩

set_option maxRecDepth 100000 in
set_option maxHeartbeats 4000000 in
theorem rsadd_3 (keep next xc xs xv xr xi xo : Int) (a : Option Addr) (L : List TotM) (cp : Nat) (am : Int) (h0 : 0 ≤ am) (hc : 0 ≤ xc ∧ xc < 4294967295) (x : Int) (hs : inR xr) (ham : inR am) (hx : inR (xr + am)) (hxe : xr + am = x) (w : World) :
    Calls Try.prog 15 #[.agg #[.int .i64 keep, .int .i64 next, .bool true, .int .i64 xc, .int .i64 xs, .int .i64 xv, .int .i64 xr, .int .i64 xi, .int .i64 xo, .slice a L.length cp], .int .u8 3, .int .i64 am] w fun e w' => e = .returned (.tuple #[.agg #[.int .i64 keep, .int .i64 next, .bool true, .int .i64 (xc + 1), .int .i64 xs, .int .i64 xv, .int .i64 x, .int .i64 xi, .int .i64 xo, .slice a L.length cp], .int .i64 0]) ∧ Below w.heap.size w w' := by
  have HAD := hide (fun W => radd_any xr am hs ham W)
  rw [(sum_in hx).1, (sum_in hx).2, hxe] at HAD
  clear hx hxe hs ham
  have hwc : IntKind.i64.wrap (xc + 1) = xc + 1 := by rw [IntKind.wrap_i64]; omega
  have hwc2 : wrap64 (xc + 1) = xc + 1 := by unfold wrap64; omega
  have hc2 : ¬ 4294967295 ≤ xc := by omega
  have ham0 : ¬ am < 0 := by omega
  clear hc
  go_enter Try.func15, Try.ntmps15
  go_upto_region 8 with (fail)
  obtain ⟨w3, hw3⟩ : ∃ w3, w3 = ((w.alloc (.cells #[.int .i64 keep, .int .i64 next, .bool true, .int .i64 xc, .int .i64 xs, .int .i64 xv, .int .i64 xr, .int .i64 xi, .int .i64 xo, .slice a L.length cp] 32)).alloc (.cells #[.int .i64 0, .int .i64 0, .bool false, .int .i64 0, .int .i64 0, .int .i64 0, .int .i64 0, .int .i64 0, .int .i64 0, .slice none 0 0] 32)).alloc (.cells #[.int .i64 xc, .int .i64 xs, .int .i64 xv, .int .i64 xr, .int .i64 xi, .int .i64 xo] 29) := ⟨_, rfl⟩
  rw [← hw3]
  have XB := hide (show w3.heap[w.heap.size]? = some (.cells #[.int .i64 keep, .int .i64 next, .bool true, .int .i64 xc, .int .i64 xs, .int .i64 xv, .int .i64 xr, .int .i64 xi, .int .i64 xo, .slice a L.length cp] 32 (0, 0)) by rw [hw3, heap_old _ _ _ (by simp; omega), heap_old _ _ _ (by simp), heap_new])
  have XR := hide (show w3.heap[(w.heap.size + 1)]? = some (.cells #[.int .i64 0, .int .i64 0, .bool false, .int .i64 0, .int .i64 0, .int .i64 0, .int .i64 0, .int .i64 0, .int .i64 0, .slice none 0 0] 32 (0, 0)) by rw [hw3, heap_old _ _ _ (by simp)]; exact heap_alloc2_new w _ _)
  have XT := hide (show w3.heap[(w.heap.size + 1 + 1)]? = some (.cells #[.int .i64 xc, .int .i64 xs, .int .i64 xv, .int .i64 xr, .int .i64 xi, .int .i64 xo] 29 (0, 0)) by rw [hw3]; exact heap_alloc3_new w _ _ _)
  have BB := hide (show Below w.heap.size w w3 by rw [hw3]; exact (((Below.refl w.heap.size w).alloc (Nat.le_refl _) _).alloc (by simp) _).alloc (by simp; omega) _)
  clear hw3
  obtain ⟨bb, hbb⟩ : ∃ k, w.heap.size = k := ⟨_, rfl⟩
  obtain ⟨rb, hrb⟩ : ∃ k, bb + 1 = k := ⟨_, rfl⟩
  obtain ⟨tb, htb⟩ : ∃ k, rb + 1 = k := ⟨_, rfl⟩
  rw [hbb] at XB XR XT ⊢
  rw [hrb] at XR XT ⊢
  rw [htb] at XT ⊢
  have HBbb := hide (show w.heap.size ≤ bb by omega)
  have HBrb := hide (show w.heap.size ≤ rb by omega)
  have HBtb := hide (show w.heap.size ≤ tb by omega)
  have HNE := hide (show bb ≠ rb ∧ bb ≠ tb ∧ rb ≠ tb by omega)
  have HBB := hide hbb
  clear hbb hrb htb
  obtain ⟨⟨g0, g1, g2, g3, g4, g5⟩, ⟨q0, q1, q2, q3, q4, q5⟩⟩ := six_facts XT.out
  go_wp2_with fail
  refine (HAD.out _).mono ?_
  rintro e w4 ⟨rfl, hb⟩
  have XB4 := hide ((hb.block _ (heap_lt XB.out)).trans XB.out)
  have XR4 := hide ((hb.block _ (heap_lt XR.out)).trans XR.out)
  have XT4 := hide ((hb.block _ (heap_lt XT.out)).trans XT.out)
  have BB4 := hide (BB.out.trans (hb.mono (Nat.le_trans HBbb.out (Nat.le_of_lt (heap_lt XB.out)))))
  clear g0 g1 g2 g3 g4 g5 q0 q1 q2 q3 q4 q5
  clear hb XB XR XT BB
  obtain ⟨⟨g0, g1, g2, g3, g4, g5⟩, ⟨q0, q1, q2, q3, q4, q5⟩⟩ := six_facts XT4.out
  go_upto_region 13 with (fail)
  clear g0 g1 g2 g3 g4 g5 q0 q1 q2 q3 q4 q5
  have Hs3 := hide (show (w4.setCell ⟨tb, 3, none⟩ (.int .i64 x)).heap[tb]? = some (.cells #[.int .i64 xc, .int .i64 xs, .int .i64 xv, .int .i64 x, .int .i64 xi, .int .i64 xo] 29 (0, 0)) from block_setCell XT4.out 3 (.int .i64 x))
  have Bs3 := hide (BB4.out.setCell (p := ⟨tb, 3, none⟩) HBtb.out (.int .i64 x))
  have XBs3 := hide ((block_setCell_other HNE.out.2.1.symm 3 (.int .i64 x)).trans XB4.out)
  have XRs3 := hide ((block_setCell_other HNE.out.2.2.symm 3 (.int .i64 x)).trans XR4.out)
  generalize w4.setCell ⟨tb, 3, none⟩ (.int .i64 x) = ws3 at *
  obtain ⟨⟨g0, g1, g2, g3, g4, g5⟩, ⟨q0, q1, q2, q3, q4, q5⟩⟩ := six_facts Hs3.out
  go_upto_region 14 with (fail)
  clear g0 g1 g2 g3 g4 g5 q0 q1 q2 q3 q4 q5
  have Ha0 := hide (show (ws3.setCell ⟨tb, 0, none⟩ (.int .i64 (xc + 1))).heap[tb]? = some (.cells #[.int .i64 (xc + 1), .int .i64 xs, .int .i64 xv, .int .i64 x, .int .i64 xi, .int .i64 xo] 29 (0, 0)) from block_setCell Hs3.out 0 (.int .i64 (xc + 1)))
  have Ba0 := hide (Bs3.out.setCell (p := ⟨tb, 0, none⟩) HBtb.out (.int .i64 (xc + 1)))
  have XBa0 := hide ((block_setCell_other HNE.out.2.1.symm 0 (.int .i64 (xc + 1))).trans XBs3.out)
  have XRa0 := hide ((block_setCell_other HNE.out.2.2.symm 0 (.int .i64 (xc + 1))).trans XRs3.out)
  generalize ws3.setCell ⟨tb, 0, none⟩ (.int .i64 (xc + 1)) = wa0 at *
  obtain ⟨⟨g0, g1, g2, g3, g4, g5⟩, ⟨q0, q1, q2, q3, q4, q5⟩⟩ := six_facts Ha0.out
  obtain ⟨⟨c0, c1, c2, c3, c4, c5, c6, c7, c8, c9⟩, ⟨f0, f1, f2, f3, f4, f5, f6, f7, f8, f9⟩⟩ := sh_facts XBa0.out
  go_upto_region 15 with (fail)
  clear g0 g1 g2 g3 g4 g5 q0 q1 q2 q3 q4 q5
  clear c0 c1 c2 c3 c4 c5 c6 c7 c8 c9 f0 f1 f2 f3 f4 f5 f6 f7 f8 f9
  have Hb3 := hide (show (wa0.setCell ⟨bb, 3, none⟩ (.int .i64 (xc + 1))).heap[bb]? = some (.cells #[.int .i64 keep, .int .i64 next, .bool true, .int .i64 (xc + 1), .int .i64 xs, .int .i64 xv, .int .i64 xr, .int .i64 xi, .int .i64 xo, .slice a L.length cp] 32 (0, 0)) from block_setCell XBa0.out 3 (.int .i64 (xc + 1)))
  have Bb3 := hide (Ba0.out.setCell (p := ⟨bb, 3, none⟩) HBbb.out (.int .i64 (xc + 1)))
  have XRb3 := hide ((block_setCell_other HNE.out.1 3 (.int .i64 (xc + 1))).trans XRa0.out)
  generalize wa0.setCell ⟨bb, 3, none⟩ (.int .i64 (xc + 1)) = wb3 at *
  have Hb4 := hide (show (wb3.setCell ⟨bb, 4, none⟩ (.int .i64 xs)).heap[bb]? = some (.cells #[.int .i64 keep, .int .i64 next, .bool true, .int .i64 (xc + 1), .int .i64 xs, .int .i64 xv, .int .i64 xr, .int .i64 xi, .int .i64 xo, .slice a L.length cp] 32 (0, 0)) from block_setCell Hb3.out 4 (.int .i64 xs))
  have Bb4 := hide (Bb3.out.setCell (p := ⟨bb, 4, none⟩) HBbb.out (.int .i64 xs))
  have XRb4 := hide ((block_setCell_other HNE.out.1 4 (.int .i64 xs)).trans XRb3.out)
  generalize wb3.setCell ⟨bb, 4, none⟩ (.int .i64 xs) = wb4 at *
  have Hb5 := hide (show (wb4.setCell ⟨bb, 5, none⟩ (.int .i64 xv)).heap[bb]? = some (.cells #[.int .i64 keep, .int .i64 next, .bool true, .int .i64 (xc + 1), .int .i64 xs, .int .i64 xv, .int .i64 xr, .int .i64 xi, .int .i64 xo, .slice a L.length cp] 32 (0, 0)) from block_setCell Hb4.out 5 (.int .i64 xv))
  have Bb5 := hide (Bb4.out.setCell (p := ⟨bb, 5, none⟩) HBbb.out (.int .i64 xv))
  have XRb5 := hide ((block_setCell_other HNE.out.1 5 (.int .i64 xv)).trans XRb4.out)
  generalize wb4.setCell ⟨bb, 5, none⟩ (.int .i64 xv) = wb5 at *
  have Hb6 := hide (show (wb5.setCell ⟨bb, 6, none⟩ (.int .i64 x)).heap[bb]? = some (.cells #[.int .i64 keep, .int .i64 next, .bool true, .int .i64 (xc + 1), .int .i64 xs, .int .i64 xv, .int .i64 x, .int .i64 xi, .int .i64 xo, .slice a L.length cp] 32 (0, 0)) from block_setCell Hb5.out 6 (.int .i64 x))
  have Bb6 := hide (Bb5.out.setCell (p := ⟨bb, 6, none⟩) HBbb.out (.int .i64 x))
  have XRb6 := hide ((block_setCell_other HNE.out.1 6 (.int .i64 x)).trans XRb5.out)
  generalize wb5.setCell ⟨bb, 6, none⟩ (.int .i64 x) = wb6 at *
  have Hb7 := hide (show (wb6.setCell ⟨bb, 7, none⟩ (.int .i64 xi)).heap[bb]? = some (.cells #[.int .i64 keep, .int .i64 next, .bool true, .int .i64 (xc + 1), .int .i64 xs, .int .i64 xv, .int .i64 x, .int .i64 xi, .int .i64 xo, .slice a L.length cp] 32 (0, 0)) from block_setCell Hb6.out 7 (.int .i64 xi))
  have Bb7 := hide (Bb6.out.setCell (p := ⟨bb, 7, none⟩) HBbb.out (.int .i64 xi))
  have XRb7 := hide ((block_setCell_other HNE.out.1 7 (.int .i64 xi)).trans XRb6.out)
  generalize wb6.setCell ⟨bb, 7, none⟩ (.int .i64 xi) = wb7 at *
  have Hb8 := hide (show (wb7.setCell ⟨bb, 8, none⟩ (.int .i64 xo)).heap[bb]? = some (.cells #[.int .i64 keep, .int .i64 next, .bool true, .int .i64 (xc + 1), .int .i64 xs, .int .i64 xv, .int .i64 x, .int .i64 xi, .int .i64 xo, .slice a L.length cp] 32 (0, 0)) from block_setCell Hb7.out 8 (.int .i64 xo))
  have Bb8 := hide (Bb7.out.setCell (p := ⟨bb, 8, none⟩) HBbb.out (.int .i64 xo))
  have XRb8 := hide ((block_setCell_other HNE.out.1 8 (.int .i64 xo)).trans XRb7.out)
  generalize wb7.setCell ⟨bb, 8, none⟩ (.int .i64 xo) = wb8 at *
  obtain ⟨⟨c0, c1, c2, c3, c4, c5, c6, c7, c8, c9⟩, ⟨f0, f1, f2, f3, f4, f5, f6, f7, f8, f9⟩⟩ := sh_facts Hb8.out
  obtain ⟨⟨d0, d1, d2, d3, d4, d5, d6, d7, d8, d9⟩, ⟨e0, e1, e2, e3, e4, e5, e6, e7, e8, e9⟩⟩ := sh_facts XRb8.out
  go_wp2_with fail
  clear c0 c1 c2 c3 c4 c5 c6 c7 c8 c9 f0 f1 f2 f3 f4 f5 f6 f7 f8 f9
  clear d0 d1 d2 d3 d4 d5 d6 d7 d8 d9 e0 e1 e2 e3 e4 e5 e6 e7 e8 e9
  have Hr0 := hide (show (wb8.setCell ⟨rb, 0, none⟩ (.int .i64 keep)).heap[rb]? = some (.cells #[.int .i64 keep, .int .i64 0, .bool false, .int .i64 0, .int .i64 0, .int .i64 0, .int .i64 0, .int .i64 0, .int .i64 0, .slice none 0 0] 32 (0, 0)) from block_setCell XRb8.out 0 (.int .i64 keep))
  have Br0 := hide (Bb8.out.setCell (p := ⟨rb, 0, none⟩) HBrb.out (.int .i64 keep))
  generalize wb8.setCell ⟨rb, 0, none⟩ (.int .i64 keep) = wr0 at *
  have Hr1 := hide (show (wr0.setCell ⟨rb, 1, none⟩ (.int .i64 next)).heap[rb]? = some (.cells #[.int .i64 keep, .int .i64 next, .bool false, .int .i64 0, .int .i64 0, .int .i64 0, .int .i64 0, .int .i64 0, .int .i64 0, .slice none 0 0] 32 (0, 0)) from block_setCell Hr0.out 1 (.int .i64 next))
  have Br1 := hide (Br0.out.setCell (p := ⟨rb, 1, none⟩) HBrb.out (.int .i64 next))
  generalize wr0.setCell ⟨rb, 1, none⟩ (.int .i64 next) = wr1 at *
  have Hr2 := hide (show (wr1.setCell ⟨rb, 2, none⟩ (.bool true)).heap[rb]? = some (.cells #[.int .i64 keep, .int .i64 next, .bool true, .int .i64 0, .int .i64 0, .int .i64 0, .int .i64 0, .int .i64 0, .int .i64 0, .slice none 0 0] 32 (0, 0)) from block_setCell Hr1.out 2 (.bool true))
  have Br2 := hide (Br1.out.setCell (p := ⟨rb, 2, none⟩) HBrb.out (.bool true))
  generalize wr1.setCell ⟨rb, 2, none⟩ (.bool true) = wr2 at *
  have Hr3 := hide (show (wr2.setCell ⟨rb, 3, none⟩ (.int .i64 (xc + 1))).heap[rb]? = some (.cells #[.int .i64 keep, .int .i64 next, .bool true, .int .i64 (xc + 1), .int .i64 0, .int .i64 0, .int .i64 0, .int .i64 0, .int .i64 0, .slice none 0 0] 32 (0, 0)) from block_setCell Hr2.out 3 (.int .i64 (xc + 1)))
  have Br3 := hide (Br2.out.setCell (p := ⟨rb, 3, none⟩) HBrb.out (.int .i64 (xc + 1)))
  generalize wr2.setCell ⟨rb, 3, none⟩ (.int .i64 (xc + 1)) = wr3 at *
  have Hr4 := hide (show (wr3.setCell ⟨rb, 4, none⟩ (.int .i64 xs)).heap[rb]? = some (.cells #[.int .i64 keep, .int .i64 next, .bool true, .int .i64 (xc + 1), .int .i64 xs, .int .i64 0, .int .i64 0, .int .i64 0, .int .i64 0, .slice none 0 0] 32 (0, 0)) from block_setCell Hr3.out 4 (.int .i64 xs))
  have Br4 := hide (Br3.out.setCell (p := ⟨rb, 4, none⟩) HBrb.out (.int .i64 xs))
  generalize wr3.setCell ⟨rb, 4, none⟩ (.int .i64 xs) = wr4 at *
  have Hr5 := hide (show (wr4.setCell ⟨rb, 5, none⟩ (.int .i64 xv)).heap[rb]? = some (.cells #[.int .i64 keep, .int .i64 next, .bool true, .int .i64 (xc + 1), .int .i64 xs, .int .i64 xv, .int .i64 0, .int .i64 0, .int .i64 0, .slice none 0 0] 32 (0, 0)) from block_setCell Hr4.out 5 (.int .i64 xv))
  have Br5 := hide (Br4.out.setCell (p := ⟨rb, 5, none⟩) HBrb.out (.int .i64 xv))
  generalize wr4.setCell ⟨rb, 5, none⟩ (.int .i64 xv) = wr5 at *
  have Hr6 := hide (show (wr5.setCell ⟨rb, 6, none⟩ (.int .i64 x)).heap[rb]? = some (.cells #[.int .i64 keep, .int .i64 next, .bool true, .int .i64 (xc + 1), .int .i64 xs, .int .i64 xv, .int .i64 x, .int .i64 0, .int .i64 0, .slice none 0 0] 32 (0, 0)) from block_setCell Hr5.out 6 (.int .i64 x))
  have Br6 := hide (Br5.out.setCell (p := ⟨rb, 6, none⟩) HBrb.out (.int .i64 x))
  generalize wr5.setCell ⟨rb, 6, none⟩ (.int .i64 x) = wr6 at *
  have Hr7 := hide (show (wr6.setCell ⟨rb, 7, none⟩ (.int .i64 xi)).heap[rb]? = some (.cells #[.int .i64 keep, .int .i64 next, .bool true, .int .i64 (xc + 1), .int .i64 xs, .int .i64 xv, .int .i64 x, .int .i64 xi, .int .i64 0, .slice none 0 0] 32 (0, 0)) from block_setCell Hr6.out 7 (.int .i64 xi))
  have Br7 := hide (Br6.out.setCell (p := ⟨rb, 7, none⟩) HBrb.out (.int .i64 xi))
  generalize wr6.setCell ⟨rb, 7, none⟩ (.int .i64 xi) = wr7 at *
  have Hr8 := hide (show (wr7.setCell ⟨rb, 8, none⟩ (.int .i64 xo)).heap[rb]? = some (.cells #[.int .i64 keep, .int .i64 next, .bool true, .int .i64 (xc + 1), .int .i64 xs, .int .i64 xv, .int .i64 x, .int .i64 xi, .int .i64 xo, .slice none 0 0] 32 (0, 0)) from block_setCell Hr7.out 8 (.int .i64 xo))
  have Br8 := hide (Br7.out.setCell (p := ⟨rb, 8, none⟩) HBrb.out (.int .i64 xo))
  generalize wr7.setCell ⟨rb, 8, none⟩ (.int .i64 xo) = wr8 at *
  have Hr9 := hide (show (wr8.setCell ⟨rb, 9, none⟩ (.slice a L.length cp)).heap[rb]? = some (.cells #[.int .i64 keep, .int .i64 next, .bool true, .int .i64 (xc + 1), .int .i64 xs, .int .i64 xv, .int .i64 x, .int .i64 xi, .int .i64 xo, .slice a L.length cp] 32 (0, 0)) from block_setCell Hr8.out 9 (.slice a L.length cp))
  have Br9 := hide (Br8.out.setCell (p := ⟨rb, 9, none⟩) HBrb.out (.slice a L.length cp))
  generalize wr8.setCell ⟨rb, 9, none⟩ (.slice a L.length cp) = wr9 at *
  (try simp only [Exit.inBlock, Exit.then])
  refine bodyPost_ret (res_ct (P := Try.prog) rfl _ wr9 rb 32 #[.int .i64 keep, .int .i64 next, .bool true, .int .i64 (xc + 1), .int .i64 xs, .int .i64 xv, .int .i64 x, .int .i64 xi, .int .i64 xo, .slice a L.length cp] (0, 0) _ rfl Hr9.out Try.underlying32 rfl (by kernel_rfl)) rfl ?_
  exact ⟨rfl, Br9.out⟩

set_option maxRecDepth 100000 in
set_option maxHeartbeats 4000000 in
theorem rsadd_4 (keep next xc xs xv xr xi xo : Int) (a : Option Addr) (L : List TotM) (cp : Nat) (am : Int) (h0 : 0 ≤ am) (hc : 0 ≤ xc ∧ xc < 4294967295) (x : Int) (hs : inR xi) (ham : inR am) (hx : inR (xi + am)) (hxe : xi + am = x) (w : World) :
    Calls Try.prog 15 #[.agg #[.int .i64 keep, .int .i64 next, .bool true, .int .i64 xc, .int .i64 xs, .int .i64 xv, .int .i64 xr, .int .i64 xi, .int .i64 xo, .slice a L.length cp], .int .u8 4, .int .i64 am] w fun e w' => e = .returned (.tuple #[.agg #[.int .i64 keep, .int .i64 next, .bool true, .int .i64 (xc + 1), .int .i64 xs, .int .i64 xv, .int .i64 xr, .int .i64 x, .int .i64 xo, .slice a L.length cp], .int .i64 0]) ∧ Below w.heap.size w w' := by
  have HAD := hide (fun W => radd_any xi am hs ham W)
  rw [(sum_in hx).1, (sum_in hx).2, hxe] at HAD
  clear hx hxe hs ham
  have hwc : IntKind.i64.wrap (xc + 1) = xc + 1 := by rw [IntKind.wrap_i64]; omega
  have hwc2 : wrap64 (xc + 1) = xc + 1 := by unfold wrap64; omega
  have hc2 : ¬ 4294967295 ≤ xc := by omega
  have ham0 : ¬ am < 0 := by omega
  clear hc
  go_enter Try.func15, Try.ntmps15
  go_upto_region 8 with (fail)
  obtain ⟨w3, hw3⟩ : ∃ w3, w3 = ((w.alloc (.cells #[.int .i64 keep, .int .i64 next, .bool true, .int .i64 xc, .int .i64 xs, .int .i64 xv, .int .i64 xr, .int .i64 xi, .int .i64 xo, .slice a L.length cp] 32)).alloc (.cells #[.int .i64 0, .int .i64 0, .bool false, .int .i64 0, .int .i64 0, .int .i64 0, .int .i64 0, .int .i64 0, .int .i64 0, .slice none 0 0] 32)).alloc (.cells #[.int .i64 xc, .int .i64 xs, .int .i64 xv, .int .i64 xr, .int .i64 xi, .int .i64 xo] 29) := ⟨_, rfl⟩
  rw [← hw3]
  have XB := hide (show w3.heap[w.heap.size]? = some (.cells #[.int .i64 keep, .int .i64 next, .bool true, .int .i64 xc, .int .i64 xs, .int .i64 xv, .int .i64 xr, .int .i64 xi, .int .i64 xo, .slice a L.length cp] 32 (0, 0)) by rw [hw3, heap_old _ _ _ (by simp; omega), heap_old _ _ _ (by simp), heap_new])
  have XR := hide (show w3.heap[(w.heap.size + 1)]? = some (.cells #[.int .i64 0, .int .i64 0, .bool false, .int .i64 0, .int .i64 0, .int .i64 0, .int .i64 0, .int .i64 0, .int .i64 0, .slice none 0 0] 32 (0, 0)) by rw [hw3, heap_old _ _ _ (by simp)]; exact heap_alloc2_new w _ _)
  have XT := hide (show w3.heap[(w.heap.size + 1 + 1)]? = some (.cells #[.int .i64 xc, .int .i64 xs, .int .i64 xv, .int .i64 xr, .int .i64 xi, .int .i64 xo] 29 (0, 0)) by rw [hw3]; exact heap_alloc3_new w _ _ _)
  have BB := hide (show Below w.heap.size w w3 by rw [hw3]; exact (((Below.refl w.heap.size w).alloc (Nat.le_refl _) _).alloc (by simp) _).alloc (by simp; omega) _)
  clear hw3
  obtain ⟨bb, hbb⟩ : ∃ k, w.heap.size = k := ⟨_, rfl⟩
  obtain ⟨rb, hrb⟩ : ∃ k, bb + 1 = k := ⟨_, rfl⟩
  obtain ⟨tb, htb⟩ : ∃ k, rb + 1 = k := ⟨_, rfl⟩
  rw [hbb] at XB XR XT ⊢
  rw [hrb] at XR XT ⊢
  rw [htb] at XT ⊢
  have HBbb := hide (show w.heap.size ≤ bb by omega)
  have HBrb := hide (show w.heap.size ≤ rb by omega)
  have HBtb := hide (show w.heap.size ≤ tb by omega)
  have HNE := hide (show bb ≠ rb ∧ bb ≠ tb ∧ rb ≠ tb by omega)
  have HBB := hide hbb
  clear hbb hrb htb
  obtain ⟨⟨g0, g1, g2, g3, g4, g5⟩, ⟨q0, q1, q2, q3, q4, q5⟩⟩ := six_facts XT.out
  go_wp2_with fail
  refine (HAD.out _).mono ?_
  rintro e w4 ⟨rfl, hb⟩
  have XB4 := hide ((hb.block _ (heap_lt XB.out)).trans XB.out)
  have XR4 := hide ((hb.block _ (heap_lt XR.out)).trans XR.out)
  have XT4 := hide ((hb.block _ (heap_lt XT.out)).trans XT.out)
  have BB4 := hide (BB.out.trans (hb.mono (Nat.le_trans HBbb.out (Nat.le_of_lt (heap_lt XB.out)))))
  clear g0 g1 g2 g3 g4 g5 q0 q1 q2 q3 q4 q5
  clear hb XB XR XT BB
  obtain ⟨⟨g0, g1, g2, g3, g4, g5⟩, ⟨q0, q1, q2, q3, q4, q5⟩⟩ := six_facts XT4.out
  go_upto_region 13 with (fail)
  clear g0 g1 g2 g3 g4 g5 q0 q1 q2 q3 q4 q5
  have Hs4 := hide (show (w4.setCell ⟨tb, 4, none⟩ (.int .i64 x)).heap[tb]? = some (.cells #[.int .i64 xc, .int .i64 xs, .int .i64 xv, .int .i64 xr, .int .i64 x, .int .i64 xo] 29 (0, 0)) from block_setCell XT4.out 4 (.int .i64 x))
  have Bs4 := hide (BB4.out.setCell (p := ⟨tb, 4, none⟩) HBtb.out (.int .i64 x))
  have XBs4 := hide ((block_setCell_other HNE.out.2.1.symm 4 (.int .i64 x)).trans XB4.out)
  have XRs4 := hide ((block_setCell_other HNE.out.2.2.symm 4 (.int .i64 x)).trans XR4.out)
  generalize w4.setCell ⟨tb, 4, none⟩ (.int .i64 x) = ws4 at *
  obtain ⟨⟨g0, g1, g2, g3, g4, g5⟩, ⟨q0, q1, q2, q3, q4, q5⟩⟩ := six_facts Hs4.out
  go_upto_region 14 with (fail)
  clear g0 g1 g2 g3 g4 g5 q0 q1 q2 q3 q4 q5
  have Ha0 := hide (show (ws4.setCell ⟨tb, 0, none⟩ (.int .i64 (xc + 1))).heap[tb]? = some (.cells #[.int .i64 (xc + 1), .int .i64 xs, .int .i64 xv, .int .i64 xr, .int .i64 x, .int .i64 xo] 29 (0, 0)) from block_setCell Hs4.out 0 (.int .i64 (xc + 1)))
  have Ba0 := hide (Bs4.out.setCell (p := ⟨tb, 0, none⟩) HBtb.out (.int .i64 (xc + 1)))
  have XBa0 := hide ((block_setCell_other HNE.out.2.1.symm 0 (.int .i64 (xc + 1))).trans XBs4.out)
  have XRa0 := hide ((block_setCell_other HNE.out.2.2.symm 0 (.int .i64 (xc + 1))).trans XRs4.out)
  generalize ws4.setCell ⟨tb, 0, none⟩ (.int .i64 (xc + 1)) = wa0 at *
  obtain ⟨⟨g0, g1, g2, g3, g4, g5⟩, ⟨q0, q1, q2, q3, q4, q5⟩⟩ := six_facts Ha0.out
  obtain ⟨⟨c0, c1, c2, c3, c4, c5, c6, c7, c8, c9⟩, ⟨f0, f1, f2, f3, f4, f5, f6, f7, f8, f9⟩⟩ := sh_facts XBa0.out
  go_upto_region 15 with (fail)
  clear g0 g1 g2 g3 g4 g5 q0 q1 q2 q3 q4 q5
  clear c0 c1 c2 c3 c4 c5 c6 c7 c8 c9 f0 f1 f2 f3 f4 f5 f6 f7 f8 f9
  have Hb3 := hide (show (wa0.setCell ⟨bb, 3, none⟩ (.int .i64 (xc + 1))).heap[bb]? = some (.cells #[.int .i64 keep, .int .i64 next, .bool true, .int .i64 (xc + 1), .int .i64 xs, .int .i64 xv, .int .i64 xr, .int .i64 xi, .int .i64 xo, .slice a L.length cp] 32 (0, 0)) from block_setCell XBa0.out 3 (.int .i64 (xc + 1)))
  have Bb3 := hide (Ba0.out.setCell (p := ⟨bb, 3, none⟩) HBbb.out (.int .i64 (xc + 1)))
  have XRb3 := hide ((block_setCell_other HNE.out.1 3 (.int .i64 (xc + 1))).trans XRa0.out)
  generalize wa0.setCell ⟨bb, 3, none⟩ (.int .i64 (xc + 1)) = wb3 at *
  have Hb4 := hide (show (wb3.setCell ⟨bb, 4, none⟩ (.int .i64 xs)).heap[bb]? = some (.cells #[.int .i64 keep, .int .i64 next, .bool true, .int .i64 (xc + 1), .int .i64 xs, .int .i64 xv, .int .i64 xr, .int .i64 xi, .int .i64 xo, .slice a L.length cp] 32 (0, 0)) from block_setCell Hb3.out 4 (.int .i64 xs))
  have Bb4 := hide (Bb3.out.setCell (p := ⟨bb, 4, none⟩) HBbb.out (.int .i64 xs))
  have XRb4 := hide ((block_setCell_other HNE.out.1 4 (.int .i64 xs)).trans XRb3.out)
  generalize wb3.setCell ⟨bb, 4, none⟩ (.int .i64 xs) = wb4 at *
  have Hb5 := hide (show (wb4.setCell ⟨bb, 5, none⟩ (.int .i64 xv)).heap[bb]? = some (.cells #[.int .i64 keep, .int .i64 next, .bool true, .int .i64 (xc + 1), .int .i64 xs, .int .i64 xv, .int .i64 xr, .int .i64 xi, .int .i64 xo, .slice a L.length cp] 32 (0, 0)) from block_setCell Hb4.out 5 (.int .i64 xv))
  have Bb5 := hide (Bb4.out.setCell (p := ⟨bb, 5, none⟩) HBbb.out (.int .i64 xv))
  have XRb5 := hide ((block_setCell_other HNE.out.1 5 (.int .i64 xv)).trans XRb4.out)
  generalize wb4.setCell ⟨bb, 5, none⟩ (.int .i64 xv) = wb5 at *
  have Hb6 := hide (show (wb5.setCell ⟨bb, 6, none⟩ (.int .i64 xr)).heap[bb]? = some (.cells #[.int .i64 keep, .int .i64 next, .bool true, .int .i64 (xc + 1), .int .i64 xs, .int .i64 xv, .int .i64 xr, .int .i64 xi, .int .i64 xo, .slice a L.length cp] 32 (0, 0)) from block_setCell Hb5.out 6 (.int .i64 xr))
  have Bb6 := hide (Bb5.out.setCell (p := ⟨bb, 6, none⟩) HBbb.out (.int .i64 xr))
  have XRb6 := hide ((block_setCell_other HNE.out.1 6 (.int .i64 xr)).trans XRb5.out)
  generalize wb5.setCell ⟨bb, 6, none⟩ (.int .i64 xr) = wb6 at *
  have Hb7 := hide (show (wb6.setCell ⟨bb, 7, none⟩ (.int .i64 x)).heap[bb]? = some (.cells #[.int .i64 keep, .int .i64 next, .bool true, .int .i64 (xc + 1), .int .i64 xs, .int .i64 xv, .int .i64 xr, .int .i64 x, .int .i64 xo, .slice a L.length cp] 32 (0, 0)) from block_setCell Hb6.out 7 (.int .i64 x))
  have Bb7 := hide (Bb6.out.setCell (p := ⟨bb, 7, none⟩) HBbb.out (.int .i64 x))
  have XRb7 := hide ((block_setCell_other HNE.out.1 7 (.int .i64 x)).trans XRb6.out)
  generalize wb6.setCell ⟨bb, 7, none⟩ (.int .i64 x) = wb7 at *
  have Hb8 := hide (show (wb7.setCell ⟨bb, 8, none⟩ (.int .i64 xo)).heap[bb]? = some (.cells #[.int .i64 keep, .int .i64 next, .bool true, .int .i64 (xc + 1), .int .i64 xs, .int .i64 xv, .int .i64 xr, .int .i64 x, .int .i64 xo, .slice a L.length cp] 32 (0, 0)) from block_setCell Hb7.out 8 (.int .i64 xo))
  have Bb8 := hide (Bb7.out.setCell (p := ⟨bb, 8, none⟩) HBbb.out (.int .i64 xo))
  have XRb8 := hide ((block_setCell_other HNE.out.1 8 (.int .i64 xo)).trans XRb7.out)
  generalize wb7.setCell ⟨bb, 8, none⟩ (.int .i64 xo) = wb8 at *
  obtain ⟨⟨c0, c1, c2, c3, c4, c5, c6, c7, c8, c9⟩, ⟨f0, f1, f2, f3, f4, f5, f6, f7, f8, f9⟩⟩ := sh_facts Hb8.out
  obtain ⟨⟨d0, d1, d2, d3, d4, d5, d6, d7, d8, d9⟩, ⟨e0, e1, e2, e3, e4, e5, e6, e7, e8, e9⟩⟩ := sh_facts XRb8.out
  go_wp2_with fail
  clear c0 c1 c2 c3 c4 c5 c6 c7 c8 c9 f0 f1 f2 f3 f4 f5 f6 f7 f8 f9
  clear d0 d1 d2 d3 d4 d5 d6 d7 d8 d9 e0 e1 e2 e3 e4 e5 e6 e7 e8 e9
  have Hr0 := hide (show (wb8.setCell ⟨rb, 0, none⟩ (.int .i64 keep)).heap[rb]? = some (.cells #[.int .i64 keep, .int .i64 0, .bool false, .int .i64 0, .int .i64 0, .int .i64 0, .int .i64 0, .int .i64 0, .int .i64 0, .slice none 0 0] 32 (0, 0)) from block_setCell XRb8.out 0 (.int .i64 keep))
  have Br0 := hide (Bb8.out.setCell (p := ⟨rb, 0, none⟩) HBrb.out (.int .i64 keep))
  generalize wb8.setCell ⟨rb, 0, none⟩ (.int .i64 keep) = wr0 at *
  have Hr1 := hide (show (wr0.setCell ⟨rb, 1, none⟩ (.int .i64 next)).heap[rb]? = some (.cells #[.int .i64 keep, .int .i64 next, .bool false, .int .i64 0, .int .i64 0, .int .i64 0, .int .i64 0, .int .i64 0, .int .i64 0, .slice none 0 0] 32 (0, 0)) from block_setCell Hr0.out 1 (.int .i64 next))
  have Br1 := hide (Br0.out.setCell (p := ⟨rb, 1, none⟩) HBrb.out (.int .i64 next))
  generalize wr0.setCell ⟨rb, 1, none⟩ (.int .i64 next) = wr1 at *
  have Hr2 := hide (show (wr1.setCell ⟨rb, 2, none⟩ (.bool true)).heap[rb]? = some (.cells #[.int .i64 keep, .int .i64 next, .bool true, .int .i64 0, .int .i64 0, .int .i64 0, .int .i64 0, .int .i64 0, .int .i64 0, .slice none 0 0] 32 (0, 0)) from block_setCell Hr1.out 2 (.bool true))
  have Br2 := hide (Br1.out.setCell (p := ⟨rb, 2, none⟩) HBrb.out (.bool true))
  generalize wr1.setCell ⟨rb, 2, none⟩ (.bool true) = wr2 at *
  have Hr3 := hide (show (wr2.setCell ⟨rb, 3, none⟩ (.int .i64 (xc + 1))).heap[rb]? = some (.cells #[.int .i64 keep, .int .i64 next, .bool true, .int .i64 (xc + 1), .int .i64 0, .int .i64 0, .int .i64 0, .int .i64 0, .int .i64 0, .slice none 0 0] 32 (0, 0)) from block_setCell Hr2.out 3 (.int .i64 (xc + 1)))
  have Br3 := hide (Br2.out.setCell (p := ⟨rb, 3, none⟩) HBrb.out (.int .i64 (xc + 1)))
  generalize wr2.setCell ⟨rb, 3, none⟩ (.int .i64 (xc + 1)) = wr3 at *
  have Hr4 := hide (show (wr3.setCell ⟨rb, 4, none⟩ (.int .i64 xs)).heap[rb]? = some (.cells #[.int .i64 keep, .int .i64 next, .bool true, .int .i64 (xc + 1), .int .i64 xs, .int .i64 0, .int .i64 0, .int .i64 0, .int .i64 0, .slice none 0 0] 32 (0, 0)) from block_setCell Hr3.out 4 (.int .i64 xs))
  have Br4 := hide (Br3.out.setCell (p := ⟨rb, 4, none⟩) HBrb.out (.int .i64 xs))
  generalize wr3.setCell ⟨rb, 4, none⟩ (.int .i64 xs) = wr4 at *
  have Hr5 := hide (show (wr4.setCell ⟨rb, 5, none⟩ (.int .i64 xv)).heap[rb]? = some (.cells #[.int .i64 keep, .int .i64 next, .bool true, .int .i64 (xc + 1), .int .i64 xs, .int .i64 xv, .int .i64 0, .int .i64 0, .int .i64 0, .slice none 0 0] 32 (0, 0)) from block_setCell Hr4.out 5 (.int .i64 xv))
  have Br5 := hide (Br4.out.setCell (p := ⟨rb, 5, none⟩) HBrb.out (.int .i64 xv))
  generalize wr4.setCell ⟨rb, 5, none⟩ (.int .i64 xv) = wr5 at *
  have Hr6 := hide (show (wr5.setCell ⟨rb, 6, none⟩ (.int .i64 xr)).heap[rb]? = some (.cells #[.int .i64 keep, .int .i64 next, .bool true, .int .i64 (xc + 1), .int .i64 xs, .int .i64 xv, .int .i64 xr, .int .i64 0, .int .i64 0, .slice none 0 0] 32 (0, 0)) from block_setCell Hr5.out 6 (.int .i64 xr))
  have Br6 := hide (Br5.out.setCell (p := ⟨rb, 6, none⟩) HBrb.out (.int .i64 xr))
  generalize wr5.setCell ⟨rb, 6, none⟩ (.int .i64 xr) = wr6 at *
  have Hr7 := hide (show (wr6.setCell ⟨rb, 7, none⟩ (.int .i64 x)).heap[rb]? = some (.cells #[.int .i64 keep, .int .i64 next, .bool true, .int .i64 (xc + 1), .int .i64 xs, .int .i64 xv, .int .i64 xr, .int .i64 x, .int .i64 0, .slice none 0 0] 32 (0, 0)) from block_setCell Hr6.out 7 (.int .i64 x))
  have Br7 := hide (Br6.out.setCell (p := ⟨rb, 7, none⟩) HBrb.out (.int .i64 x))
  generalize wr6.setCell ⟨rb, 7, none⟩ (.int .i64 x) = wr7 at *
  have Hr8 := hide (show (wr7.setCell ⟨rb, 8, none⟩ (.int .i64 xo)).heap[rb]? = some (.cells #[.int .i64 keep, .int .i64 next, .bool true, .int .i64 (xc + 1), .int .i64 xs, .int .i64 xv, .int .i64 xr, .int .i64 x, .int .i64 xo, .slice none 0 0] 32 (0, 0)) from block_setCell Hr7.out 8 (.int .i64 xo))
  have Br8 := hide (Br7.out.setCell (p := ⟨rb, 8, none⟩) HBrb.out (.int .i64 xo))
  generalize wr7.setCell ⟨rb, 8, none⟩ (.int .i64 xo) = wr8 at *
  have Hr9 := hide (show (wr8.setCell ⟨rb, 9, none⟩ (.slice a L.length cp)).heap[rb]? = some (.cells #[.int .i64 keep, .int .i64 next, .bool true, .int .i64 (xc + 1), .int .i64 xs, .int .i64 xv, .int .i64 xr, .int .i64 x, .int .i64 xo, .slice a L.length cp] 32 (0, 0)) from block_setCell Hr8.out 9 (.slice a L.length cp))
  have Br9 := hide (Br8.out.setCell (p := ⟨rb, 9, none⟩) HBrb.out (.slice a L.length cp))
  generalize wr8.setCell ⟨rb, 9, none⟩ (.slice a L.length cp) = wr9 at *
  (try simp only [Exit.inBlock, Exit.then])
  refine bodyPost_ret (res_ct (P := Try.prog) rfl _ wr9 rb 32 #[.int .i64 keep, .int .i64 next, .bool true, .int .i64 (xc + 1), .int .i64 xs, .int .i64 xv, .int .i64 xr, .int .i64 x, .int .i64 xo, .slice a L.length cp] (0, 0) _ rfl Hr9.out Try.underlying32 rfl (by kernel_rfl)) rfl ?_
  exact ⟨rfl, Br9.out⟩

set_option maxRecDepth 100000 in
set_option maxHeartbeats 4000000 in
theorem rsadd_5 (keep next xc xs xv xr xi xo : Int) (a : Option Addr) (L : List TotM) (cp : Nat) (am : Int) (h0 : 0 ≤ am) (hc : 0 ≤ xc ∧ xc < 4294967295) (x : Int) (hs : inR xo) (ham : inR am) (hx : inR (xo + am)) (hxe : xo + am = x) (w : World) :
    Calls Try.prog 15 #[.agg #[.int .i64 keep, .int .i64 next, .bool true, .int .i64 xc, .int .i64 xs, .int .i64 xv, .int .i64 xr, .int .i64 xi, .int .i64 xo, .slice a L.length cp], .int .u8 5, .int .i64 am] w fun e w' => e = .returned (.tuple #[.agg #[.int .i64 keep, .int .i64 next, .bool true, .int .i64 (xc + 1), .int .i64 xs, .int .i64 xv, .int .i64 xr, .int .i64 xi, .int .i64 x, .slice a L.length cp], .int .i64 0]) ∧ Below w.heap.size w w' := by
  have HAD := hide (fun W => radd_any xo am hs ham W)
  rw [(sum_in hx).1, (sum_in hx).2, hxe] at HAD
  clear hx hxe hs ham
  have hwc : IntKind.i64.wrap (xc + 1) = xc + 1 := by rw [IntKind.wrap_i64]; omega
  have hwc2 : wrap64 (xc + 1) = xc + 1 := by unfold wrap64; omega
  have hc2 : ¬ 4294967295 ≤ xc := by omega
  have ham0 : ¬ am < 0 := by omega
  clear hc
  go_enter Try.func15, Try.ntmps15
  go_upto_region 8 with (fail)
  obtain ⟨w3, hw3⟩ : ∃ w3, w3 = ((w.alloc (.cells #[.int .i64 keep, .int .i64 next, .bool true, .int .i64 xc, .int .i64 xs, .int .i64 xv, .int .i64 xr, .int .i64 xi, .int .i64 xo, .slice a L.length cp] 32)).alloc (.cells #[.int .i64 0, .int .i64 0, .bool false, .int .i64 0, .int .i64 0, .int .i64 0, .int .i64 0, .int .i64 0, .int .i64 0, .slice none 0 0] 32)).alloc (.cells #[.int .i64 xc, .int .i64 xs, .int .i64 xv, .int .i64 xr, .int .i64 xi, .int .i64 xo] 29) := ⟨_, rfl⟩
  rw [← hw3]
  have XB := hide (show w3.heap[w.heap.size]? = some (.cells #[.int .i64 keep, .int .i64 next, .bool true, .int .i64 xc, .int .i64 xs, .int .i64 xv, .int .i64 xr, .int .i64 xi, .int .i64 xo, .slice a L.length cp] 32 (0, 0)) by rw [hw3, heap_old _ _ _ (by simp; omega), heap_old _ _ _ (by simp), heap_new])
  have XR := hide (show w3.heap[(w.heap.size + 1)]? = some (.cells #[.int .i64 0, .int .i64 0, .bool false, .int .i64 0, .int .i64 0, .int .i64 0, .int .i64 0, .int .i64 0, .int .i64 0, .slice none 0 0] 32 (0, 0)) by rw [hw3, heap_old _ _ _ (by simp)]; exact heap_alloc2_new w _ _)
  have XT := hide (show w3.heap[(w.heap.size + 1 + 1)]? = some (.cells #[.int .i64 xc, .int .i64 xs, .int .i64 xv, .int .i64 xr, .int .i64 xi, .int .i64 xo] 29 (0, 0)) by rw [hw3]; exact heap_alloc3_new w _ _ _)
  have BB := hide (show Below w.heap.size w w3 by rw [hw3]; exact (((Below.refl w.heap.size w).alloc (Nat.le_refl _) _).alloc (by simp) _).alloc (by simp; omega) _)
  clear hw3
  obtain ⟨bb, hbb⟩ : ∃ k, w.heap.size = k := ⟨_, rfl⟩
  obtain ⟨rb, hrb⟩ : ∃ k, bb + 1 = k := ⟨_, rfl⟩
  obtain ⟨tb, htb⟩ : ∃ k, rb + 1 = k := ⟨_, rfl⟩
  rw [hbb] at XB XR XT ⊢
  rw [hrb] at XR XT ⊢
  rw [htb] at XT ⊢
  have HBbb := hide (show w.heap.size ≤ bb by omega)
  have HBrb := hide (show w.heap.size ≤ rb by omega)
  have HBtb := hide (show w.heap.size ≤ tb by omega)
  have HNE := hide (show bb ≠ rb ∧ bb ≠ tb ∧ rb ≠ tb by omega)
  have HBB := hide hbb
  clear hbb hrb htb
  obtain ⟨⟨g0, g1, g2, g3, g4, g5⟩, ⟨q0, q1, q2, q3, q4, q5⟩⟩ := six_facts XT.out
  go_wp2_with fail
  refine (HAD.out _).mono ?_
  rintro e w4 ⟨rfl, hb⟩
  have XB4 := hide ((hb.block _ (heap_lt XB.out)).trans XB.out)
  have XR4 := hide ((hb.block _ (heap_lt XR.out)).trans XR.out)
  have XT4 := hide ((hb.block _ (heap_lt XT.out)).trans XT.out)
  have BB4 := hide (BB.out.trans (hb.mono (Nat.le_trans HBbb.out (Nat.le_of_lt (heap_lt XB.out)))))
  clear g0 g1 g2 g3 g4 g5 q0 q1 q2 q3 q4 q5
  clear hb XB XR XT BB
  obtain ⟨⟨g0, g1, g2, g3, g4, g5⟩, ⟨q0, q1, q2, q3, q4, q5⟩⟩ := six_facts XT4.out
  go_upto_region 13 with (fail)
  clear g0 g1 g2 g3 g4 g5 q0 q1 q2 q3 q4 q5
  have Hs5 := hide (show (w4.setCell ⟨tb, 5, none⟩ (.int .i64 x)).heap[tb]? = some (.cells #[.int .i64 xc, .int .i64 xs, .int .i64 xv, .int .i64 xr, .int .i64 xi, .int .i64 x] 29 (0, 0)) from block_setCell XT4.out 5 (.int .i64 x))
  have Bs5 := hide (BB4.out.setCell (p := ⟨tb, 5, none⟩) HBtb.out (.int .i64 x))
  have XBs5 := hide ((block_setCell_other HNE.out.2.1.symm 5 (.int .i64 x)).trans XB4.out)
  have XRs5 := hide ((block_setCell_other HNE.out.2.2.symm 5 (.int .i64 x)).trans XR4.out)
  generalize w4.setCell ⟨tb, 5, none⟩ (.int .i64 x) = ws5 at *
  obtain ⟨⟨g0, g1, g2, g3, g4, g5⟩, ⟨q0, q1, q2, q3, q4, q5⟩⟩ := six_facts Hs5.out
  go_upto_region 14 with (fail)
  clear g0 g1 g2 g3 g4 g5 q0 q1 q2 q3 q4 q5
  have Ha0 := hide (show (ws5.setCell ⟨tb, 0, none⟩ (.int .i64 (xc + 1))).heap[tb]? = some (.cells #[.int .i64 (xc + 1), .int .i64 xs, .int .i64 xv, .int .i64 xr, .int .i64 xi, .int .i64 x] 29 (0, 0)) from block_setCell Hs5.out 0 (.int .i64 (xc + 1)))
  have Ba0 := hide (Bs5.out.setCell (p := ⟨tb, 0, none⟩) HBtb.out (.int .i64 (xc + 1)))
  have XBa0 := hide ((block_setCell_other HNE.out.2.1.symm 0 (.int .i64 (xc + 1))).trans XBs5.out)
  have XRa0 := hide ((block_setCell_other HNE.out.2.2.symm 0 (.int .i64 (xc + 1))).trans XRs5.out)
  generalize ws5.setCell ⟨tb, 0, none⟩ (.int .i64 (xc + 1)) = wa0 at *
  obtain ⟨⟨g0, g1, g2, g3, g4, g5⟩, ⟨q0, q1, q2, q3, q4, q5⟩⟩ := six_facts Ha0.out
  obtain ⟨⟨c0, c1, c2, c3, c4, c5, c6, c7, c8, c9⟩, ⟨f0, f1, f2, f3, f4, f5, f6, f7, f8, f9⟩⟩ := sh_facts XBa0.out
  go_upto_region 15 with (fail)
  clear g0 g1 g2 g3 g4 g5 q0 q1 q2 q3 q4 q5
  clear c0 c1 c2 c3 c4 c5 c6 c7 c8 c9 f0 f1 f2 f3 f4 f5 f6 f7 f8 f9
  have Hb3 := hide (show (wa0.setCell ⟨bb, 3, none⟩ (.int .i64 (xc + 1))).heap[bb]? = some (.cells #[.int .i64 keep, .int .i64 next, .bool true, .int .i64 (xc + 1), .int .i64 xs, .int .i64 xv, .int .i64 xr, .int .i64 xi, .int .i64 xo, .slice a L.length cp] 32 (0, 0)) from block_setCell XBa0.out 3 (.int .i64 (xc + 1)))
  have Bb3 := hide (Ba0.out.setCell (p := ⟨bb, 3, none⟩) HBbb.out (.int .i64 (xc + 1)))
  have XRb3 := hide ((block_setCell_other HNE.out.1 3 (.int .i64 (xc + 1))).trans XRa0.out)
  generalize wa0.setCell ⟨bb, 3, none⟩ (.int .i64 (xc + 1)) = wb3 at *
  have Hb4 := hide (show (wb3.setCell ⟨bb, 4, none⟩ (.int .i64 xs)).heap[bb]? = some (.cells #[.int .i64 keep, .int .i64 next, .bool true, .int .i64 (xc + 1), .int .i64 xs, .int .i64 xv, .int .i64 xr, .int .i64 xi, .int .i64 xo, .slice a L.length cp] 32 (0, 0)) from block_setCell Hb3.out 4 (.int .i64 xs))
  have Bb4 := hide (Bb3.out.setCell (p := ⟨bb, 4, none⟩) HBbb.out (.int .i64 xs))
  have XRb4 := hide ((block_setCell_other HNE.out.1 4 (.int .i64 xs)).trans XRb3.out)
  generalize wb3.setCell ⟨bb, 4, none⟩ (.int .i64 xs) = wb4 at *
  have Hb5 := hide (show (wb4.setCell ⟨bb, 5, none⟩ (.int .i64 xv)).heap[bb]? = some (.cells #[.int .i64 keep, .int .i64 next, .bool true, .int .i64 (xc + 1), .int .i64 xs, .int .i64 xv, .int .i64 xr, .int .i64 xi, .int .i64 xo, .slice a L.length cp] 32 (0, 0)) from block_setCell Hb4.out 5 (.int .i64 xv))
  have Bb5 := hide (Bb4.out.setCell (p := ⟨bb, 5, none⟩) HBbb.out (.int .i64 xv))
  have XRb5 := hide ((block_setCell_other HNE.out.1 5 (.int .i64 xv)).trans XRb4.out)
  generalize wb4.setCell ⟨bb, 5, none⟩ (.int .i64 xv) = wb5 at *
  have Hb6 := hide (show (wb5.setCell ⟨bb, 6, none⟩ (.int .i64 xr)).heap[bb]? = some (.cells #[.int .i64 keep, .int .i64 next, .bool true, .int .i64 (xc + 1), .int .i64 xs, .int .i64 xv, .int .i64 xr, .int .i64 xi, .int .i64 xo, .slice a L.length cp] 32 (0, 0)) from block_setCell Hb5.out 6 (.int .i64 xr))
  have Bb6 := hide (Bb5.out.setCell (p := ⟨bb, 6, none⟩) HBbb.out (.int .i64 xr))
  have XRb6 := hide ((block_setCell_other HNE.out.1 6 (.int .i64 xr)).trans XRb5.out)
  generalize wb5.setCell ⟨bb, 6, none⟩ (.int .i64 xr) = wb6 at *
  have Hb7 := hide (show (wb6.setCell ⟨bb, 7, none⟩ (.int .i64 xi)).heap[bb]? = some (.cells #[.int .i64 keep, .int .i64 next, .bool true, .int .i64 (xc + 1), .int .i64 xs, .int .i64 xv, .int .i64 xr, .int .i64 xi, .int .i64 xo, .slice a L.length cp] 32 (0, 0)) from block_setCell Hb6.out 7 (.int .i64 xi))
  have Bb7 := hide (Bb6.out.setCell (p := ⟨bb, 7, none⟩) HBbb.out (.int .i64 xi))
  have XRb7 := hide ((block_setCell_other HNE.out.1 7 (.int .i64 xi)).trans XRb6.out)
  generalize wb6.setCell ⟨bb, 7, none⟩ (.int .i64 xi) = wb7 at *
  have Hb8 := hide (show (wb7.setCell ⟨bb, 8, none⟩ (.int .i64 x)).heap[bb]? = some (.cells #[.int .i64 keep, .int .i64 next, .bool true, .int .i64 (xc + 1), .int .i64 xs, .int .i64 xv, .int .i64 xr, .int .i64 xi, .int .i64 x, .slice a L.length cp] 32 (0, 0)) from block_setCell Hb7.out 8 (.int .i64 x))
  have Bb8 := hide (Bb7.out.setCell (p := ⟨bb, 8, none⟩) HBbb.out (.int .i64 x))
  have XRb8 := hide ((block_setCell_other HNE.out.1 8 (.int .i64 x)).trans XRb7.out)
  generalize wb7.setCell ⟨bb, 8, none⟩ (.int .i64 x) = wb8 at *
  obtain ⟨⟨c0, c1, c2, c3, c4, c5, c6, c7, c8, c9⟩, ⟨f0, f1, f2, f3, f4, f5, f6, f7, f8, f9⟩⟩ := sh_facts Hb8.out
  obtain ⟨⟨d0, d1, d2, d3, d4, d5, d6, d7, d8, d9⟩, ⟨e0, e1, e2, e3, e4, e5, e6, e7, e8, e9⟩⟩ := sh_facts XRb8.out
  go_wp2_with fail
  clear c0 c1 c2 c3 c4 c5 c6 c7 c8 c9 f0 f1 f2 f3 f4 f5 f6 f7 f8 f9
  clear d0 d1 d2 d3 d4 d5 d6 d7 d8 d9 e0 e1 e2 e3 e4 e5 e6 e7 e8 e9
  have Hr0 := hide (show (wb8.setCell ⟨rb, 0, none⟩ (.int .i64 keep)).heap[rb]? = some (.cells #[.int .i64 keep, .int .i64 0, .bool false, .int .i64 0, .int .i64 0, .int .i64 0, .int .i64 0, .int .i64 0, .int .i64 0, .slice none 0 0] 32 (0, 0)) from block_setCell XRb8.out 0 (.int .i64 keep))
  have Br0 := hide (Bb8.out.setCell (p := ⟨rb, 0, none⟩) HBrb.out (.int .i64 keep))
  generalize wb8.setCell ⟨rb, 0, none⟩ (.int .i64 keep) = wr0 at *
  have Hr1 := hide (show (wr0.setCell ⟨rb, 1, none⟩ (.int .i64 next)).heap[rb]? = some (.cells #[.int .i64 keep, .int .i64 next, .bool false, .int .i64 0, .int .i64 0, .int .i64 0, .int .i64 0, .int .i64 0, .int .i64 0, .slice none 0 0] 32 (0, 0)) from block_setCell Hr0.out 1 (.int .i64 next))
  have Br1 := hide (Br0.out.setCell (p := ⟨rb, 1, none⟩) HBrb.out (.int .i64 next))
  generalize wr0.setCell ⟨rb, 1, none⟩ (.int .i64 next) = wr1 at *
  have Hr2 := hide (show (wr1.setCell ⟨rb, 2, none⟩ (.bool true)).heap[rb]? = some (.cells #[.int .i64 keep, .int .i64 next, .bool true, .int .i64 0, .int .i64 0, .int .i64 0, .int .i64 0, .int .i64 0, .int .i64 0, .slice none 0 0] 32 (0, 0)) from block_setCell Hr1.out 2 (.bool true))
  have Br2 := hide (Br1.out.setCell (p := ⟨rb, 2, none⟩) HBrb.out (.bool true))
  generalize wr1.setCell ⟨rb, 2, none⟩ (.bool true) = wr2 at *
  have Hr3 := hide (show (wr2.setCell ⟨rb, 3, none⟩ (.int .i64 (xc + 1))).heap[rb]? = some (.cells #[.int .i64 keep, .int .i64 next, .bool true, .int .i64 (xc + 1), .int .i64 0, .int .i64 0, .int .i64 0, .int .i64 0, .int .i64 0, .slice none 0 0] 32 (0, 0)) from block_setCell Hr2.out 3 (.int .i64 (xc + 1)))
  have Br3 := hide (Br2.out.setCell (p := ⟨rb, 3, none⟩) HBrb.out (.int .i64 (xc + 1)))
  generalize wr2.setCell ⟨rb, 3, none⟩ (.int .i64 (xc + 1)) = wr3 at *
  have Hr4 := hide (show (wr3.setCell ⟨rb, 4, none⟩ (.int .i64 xs)).heap[rb]? = some (.cells #[.int .i64 keep, .int .i64 next, .bool true, .int .i64 (xc + 1), .int .i64 xs, .int .i64 0, .int .i64 0, .int .i64 0, .int .i64 0, .slice none 0 0] 32 (0, 0)) from block_setCell Hr3.out 4 (.int .i64 xs))
  have Br4 := hide (Br3.out.setCell (p := ⟨rb, 4, none⟩) HBrb.out (.int .i64 xs))
  generalize wr3.setCell ⟨rb, 4, none⟩ (.int .i64 xs) = wr4 at *
  have Hr5 := hide (show (wr4.setCell ⟨rb, 5, none⟩ (.int .i64 xv)).heap[rb]? = some (.cells #[.int .i64 keep, .int .i64 next, .bool true, .int .i64 (xc + 1), .int .i64 xs, .int .i64 xv, .int .i64 0, .int .i64 0, .int .i64 0, .slice none 0 0] 32 (0, 0)) from block_setCell Hr4.out 5 (.int .i64 xv))
  have Br5 := hide (Br4.out.setCell (p := ⟨rb, 5, none⟩) HBrb.out (.int .i64 xv))
  generalize wr4.setCell ⟨rb, 5, none⟩ (.int .i64 xv) = wr5 at *
  have Hr6 := hide (show (wr5.setCell ⟨rb, 6, none⟩ (.int .i64 xr)).heap[rb]? = some (.cells #[.int .i64 keep, .int .i64 next, .bool true, .int .i64 (xc + 1), .int .i64 xs, .int .i64 xv, .int .i64 xr, .int .i64 0, .int .i64 0, .slice none 0 0] 32 (0, 0)) from block_setCell Hr5.out 6 (.int .i64 xr))
  have Br6 := hide (Br5.out.setCell (p := ⟨rb, 6, none⟩) HBrb.out (.int .i64 xr))
  generalize wr5.setCell ⟨rb, 6, none⟩ (.int .i64 xr) = wr6 at *
  have Hr7 := hide (show (wr6.setCell ⟨rb, 7, none⟩ (.int .i64 xi)).heap[rb]? = some (.cells #[.int .i64 keep, .int .i64 next, .bool true, .int .i64 (xc + 1), .int .i64 xs, .int .i64 xv, .int .i64 xr, .int .i64 xi, .int .i64 0, .slice none 0 0] 32 (0, 0)) from block_setCell Hr6.out 7 (.int .i64 xi))
  have Br7 := hide (Br6.out.setCell (p := ⟨rb, 7, none⟩) HBrb.out (.int .i64 xi))
  generalize wr6.setCell ⟨rb, 7, none⟩ (.int .i64 xi) = wr7 at *
  have Hr8 := hide (show (wr7.setCell ⟨rb, 8, none⟩ (.int .i64 x)).heap[rb]? = some (.cells #[.int .i64 keep, .int .i64 next, .bool true, .int .i64 (xc + 1), .int .i64 xs, .int .i64 xv, .int .i64 xr, .int .i64 xi, .int .i64 x, .slice none 0 0] 32 (0, 0)) from block_setCell Hr7.out 8 (.int .i64 x))
  have Br8 := hide (Br7.out.setCell (p := ⟨rb, 8, none⟩) HBrb.out (.int .i64 x))
  generalize wr7.setCell ⟨rb, 8, none⟩ (.int .i64 x) = wr8 at *
  have Hr9 := hide (show (wr8.setCell ⟨rb, 9, none⟩ (.slice a L.length cp)).heap[rb]? = some (.cells #[.int .i64 keep, .int .i64 next, .bool true, .int .i64 (xc + 1), .int .i64 xs, .int .i64 xv, .int .i64 xr, .int .i64 xi, .int .i64 x, .slice a L.length cp] 32 (0, 0)) from block_setCell Hr8.out 9 (.slice a L.length cp))
  have Br9 := hide (Br8.out.setCell (p := ⟨rb, 9, none⟩) HBrb.out (.slice a L.length cp))
  generalize wr8.setCell ⟨rb, 9, none⟩ (.slice a L.length cp) = wr9 at *
  (try simp only [Exit.inBlock, Exit.then])
  refine bodyPost_ret (res_ct (P := Try.prog) rfl _ wr9 rb 32 #[.int .i64 keep, .int .i64 next, .bool true, .int .i64 (xc + 1), .int .i64 xs, .int .i64 xv, .int .i64 xr, .int .i64 xi, .int .i64 x, .slice a L.length cp] (0, 0) _ rfl Hr9.out Try.underlying32 rfl (by kernel_rfl)) rfl ?_
  exact ⟨rfl, Br9.out⟩

set_option maxRecDepth 100000 in
set_option maxHeartbeats 4000000 in
theorem rsadd_6 (keep next xc xs xv xr xi xo : Int) (a : Option Addr) (L : List TotM) (cp : Nat) (am : Int) (h0 : 0 ≤ am) (hc : 0 ≤ xc ∧ xc < 4294967295) (w : World) :
    Calls Try.prog 15 #[.agg #[.int .i64 keep, .int .i64 next, .bool true, .int .i64 xc, .int .i64 xs, .int .i64 xv, .int .i64 xr, .int .i64 xi, .int .i64 xo, .slice a L.length cp], .int .u8 6, .int .i64 am] w fun e w' => e = .returned (.tuple #[.agg #[.int .i64 keep, .int .i64 next, .bool true, .int .i64 (xc + 1), .int .i64 xs, .int .i64 xv, .int .i64 xr, .int .i64 xi, .int .i64 xo, .slice a L.length cp], .int .i64 0]) ∧ Below w.heap.size w w' := by
  have hwc : IntKind.i64.wrap (xc + 1) = xc + 1 := by rw [IntKind.wrap_i64]; omega
  have hwc2 : wrap64 (xc + 1) = xc + 1 := by unfold wrap64; omega
  have hc2 : ¬ 4294967295 ≤ xc := by omega
  have ham0 : ¬ am < 0 := by omega
  clear hc
  go_enter Try.func15, Try.ntmps15
  go_upto_region 8 with (fail)
  obtain ⟨w3, hw3⟩ : ∃ w3, w3 = ((w.alloc (.cells #[.int .i64 keep, .int .i64 next, .bool true, .int .i64 xc, .int .i64 xs, .int .i64 xv, .int .i64 xr, .int .i64 xi, .int .i64 xo, .slice a L.length cp] 32)).alloc (.cells #[.int .i64 0, .int .i64 0, .bool false, .int .i64 0, .int .i64 0, .int .i64 0, .int .i64 0, .int .i64 0, .int .i64 0, .slice none 0 0] 32)).alloc (.cells #[.int .i64 xc, .int .i64 xs, .int .i64 xv, .int .i64 xr, .int .i64 xi, .int .i64 xo] 29) := ⟨_, rfl⟩
  rw [← hw3]
  have XB := hide (show w3.heap[w.heap.size]? = some (.cells #[.int .i64 keep, .int .i64 next, .bool true, .int .i64 xc, .int .i64 xs, .int .i64 xv, .int .i64 xr, .int .i64 xi, .int .i64 xo, .slice a L.length cp] 32 (0, 0)) by rw [hw3, heap_old _ _ _ (by simp; omega), heap_old _ _ _ (by simp), heap_new])
  have XR := hide (show w3.heap[(w.heap.size + 1)]? = some (.cells #[.int .i64 0, .int .i64 0, .bool false, .int .i64 0, .int .i64 0, .int .i64 0, .int .i64 0, .int .i64 0, .int .i64 0, .slice none 0 0] 32 (0, 0)) by rw [hw3, heap_old _ _ _ (by simp)]; exact heap_alloc2_new w _ _)
  have XT := hide (show w3.heap[(w.heap.size + 1 + 1)]? = some (.cells #[.int .i64 xc, .int .i64 xs, .int .i64 xv, .int .i64 xr, .int .i64 xi, .int .i64 xo] 29 (0, 0)) by rw [hw3]; exact heap_alloc3_new w _ _ _)
  have BB := hide (show Below w.heap.size w w3 by rw [hw3]; exact (((Below.refl w.heap.size w).alloc (Nat.le_refl _) _).alloc (by simp) _).alloc (by simp; omega) _)
  clear hw3
  obtain ⟨bb, hbb⟩ : ∃ k, w.heap.size = k := ⟨_, rfl⟩
  obtain ⟨rb, hrb⟩ : ∃ k, bb + 1 = k := ⟨_, rfl⟩
  obtain ⟨tb, htb⟩ : ∃ k, rb + 1 = k := ⟨_, rfl⟩
  rw [hbb] at XB XR XT ⊢
  rw [hrb] at XR XT ⊢
  rw [htb] at XT ⊢
  have HBbb := hide (show w.heap.size ≤ bb by omega)
  have HBrb := hide (show w.heap.size ≤ rb by omega)
  have HBtb := hide (show w.heap.size ≤ tb by omega)
  have HNE := hide (show bb ≠ rb ∧ bb ≠ tb ∧ rb ≠ tb by omega)
  have HBB := hide hbb
  clear hbb hrb htb
  go_upto_region 13 with (fail)
  obtain ⟨⟨g0, g1, g2, g3, g4, g5⟩, ⟨q0, q1, q2, q3, q4, q5⟩⟩ := six_facts XT.out
  go_upto_region 14 with (fail)
  clear g0 g1 g2 g3 g4 g5 q0 q1 q2 q3 q4 q5
  have Ha0 := hide (show (w3.setCell ⟨tb, 0, none⟩ (.int .i64 (xc + 1))).heap[tb]? = some (.cells #[.int .i64 (xc + 1), .int .i64 xs, .int .i64 xv, .int .i64 xr, .int .i64 xi, .int .i64 xo] 29 (0, 0)) from block_setCell XT.out 0 (.int .i64 (xc + 1)))
  have Ba0 := hide (BB.out.setCell (p := ⟨tb, 0, none⟩) HBtb.out (.int .i64 (xc + 1)))
  have XBa0 := hide ((block_setCell_other HNE.out.2.1.symm 0 (.int .i64 (xc + 1))).trans XB.out)
  have XRa0 := hide ((block_setCell_other HNE.out.2.2.symm 0 (.int .i64 (xc + 1))).trans XR.out)
  generalize w3.setCell ⟨tb, 0, none⟩ (.int .i64 (xc + 1)) = wa0 at *
  obtain ⟨⟨g0, g1, g2, g3, g4, g5⟩, ⟨q0, q1, q2, q3, q4, q5⟩⟩ := six_facts Ha0.out
  obtain ⟨⟨c0, c1, c2, c3, c4, c5, c6, c7, c8, c9⟩, ⟨f0, f1, f2, f3, f4, f5, f6, f7, f8, f9⟩⟩ := sh_facts XBa0.out
  go_upto_region 15 with (fail)
  clear g0 g1 g2 g3 g4 g5 q0 q1 q2 q3 q4 q5
  clear c0 c1 c2 c3 c4 c5 c6 c7 c8 c9 f0 f1 f2 f3 f4 f5 f6 f7 f8 f9
  have Hb3 := hide (show (wa0.setCell ⟨bb, 3, none⟩ (.int .i64 (xc + 1))).heap[bb]? = some (.cells #[.int .i64 keep, .int .i64 next, .bool true, .int .i64 (xc + 1), .int .i64 xs, .int .i64 xv, .int .i64 xr, .int .i64 xi, .int .i64 xo, .slice a L.length cp] 32 (0, 0)) from block_setCell XBa0.out 3 (.int .i64 (xc + 1)))
  have Bb3 := hide (Ba0.out.setCell (p := ⟨bb, 3, none⟩) HBbb.out (.int .i64 (xc + 1)))
  have XRb3 := hide ((block_setCell_other HNE.out.1 3 (.int .i64 (xc + 1))).trans XRa0.out)
  generalize wa0.setCell ⟨bb, 3, none⟩ (.int .i64 (xc + 1)) = wb3 at *
  have Hb4 := hide (show (wb3.setCell ⟨bb, 4, none⟩ (.int .i64 xs)).heap[bb]? = some (.cells #[.int .i64 keep, .int .i64 next, .bool true, .int .i64 (xc + 1), .int .i64 xs, .int .i64 xv, .int .i64 xr, .int .i64 xi, .int .i64 xo, .slice a L.length cp] 32 (0, 0)) from block_setCell Hb3.out 4 (.int .i64 xs))
  have Bb4 := hide (Bb3.out.setCell (p := ⟨bb, 4, none⟩) HBbb.out (.int .i64 xs))
  have XRb4 := hide ((block_setCell_other HNE.out.1 4 (.int .i64 xs)).trans XRb3.out)
  generalize wb3.setCell ⟨bb, 4, none⟩ (.int .i64 xs) = wb4 at *
  have Hb5 := hide (show (wb4.setCell ⟨bb, 5, none⟩ (.int .i64 xv)).heap[bb]? = some (.cells #[.int .i64 keep, .int .i64 next, .bool true, .int .i64 (xc + 1), .int .i64 xs, .int .i64 xv, .int .i64 xr, .int .i64 xi, .int .i64 xo, .slice a L.length cp] 32 (0, 0)) from block_setCell Hb4.out 5 (.int .i64 xv))
  have Bb5 := hide (Bb4.out.setCell (p := ⟨bb, 5, none⟩) HBbb.out (.int .i64 xv))
  have XRb5 := hide ((block_setCell_other HNE.out.1 5 (.int .i64 xv)).trans XRb4.out)
  generalize wb4.setCell ⟨bb, 5, none⟩ (.int .i64 xv) = wb5 at *
  have Hb6 := hide (show (wb5.setCell ⟨bb, 6, none⟩ (.int .i64 xr)).heap[bb]? = some (.cells #[.int .i64 keep, .int .i64 next, .bool true, .int .i64 (xc + 1), .int .i64 xs, .int .i64 xv, .int .i64 xr, .int .i64 xi, .int .i64 xo, .slice a L.length cp] 32 (0, 0)) from block_setCell Hb5.out 6 (.int .i64 xr))
  have Bb6 := hide (Bb5.out.setCell (p := ⟨bb, 6, none⟩) HBbb.out (.int .i64 xr))
  have XRb6 := hide ((block_setCell_other HNE.out.1 6 (.int .i64 xr)).trans XRb5.out)
  generalize wb5.setCell ⟨bb, 6, none⟩ (.int .i64 xr) = wb6 at *
  have Hb7 := hide (show (wb6.setCell ⟨bb, 7, none⟩ (.int .i64 xi)).heap[bb]? = some (.cells #[.int .i64 keep, .int .i64 next, .bool true, .int .i64 (xc + 1), .int .i64 xs, .int .i64 xv, .int .i64 xr, .int .i64 xi, .int .i64 xo, .slice a L.length cp] 32 (0, 0)) from block_setCell Hb6.out 7 (.int .i64 xi))
  have Bb7 := hide (Bb6.out.setCell (p := ⟨bb, 7, none⟩) HBbb.out (.int .i64 xi))
  have XRb7 := hide ((block_setCell_other HNE.out.1 7 (.int .i64 xi)).trans XRb6.out)
  generalize wb6.setCell ⟨bb, 7, none⟩ (.int .i64 xi) = wb7 at *
  have Hb8 := hide (show (wb7.setCell ⟨bb, 8, none⟩ (.int .i64 xo)).heap[bb]? = some (.cells #[.int .i64 keep, .int .i64 next, .bool true, .int .i64 (xc + 1), .int .i64 xs, .int .i64 xv, .int .i64 xr, .int .i64 xi, .int .i64 xo, .slice a L.length cp] 32 (0, 0)) from block_setCell Hb7.out 8 (.int .i64 xo))
  have Bb8 := hide (Bb7.out.setCell (p := ⟨bb, 8, none⟩) HBbb.out (.int .i64 xo))
  have XRb8 := hide ((block_setCell_other HNE.out.1 8 (.int .i64 xo)).trans XRb7.out)
  generalize wb7.setCell ⟨bb, 8, none⟩ (.int .i64 xo) = wb8 at *
  obtain ⟨⟨c0, c1, c2, c3, c4, c5, c6, c7, c8, c9⟩, ⟨f0, f1, f2, f3, f4, f5, f6, f7, f8, f9⟩⟩ := sh_facts Hb8.out
  obtain ⟨⟨d0, d1, d2, d3, d4, d5, d6, d7, d8, d9⟩, ⟨e0, e1, e2, e3, e4, e5, e6, e7, e8, e9⟩⟩ := sh_facts XRb8.out
  go_wp2_with fail
  clear c0 c1 c2 c3 c4 c5 c6 c7 c8 c9 f0 f1 f2 f3 f4 f5 f6 f7 f8 f9
  clear d0 d1 d2 d3 d4 d5 d6 d7 d8 d9 e0 e1 e2 e3 e4 e5 e6 e7 e8 e9
  have Hr0 := hide (show (wb8.setCell ⟨rb, 0, none⟩ (.int .i64 keep)).heap[rb]? = some (.cells #[.int .i64 keep, .int .i64 0, .bool false, .int .i64 0, .int .i64 0, .int .i64 0, .int .i64 0, .int .i64 0, .int .i64 0, .slice none 0 0] 32 (0, 0)) from block_setCell XRb8.out 0 (.int .i64 keep))
  have Br0 := hide (Bb8.out.setCell (p := ⟨rb, 0, none⟩) HBrb.out (.int .i64 keep))
  generalize wb8.setCell ⟨rb, 0, none⟩ (.int .i64 keep) = wr0 at *
  have Hr1 := hide (show (wr0.setCell ⟨rb, 1, none⟩ (.int .i64 next)).heap[rb]? = some (.cells #[.int .i64 keep, .int .i64 next, .bool false, .int .i64 0, .int .i64 0, .int .i64 0, .int .i64 0, .int .i64 0, .int .i64 0, .slice none 0 0] 32 (0, 0)) from block_setCell Hr0.out 1 (.int .i64 next))
  have Br1 := hide (Br0.out.setCell (p := ⟨rb, 1, none⟩) HBrb.out (.int .i64 next))
  generalize wr0.setCell ⟨rb, 1, none⟩ (.int .i64 next) = wr1 at *
  have Hr2 := hide (show (wr1.setCell ⟨rb, 2, none⟩ (.bool true)).heap[rb]? = some (.cells #[.int .i64 keep, .int .i64 next, .bool true, .int .i64 0, .int .i64 0, .int .i64 0, .int .i64 0, .int .i64 0, .int .i64 0, .slice none 0 0] 32 (0, 0)) from block_setCell Hr1.out 2 (.bool true))
  have Br2 := hide (Br1.out.setCell (p := ⟨rb, 2, none⟩) HBrb.out (.bool true))
  generalize wr1.setCell ⟨rb, 2, none⟩ (.bool true) = wr2 at *
  have Hr3 := hide (show (wr2.setCell ⟨rb, 3, none⟩ (.int .i64 (xc + 1))).heap[rb]? = some (.cells #[.int .i64 keep, .int .i64 next, .bool true, .int .i64 (xc + 1), .int .i64 0, .int .i64 0, .int .i64 0, .int .i64 0, .int .i64 0, .slice none 0 0] 32 (0, 0)) from block_setCell Hr2.out 3 (.int .i64 (xc + 1)))
  have Br3 := hide (Br2.out.setCell (p := ⟨rb, 3, none⟩) HBrb.out (.int .i64 (xc + 1)))
  generalize wr2.setCell ⟨rb, 3, none⟩ (.int .i64 (xc + 1)) = wr3 at *
  have Hr4 := hide (show (wr3.setCell ⟨rb, 4, none⟩ (.int .i64 xs)).heap[rb]? = some (.cells #[.int .i64 keep, .int .i64 next, .bool true, .int .i64 (xc + 1), .int .i64 xs, .int .i64 0, .int .i64 0, .int .i64 0, .int .i64 0, .slice none 0 0] 32 (0, 0)) from block_setCell Hr3.out 4 (.int .i64 xs))
  have Br4 := hide (Br3.out.setCell (p := ⟨rb, 4, none⟩) HBrb.out (.int .i64 xs))
  generalize wr3.setCell ⟨rb, 4, none⟩ (.int .i64 xs) = wr4 at *
  have Hr5 := hide (show (wr4.setCell ⟨rb, 5, none⟩ (.int .i64 xv)).heap[rb]? = some (.cells #[.int .i64 keep, .int .i64 next, .bool true, .int .i64 (xc + 1), .int .i64 xs, .int .i64 xv, .int .i64 0, .int .i64 0, .int .i64 0, .slice none 0 0] 32 (0, 0)) from block_setCell Hr4.out 5 (.int .i64 xv))
  have Br5 := hide (Br4.out.setCell (p := ⟨rb, 5, none⟩) HBrb.out (.int .i64 xv))
  generalize wr4.setCell ⟨rb, 5, none⟩ (.int .i64 xv) = wr5 at *
  have Hr6 := hide (show (wr5.setCell ⟨rb, 6, none⟩ (.int .i64 xr)).heap[rb]? = some (.cells #[.int .i64 keep, .int .i64 next, .bool true, .int .i64 (xc + 1), .int .i64 xs, .int .i64 xv, .int .i64 xr, .int .i64 0, .int .i64 0, .slice none 0 0] 32 (0, 0)) from block_setCell Hr5.out 6 (.int .i64 xr))
  have Br6 := hide (Br5.out.setCell (p := ⟨rb, 6, none⟩) HBrb.out (.int .i64 xr))
  generalize wr5.setCell ⟨rb, 6, none⟩ (.int .i64 xr) = wr6 at *
  have Hr7 := hide (show (wr6.setCell ⟨rb, 7, none⟩ (.int .i64 xi)).heap[rb]? = some (.cells #[.int .i64 keep, .int .i64 next, .bool true, .int .i64 (xc + 1), .int .i64 xs, .int .i64 xv, .int .i64 xr, .int .i64 xi, .int .i64 0, .slice none 0 0] 32 (0, 0)) from block_setCell Hr6.out 7 (.int .i64 xi))
  have Br7 := hide (Br6.out.setCell (p := ⟨rb, 7, none⟩) HBrb.out (.int .i64 xi))
  generalize wr6.setCell ⟨rb, 7, none⟩ (.int .i64 xi) = wr7 at *
  have Hr8 := hide (show (wr7.setCell ⟨rb, 8, none⟩ (.int .i64 xo)).heap[rb]? = some (.cells #[.int .i64 keep, .int .i64 next, .bool true, .int .i64 (xc + 1), .int .i64 xs, .int .i64 xv, .int .i64 xr, .int .i64 xi, .int .i64 xo, .slice none 0 0] 32 (0, 0)) from block_setCell Hr7.out 8 (.int .i64 xo))
  have Br8 := hide (Br7.out.setCell (p := ⟨rb, 8, none⟩) HBrb.out (.int .i64 xo))
  generalize wr7.setCell ⟨rb, 8, none⟩ (.int .i64 xo) = wr8 at *
  have Hr9 := hide (show (wr8.setCell ⟨rb, 9, none⟩ (.slice a L.length cp)).heap[rb]? = some (.cells #[.int .i64 keep, .int .i64 next, .bool true, .int .i64 (xc + 1), .int .i64 xs, .int .i64 xv, .int .i64 xr, .int .i64 xi, .int .i64 xo, .slice a L.length cp] 32 (0, 0)) from block_setCell Hr8.out 9 (.slice a L.length cp))
  have Br9 := hide (Br8.out.setCell (p := ⟨rb, 9, none⟩) HBrb.out (.slice a L.length cp))
  generalize wr8.setCell ⟨rb, 9, none⟩ (.slice a L.length cp) = wr9 at *
  (try simp only [Exit.inBlock, Exit.then])
  refine bodyPost_ret (res_ct (P := Try.prog) rfl _ wr9 rb 32 #[.int .i64 keep, .int .i64 next, .bool true, .int .i64 (xc + 1), .int .i64 xs, .int .i64 xv, .int .i64 xr, .int .i64 xi, .int .i64 xo, .slice a L.length cp] (0, 0) _ rfl Hr9.out Try.underlying32 rfl (by kernel_rfl)) rfl ?_
  exact ⟨rfl, Br9.out⟩
set_option maxRecDepth 100000 in
set_option maxHeartbeats 4000000 in
theorem rsover_1 (keep next xc xs xv xr xi xo : Int) (a : Option Addr) (L : List TotM) (cp : Nat) (am : Int) (h0 : 0 ≤ am) (hc : 0 ≤ xc ∧ xc < 4294967295) (hs : inR xs) (ham : inR am) (hx : ¬ inR (xs + am)) (w : World) :
    Calls Try.prog 15 #[.agg #[.int .i64 keep, .int .i64 next, .bool true, .int .i64 xc, .int .i64 xs, .int .i64 xv, .int .i64 xr, .int .i64 xi, .int .i64 xo, .slice a L.length cp], .int .u8 1, .int .i64 am] w fun e w' => e = .returned (.tuple #[.agg #[.int .i64 keep, .int .i64 next, .bool true, .int .i64 xc, .int .i64 xs, .int .i64 xv, .int .i64 xr, .int .i64 xi, .int .i64 xo, .slice a L.length cp], .int .i64 6]) ∧ Below w.heap.size w w' := by
  have HAD := hide (fun W => radd_any xs am hs ham W)
  rw [(sum_out hx).1, (sum_out hx).2] at HAD
  clear hx hs ham
  have hc2 : ¬ 4294967295 ≤ xc := by omega
  have ham0 : ¬ am < 0 := by omega
  clear hc
  go_enter Try.func15, Try.ntmps15
  go_upto_region 8 with (fail)
  obtain ⟨w3, hw3⟩ : ∃ w3, w3 = ((w.alloc (.cells #[.int .i64 keep, .int .i64 next, .bool true, .int .i64 xc, .int .i64 xs, .int .i64 xv, .int .i64 xr, .int .i64 xi, .int .i64 xo, .slice a L.length cp] 32)).alloc (.cells #[.int .i64 0, .int .i64 0, .bool false, .int .i64 0, .int .i64 0, .int .i64 0, .int .i64 0, .int .i64 0, .int .i64 0, .slice none 0 0] 32)).alloc (.cells #[.int .i64 xc, .int .i64 xs, .int .i64 xv, .int .i64 xr, .int .i64 xi, .int .i64 xo] 29) := ⟨_, rfl⟩
  rw [← hw3]
  have XB := hide (show w3.heap[w.heap.size]? = some (.cells #[.int .i64 keep, .int .i64 next, .bool true, .int .i64 xc, .int .i64 xs, .int .i64 xv, .int .i64 xr, .int .i64 xi, .int .i64 xo, .slice a L.length cp] 32 (0, 0)) by rw [hw3, heap_old _ _ _ (by simp; omega), heap_old _ _ _ (by simp), heap_new])
  have XR := hide (show w3.heap[(w.heap.size + 1)]? = some (.cells #[.int .i64 0, .int .i64 0, .bool false, .int .i64 0, .int .i64 0, .int .i64 0, .int .i64 0, .int .i64 0, .int .i64 0, .slice none 0 0] 32 (0, 0)) by rw [hw3, heap_old _ _ _ (by simp)]; exact heap_alloc2_new w _ _)
  have XT := hide (show w3.heap[(w.heap.size + 1 + 1)]? = some (.cells #[.int .i64 xc, .int .i64 xs, .int .i64 xv, .int .i64 xr, .int .i64 xi, .int .i64 xo] 29 (0, 0)) by rw [hw3]; exact heap_alloc3_new w _ _ _)
  have BB := hide (show Below w.heap.size w w3 by rw [hw3]; exact (((Below.refl w.heap.size w).alloc (Nat.le_refl _) _).alloc (by simp) _).alloc (by simp; omega) _)
  clear hw3
  obtain ⟨bb, hbb⟩ : ∃ k, w.heap.size = k := ⟨_, rfl⟩
  obtain ⟨rb, hrb⟩ : ∃ k, bb + 1 = k := ⟨_, rfl⟩
  obtain ⟨tb, htb⟩ : ∃ k, rb + 1 = k := ⟨_, rfl⟩
  rw [hbb] at XB XR XT ⊢
  rw [hrb] at XR XT ⊢
  rw [htb] at XT ⊢
  have HBbb := hide (show w.heap.size ≤ bb by omega)
  have HBrb := hide (show w.heap.size ≤ rb by omega)
  have HBtb := hide (show w.heap.size ≤ tb by omega)
  have HNE := hide (show bb ≠ rb ∧ bb ≠ tb ∧ rb ≠ tb by omega)
  have HBB := hide hbb
  clear hbb hrb htb
  obtain ⟨⟨g0, g1, g2, g3, g4, g5⟩, ⟨q0, q1, q2, q3, q4, q5⟩⟩ := six_facts XT.out
  go_wp2_with fail
  refine (HAD.out _).mono ?_
  rintro e w4 ⟨rfl, hb⟩
  have XB4 := hide ((hb.block _ (heap_lt XB.out)).trans XB.out)
  have XR4 := hide ((hb.block _ (heap_lt XR.out)).trans XR.out)
  have XT4 := hide ((hb.block _ (heap_lt XT.out)).trans XT.out)
  have BB4 := hide (BB.out.trans (hb.mono (Nat.le_trans HBbb.out (Nat.le_of_lt (heap_lt XB.out)))))
  clear g0 g1 g2 g3 g4 g5 q0 q1 q2 q3 q4 q5
  clear hb XB XR XT BB
  obtain ⟨⟨c0, c1, c2, c3, c4, c5, c6, c7, c8, c9⟩, ⟨f0, f1, f2, f3, f4, f5, f6, f7, f8, f9⟩⟩ := sh_facts XB4.out
  obtain ⟨⟨d0, d1, d2, d3, d4, d5, d6, d7, d8, d9⟩, ⟨e0, e1, e2, e3, e4, e5, e6, e7, e8, e9⟩⟩ := sh_facts XR4.out
  go_wp2_with fail
  clear c0 c1 c2 c3 c4 c5 c6 c7 c8 c9 f0 f1 f2 f3 f4 f5 f6 f7 f8 f9
  clear d0 d1 d2 d3 d4 d5 d6 d7 d8 d9 e0 e1 e2 e3 e4 e5 e6 e7 e8 e9
  have Hr0 := hide (show (w4.setCell ⟨rb, 0, none⟩ (.int .i64 keep)).heap[rb]? = some (.cells #[.int .i64 keep, .int .i64 0, .bool false, .int .i64 0, .int .i64 0, .int .i64 0, .int .i64 0, .int .i64 0, .int .i64 0, .slice none 0 0] 32 (0, 0)) from block_setCell XR4.out 0 (.int .i64 keep))
  have Br0 := hide (BB4.out.setCell (p := ⟨rb, 0, none⟩) HBrb.out (.int .i64 keep))
  generalize w4.setCell ⟨rb, 0, none⟩ (.int .i64 keep) = wr0 at *
  have Hr1 := hide (show (wr0.setCell ⟨rb, 1, none⟩ (.int .i64 next)).heap[rb]? = some (.cells #[.int .i64 keep, .int .i64 next, .bool false, .int .i64 0, .int .i64 0, .int .i64 0, .int .i64 0, .int .i64 0, .int .i64 0, .slice none 0 0] 32 (0, 0)) from block_setCell Hr0.out 1 (.int .i64 next))
  have Br1 := hide (Br0.out.setCell (p := ⟨rb, 1, none⟩) HBrb.out (.int .i64 next))
  generalize wr0.setCell ⟨rb, 1, none⟩ (.int .i64 next) = wr1 at *
  have Hr2 := hide (show (wr1.setCell ⟨rb, 2, none⟩ (.bool true)).heap[rb]? = some (.cells #[.int .i64 keep, .int .i64 next, .bool true, .int .i64 0, .int .i64 0, .int .i64 0, .int .i64 0, .int .i64 0, .int .i64 0, .slice none 0 0] 32 (0, 0)) from block_setCell Hr1.out 2 (.bool true))
  have Br2 := hide (Br1.out.setCell (p := ⟨rb, 2, none⟩) HBrb.out (.bool true))
  generalize wr1.setCell ⟨rb, 2, none⟩ (.bool true) = wr2 at *
  have Hr3 := hide (show (wr2.setCell ⟨rb, 3, none⟩ (.int .i64 xc)).heap[rb]? = some (.cells #[.int .i64 keep, .int .i64 next, .bool true, .int .i64 xc, .int .i64 0, .int .i64 0, .int .i64 0, .int .i64 0, .int .i64 0, .slice none 0 0] 32 (0, 0)) from block_setCell Hr2.out 3 (.int .i64 xc))
  have Br3 := hide (Br2.out.setCell (p := ⟨rb, 3, none⟩) HBrb.out (.int .i64 xc))
  generalize wr2.setCell ⟨rb, 3, none⟩ (.int .i64 xc) = wr3 at *
  have Hr4 := hide (show (wr3.setCell ⟨rb, 4, none⟩ (.int .i64 xs)).heap[rb]? = some (.cells #[.int .i64 keep, .int .i64 next, .bool true, .int .i64 xc, .int .i64 xs, .int .i64 0, .int .i64 0, .int .i64 0, .int .i64 0, .slice none 0 0] 32 (0, 0)) from block_setCell Hr3.out 4 (.int .i64 xs))
  have Br4 := hide (Br3.out.setCell (p := ⟨rb, 4, none⟩) HBrb.out (.int .i64 xs))
  generalize wr3.setCell ⟨rb, 4, none⟩ (.int .i64 xs) = wr4 at *
  have Hr5 := hide (show (wr4.setCell ⟨rb, 5, none⟩ (.int .i64 xv)).heap[rb]? = some (.cells #[.int .i64 keep, .int .i64 next, .bool true, .int .i64 xc, .int .i64 xs, .int .i64 xv, .int .i64 0, .int .i64 0, .int .i64 0, .slice none 0 0] 32 (0, 0)) from block_setCell Hr4.out 5 (.int .i64 xv))
  have Br5 := hide (Br4.out.setCell (p := ⟨rb, 5, none⟩) HBrb.out (.int .i64 xv))
  generalize wr4.setCell ⟨rb, 5, none⟩ (.int .i64 xv) = wr5 at *
  have Hr6 := hide (show (wr5.setCell ⟨rb, 6, none⟩ (.int .i64 xr)).heap[rb]? = some (.cells #[.int .i64 keep, .int .i64 next, .bool true, .int .i64 xc, .int .i64 xs, .int .i64 xv, .int .i64 xr, .int .i64 0, .int .i64 0, .slice none 0 0] 32 (0, 0)) from block_setCell Hr5.out 6 (.int .i64 xr))
  have Br6 := hide (Br5.out.setCell (p := ⟨rb, 6, none⟩) HBrb.out (.int .i64 xr))
  generalize wr5.setCell ⟨rb, 6, none⟩ (.int .i64 xr) = wr6 at *
  have Hr7 := hide (show (wr6.setCell ⟨rb, 7, none⟩ (.int .i64 xi)).heap[rb]? = some (.cells #[.int .i64 keep, .int .i64 next, .bool true, .int .i64 xc, .int .i64 xs, .int .i64 xv, .int .i64 xr, .int .i64 xi, .int .i64 0, .slice none 0 0] 32 (0, 0)) from block_setCell Hr6.out 7 (.int .i64 xi))
  have Br7 := hide (Br6.out.setCell (p := ⟨rb, 7, none⟩) HBrb.out (.int .i64 xi))
  generalize wr6.setCell ⟨rb, 7, none⟩ (.int .i64 xi) = wr7 at *
  have Hr8 := hide (show (wr7.setCell ⟨rb, 8, none⟩ (.int .i64 xo)).heap[rb]? = some (.cells #[.int .i64 keep, .int .i64 next, .bool true, .int .i64 xc, .int .i64 xs, .int .i64 xv, .int .i64 xr, .int .i64 xi, .int .i64 xo, .slice none 0 0] 32 (0, 0)) from block_setCell Hr7.out 8 (.int .i64 xo))
  have Br8 := hide (Br7.out.setCell (p := ⟨rb, 8, none⟩) HBrb.out (.int .i64 xo))
  generalize wr7.setCell ⟨rb, 8, none⟩ (.int .i64 xo) = wr8 at *
  have Hr9 := hide (show (wr8.setCell ⟨rb, 9, none⟩ (.slice a L.length cp)).heap[rb]? = some (.cells #[.int .i64 keep, .int .i64 next, .bool true, .int .i64 xc, .int .i64 xs, .int .i64 xv, .int .i64 xr, .int .i64 xi, .int .i64 xo, .slice a L.length cp] 32 (0, 0)) from block_setCell Hr8.out 9 (.slice a L.length cp))
  have Br9 := hide (Br8.out.setCell (p := ⟨rb, 9, none⟩) HBrb.out (.slice a L.length cp))
  generalize wr8.setCell ⟨rb, 9, none⟩ (.slice a L.length cp) = wr9 at *
  (try simp only [Exit.inBlock, Exit.then])
  refine bodyPost_ret (res_ct (P := Try.prog) rfl _ wr9 rb 32 #[.int .i64 keep, .int .i64 next, .bool true, .int .i64 xc, .int .i64 xs, .int .i64 xv, .int .i64 xr, .int .i64 xi, .int .i64 xo, .slice a L.length cp] (0, 0) _ rfl Hr9.out Try.underlying32 rfl (by kernel_rfl)) rfl ?_
  exact ⟨rfl, Br9.out⟩

set_option maxRecDepth 100000 in
set_option maxHeartbeats 4000000 in
theorem rsover_2 (keep next xc xs xv xr xi xo : Int) (a : Option Addr) (L : List TotM) (cp : Nat) (am : Int) (h0 : 0 ≤ am) (hc : 0 ≤ xc ∧ xc < 4294967295) (hs : inR xv) (ham : inR am) (hx : ¬ inR (xv + am)) (w : World) :
    Calls Try.prog 15 #[.agg #[.int .i64 keep, .int .i64 next, .bool true, .int .i64 xc, .int .i64 xs, .int .i64 xv, .int .i64 xr, .int .i64 xi, .int .i64 xo, .slice a L.length cp], .int .u8 2, .int .i64 am] w fun e w' => e = .returned (.tuple #[.agg #[.int .i64 keep, .int .i64 next, .bool true, .int .i64 xc, .int .i64 xs, .int .i64 xv, .int .i64 xr, .int .i64 xi, .int .i64 xo, .slice a L.length cp], .int .i64 6]) ∧ Below w.heap.size w w' := by
  have HAD := hide (fun W => radd_any xv am hs ham W)
  rw [(sum_out hx).1, (sum_out hx).2] at HAD
  clear hx hs ham
  have hc2 : ¬ 4294967295 ≤ xc := by omega
  have ham0 : ¬ am < 0 := by omega
  clear hc
  go_enter Try.func15, Try.ntmps15
  go_upto_region 8 with (fail)
  obtain ⟨w3, hw3⟩ : ∃ w3, w3 = ((w.alloc (.cells #[.int .i64 keep, .int .i64 next, .bool true, .int .i64 xc, .int .i64 xs, .int .i64 xv, .int .i64 xr, .int .i64 xi, .int .i64 xo, .slice a L.length cp] 32)).alloc (.cells #[.int .i64 0, .int .i64 0, .bool false, .int .i64 0, .int .i64 0, .int .i64 0, .int .i64 0, .int .i64 0, .int .i64 0, .slice none 0 0] 32)).alloc (.cells #[.int .i64 xc, .int .i64 xs, .int .i64 xv, .int .i64 xr, .int .i64 xi, .int .i64 xo] 29) := ⟨_, rfl⟩
  rw [← hw3]
  have XB := hide (show w3.heap[w.heap.size]? = some (.cells #[.int .i64 keep, .int .i64 next, .bool true, .int .i64 xc, .int .i64 xs, .int .i64 xv, .int .i64 xr, .int .i64 xi, .int .i64 xo, .slice a L.length cp] 32 (0, 0)) by rw [hw3, heap_old _ _ _ (by simp; omega), heap_old _ _ _ (by simp), heap_new])
  have XR := hide (show w3.heap[(w.heap.size + 1)]? = some (.cells #[.int .i64 0, .int .i64 0, .bool false, .int .i64 0, .int .i64 0, .int .i64 0, .int .i64 0, .int .i64 0, .int .i64 0, .slice none 0 0] 32 (0, 0)) by rw [hw3, heap_old _ _ _ (by simp)]; exact heap_alloc2_new w _ _)
  have XT := hide (show w3.heap[(w.heap.size + 1 + 1)]? = some (.cells #[.int .i64 xc, .int .i64 xs, .int .i64 xv, .int .i64 xr, .int .i64 xi, .int .i64 xo] 29 (0, 0)) by rw [hw3]; exact heap_alloc3_new w _ _ _)
  have BB := hide (show Below w.heap.size w w3 by rw [hw3]; exact (((Below.refl w.heap.size w).alloc (Nat.le_refl _) _).alloc (by simp) _).alloc (by simp; omega) _)
  clear hw3
  obtain ⟨bb, hbb⟩ : ∃ k, w.heap.size = k := ⟨_, rfl⟩
  obtain ⟨rb, hrb⟩ : ∃ k, bb + 1 = k := ⟨_, rfl⟩
  obtain ⟨tb, htb⟩ : ∃ k, rb + 1 = k := ⟨_, rfl⟩
  rw [hbb] at XB XR XT ⊢
  rw [hrb] at XR XT ⊢
  rw [htb] at XT ⊢
  have HBbb := hide (show w.heap.size ≤ bb by omega)
  have HBrb := hide (show w.heap.size ≤ rb by omega)
  have HBtb := hide (show w.heap.size ≤ tb by omega)
  have HNE := hide (show bb ≠ rb ∧ bb ≠ tb ∧ rb ≠ tb by omega)
  have HBB := hide hbb
  clear hbb hrb htb
  obtain ⟨⟨g0, g1, g2, g3, g4, g5⟩, ⟨q0, q1, q2, q3, q4, q5⟩⟩ := six_facts XT.out
  go_wp2_with fail
  refine (HAD.out _).mono ?_
  rintro e w4 ⟨rfl, hb⟩
  have XB4 := hide ((hb.block _ (heap_lt XB.out)).trans XB.out)
  have XR4 := hide ((hb.block _ (heap_lt XR.out)).trans XR.out)
  have XT4 := hide ((hb.block _ (heap_lt XT.out)).trans XT.out)
  have BB4 := hide (BB.out.trans (hb.mono (Nat.le_trans HBbb.out (Nat.le_of_lt (heap_lt XB.out)))))
  clear g0 g1 g2 g3 g4 g5 q0 q1 q2 q3 q4 q5
  clear hb XB XR XT BB
  obtain ⟨⟨c0, c1, c2, c3, c4, c5, c6, c7, c8, c9⟩, ⟨f0, f1, f2, f3, f4, f5, f6, f7, f8, f9⟩⟩ := sh_facts XB4.out
  obtain ⟨⟨d0, d1, d2, d3, d4, d5, d6, d7, d8, d9⟩, ⟨e0, e1, e2, e3, e4, e5, e6, e7, e8, e9⟩⟩ := sh_facts XR4.out
  go_wp2_with fail
  clear c0 c1 c2 c3 c4 c5 c6 c7 c8 c9 f0 f1 f2 f3 f4 f5 f6 f7 f8 f9
  clear d0 d1 d2 d3 d4 d5 d6 d7 d8 d9 e0 e1 e2 e3 e4 e5 e6 e7 e8 e9
  have Hr0 := hide (show (w4.setCell ⟨rb, 0, none⟩ (.int .i64 keep)).heap[rb]? = some (.cells #[.int .i64 keep, .int .i64 0, .bool false, .int .i64 0, .int .i64 0, .int .i64 0, .int .i64 0, .int .i64 0, .int .i64 0, .slice none 0 0] 32 (0, 0)) from block_setCell XR4.out 0 (.int .i64 keep))
  have Br0 := hide (BB4.out.setCell (p := ⟨rb, 0, none⟩) HBrb.out (.int .i64 keep))
  generalize w4.setCell ⟨rb, 0, none⟩ (.int .i64 keep) = wr0 at *
  have Hr1 := hide (show (wr0.setCell ⟨rb, 1, none⟩ (.int .i64 next)).heap[rb]? = some (.cells #[.int .i64 keep, .int .i64 next, .bool false, .int .i64 0, .int .i64 0, .int .i64 0, .int .i64 0, .int .i64 0, .int .i64 0, .slice none 0 0] 32 (0, 0)) from block_setCell Hr0.out 1 (.int .i64 next))
  have Br1 := hide (Br0.out.setCell (p := ⟨rb, 1, none⟩) HBrb.out (.int .i64 next))
  generalize wr0.setCell ⟨rb, 1, none⟩ (.int .i64 next) = wr1 at *
  have Hr2 := hide (show (wr1.setCell ⟨rb, 2, none⟩ (.bool true)).heap[rb]? = some (.cells #[.int .i64 keep, .int .i64 next, .bool true, .int .i64 0, .int .i64 0, .int .i64 0, .int .i64 0, .int .i64 0, .int .i64 0, .slice none 0 0] 32 (0, 0)) from block_setCell Hr1.out 2 (.bool true))
  have Br2 := hide (Br1.out.setCell (p := ⟨rb, 2, none⟩) HBrb.out (.bool true))
  generalize wr1.setCell ⟨rb, 2, none⟩ (.bool true) = wr2 at *
  have Hr3 := hide (show (wr2.setCell ⟨rb, 3, none⟩ (.int .i64 xc)).heap[rb]? = some (.cells #[.int .i64 keep, .int .i64 next, .bool true, .int .i64 xc, .int .i64 0, .int .i64 0, .int .i64 0, .int .i64 0, .int .i64 0, .slice none 0 0] 32 (0, 0)) from block_setCell Hr2.out 3 (.int .i64 xc))
  have Br3 := hide (Br2.out.setCell (p := ⟨rb, 3, none⟩) HBrb.out (.int .i64 xc))
  generalize wr2.setCell ⟨rb, 3, none⟩ (.int .i64 xc) = wr3 at *
  have Hr4 := hide (show (wr3.setCell ⟨rb, 4, none⟩ (.int .i64 xs)).heap[rb]? = some (.cells #[.int .i64 keep, .int .i64 next, .bool true, .int .i64 xc, .int .i64 xs, .int .i64 0, .int .i64 0, .int .i64 0, .int .i64 0, .slice none 0 0] 32 (0, 0)) from block_setCell Hr3.out 4 (.int .i64 xs))
  have Br4 := hide (Br3.out.setCell (p := ⟨rb, 4, none⟩) HBrb.out (.int .i64 xs))
  generalize wr3.setCell ⟨rb, 4, none⟩ (.int .i64 xs) = wr4 at *
  have Hr5 := hide (show (wr4.setCell ⟨rb, 5, none⟩ (.int .i64 xv)).heap[rb]? = some (.cells #[.int .i64 keep, .int .i64 next, .bool true, .int .i64 xc, .int .i64 xs, .int .i64 xv, .int .i64 0, .int .i64 0, .int .i64 0, .slice none 0 0] 32 (0, 0)) from block_setCell Hr4.out 5 (.int .i64 xv))
  have Br5 := hide (Br4.out.setCell (p := ⟨rb, 5, none⟩) HBrb.out (.int .i64 xv))
  generalize wr4.setCell ⟨rb, 5, none⟩ (.int .i64 xv) = wr5 at *
  have Hr6 := hide (show (wr5.setCell ⟨rb, 6, none⟩ (.int .i64 xr)).heap[rb]? = some (.cells #[.int .i64 keep, .int .i64 next, .bool true, .int .i64 xc, .int .i64 xs, .int .i64 xv, .int .i64 xr, .int .i64 0, .int .i64 0, .slice none 0 0] 32 (0, 0)) from block_setCell Hr5.out 6 (.int .i64 xr))
  have Br6 := hide (Br5.out.setCell (p := ⟨rb, 6, none⟩) HBrb.out (.int .i64 xr))
  generalize wr5.setCell ⟨rb, 6, none⟩ (.int .i64 xr) = wr6 at *
  have Hr7 := hide (show (wr6.setCell ⟨rb, 7, none⟩ (.int .i64 xi)).heap[rb]? = some (.cells #[.int .i64 keep, .int .i64 next, .bool true, .int .i64 xc, .int .i64 xs, .int .i64 xv, .int .i64 xr, .int .i64 xi, .int .i64 0, .slice none 0 0] 32 (0, 0)) from block_setCell Hr6.out 7 (.int .i64 xi))
  have Br7 := hide (Br6.out.setCell (p := ⟨rb, 7, none⟩) HBrb.out (.int .i64 xi))
  generalize wr6.setCell ⟨rb, 7, none⟩ (.int .i64 xi) = wr7 at *
  have Hr8 := hide (show (wr7.setCell ⟨rb, 8, none⟩ (.int .i64 xo)).heap[rb]? = some (.cells #[.int .i64 keep, .int .i64 next, .bool true, .int .i64 xc, .int .i64 xs, .int .i64 xv, .int .i64 xr, .int .i64 xi, .int .i64 xo, .slice none 0 0] 32 (0, 0)) from block_setCell Hr7.out 8 (.int .i64 xo))
  have Br8 := hide (Br7.out.setCell (p := ⟨rb, 8, none⟩) HBrb.out (.int .i64 xo))
  generalize wr7.setCell ⟨rb, 8, none⟩ (.int .i64 xo) = wr8 at *
  have Hr9 := hide (show (wr8.setCell ⟨rb, 9, none⟩ (.slice a L.length cp)).heap[rb]? = some (.cells #[.int .i64 keep, .int .i64 next, .bool true, .int .i64 xc, .int .i64 xs, .int .i64 xv, .int .i64 xr, .int .i64 xi, .int .i64 xo, .slice a L.length cp] 32 (0, 0)) from block_setCell Hr8.out 9 (.slice a L.length cp))
  have Br9 := hide (Br8.out.setCell (p := ⟨rb, 9, none⟩) HBrb.out (.slice a L.length cp))
  generalize wr8.setCell ⟨rb, 9, none⟩ (.slice a L.length cp) = wr9 at *
  (try simp only [Exit.inBlock, Exit.then])
  refine bodyPost_ret (res_ct (P := Try.prog) rfl _ wr9 rb 32 #[.int .i64 keep, .int .i64 next, .bool true, .int .i64 xc, .int .i64 xs, .int .i64 xv, .int .i64 xr, .int .i64 xi, .int .i64 xo, .slice a L.length cp] (0, 0) _ rfl Hr9.out Try.underlying32 rfl (by kernel_rfl)) rfl ?_
  exact ⟨rfl, Br9.out⟩

set_option maxRecDepth 100000 in
set_option maxHeartbeats 4000000 in
theorem rsover_3 (keep next xc xs xv xr xi xo : Int) (a : Option Addr) (L : List TotM) (cp : Nat) (am : Int) (h0 : 0 ≤ am) (hc : 0 ≤ xc ∧ xc < 4294967295) (hs : inR xr) (ham : inR am) (hx : ¬ inR (xr + am)) (w : World) :
    Calls Try.prog 15 #[.agg #[.int .i64 keep, .int .i64 next, .bool true, .int .i64 xc, .int .i64 xs, .int .i64 xv, .int .i64 xr, .int .i64 xi, .int .i64 xo, .slice a L.length cp], .int .u8 3, .int .i64 am] w fun e w' => e = .returned (.tuple #[.agg #[.int .i64 keep, .int .i64 next, .bool true, .int .i64 xc, .int .i64 xs, .int .i64 xv, .int .i64 xr, .int .i64 xi, .int .i64 xo, .slice a L.length cp], .int .i64 6]) ∧ Below w.heap.size w w' := by
  have HAD := hide (fun W => radd_any xr am hs ham W)
  rw [(sum_out hx).1, (sum_out hx).2] at HAD
  clear hx hs ham
  have hc2 : ¬ 4294967295 ≤ xc := by omega
  have ham0 : ¬ am < 0 := by omega
  clear hc
  go_enter Try.func15, Try.ntmps15
  go_upto_region 8 with (fail)
  obtain ⟨w3, hw3⟩ : ∃ w3, w3 = ((w.alloc (.cells #[.int .i64 keep, .int .i64 next, .bool true, .int .i64 xc, .int .i64 xs, .int .i64 xv, .int .i64 xr, .int .i64 xi, .int .i64 xo, .slice a L.length cp] 32)).alloc (.cells #[.int .i64 0, .int .i64 0, .bool false, .int .i64 0, .int .i64 0, .int .i64 0, .int .i64 0, .int .i64 0, .int .i64 0, .slice none 0 0] 32)).alloc (.cells #[.int .i64 xc, .int .i64 xs, .int .i64 xv, .int .i64 xr, .int .i64 xi, .int .i64 xo] 29) := ⟨_, rfl⟩
  rw [← hw3]
  have XB := hide (show w3.heap[w.heap.size]? = some (.cells #[.int .i64 keep, .int .i64 next, .bool true, .int .i64 xc, .int .i64 xs, .int .i64 xv, .int .i64 xr, .int .i64 xi, .int .i64 xo, .slice a L.length cp] 32 (0, 0)) by rw [hw3, heap_old _ _ _ (by simp; omega), heap_old _ _ _ (by simp), heap_new])
  have XR := hide (show w3.heap[(w.heap.size + 1)]? = some (.cells #[.int .i64 0, .int .i64 0, .bool false, .int .i64 0, .int .i64 0, .int .i64 0, .int .i64 0, .int .i64 0, .int .i64 0, .slice none 0 0] 32 (0, 0)) by rw [hw3, heap_old _ _ _ (by simp)]; exact heap_alloc2_new w _ _)
  have XT := hide (show w3.heap[(w.heap.size + 1 + 1)]? = some (.cells #[.int .i64 xc, .int .i64 xs, .int .i64 xv, .int .i64 xr, .int .i64 xi, .int .i64 xo] 29 (0, 0)) by rw [hw3]; exact heap_alloc3_new w _ _ _)
  have BB := hide (show Below w.heap.size w w3 by rw [hw3]; exact (((Below.refl w.heap.size w).alloc (Nat.le_refl _) _).alloc (by simp) _).alloc (by simp; omega) _)
  clear hw3
  obtain ⟨bb, hbb⟩ : ∃ k, w.heap.size = k := ⟨_, rfl⟩
  obtain ⟨rb, hrb⟩ : ∃ k, bb + 1 = k := ⟨_, rfl⟩
  obtain ⟨tb, htb⟩ : ∃ k, rb + 1 = k := ⟨_, rfl⟩
  rw [hbb] at XB XR XT ⊢
  rw [hrb] at XR XT ⊢
  rw [htb] at XT ⊢
  have HBbb := hide (show w.heap.size ≤ bb by omega)
  have HBrb := hide (show w.heap.size ≤ rb by omega)
  have HBtb := hide (show w.heap.size ≤ tb by omega)
  have HNE := hide (show bb ≠ rb ∧ bb ≠ tb ∧ rb ≠ tb by omega)
  have HBB := hide hbb
  clear hbb hrb htb
  obtain ⟨⟨g0, g1, g2, g3, g4, g5⟩, ⟨q0, q1, q2, q3, q4, q5⟩⟩ := six_facts XT.out
  go_wp2_with fail
  refine (HAD.out _).mono ?_
  rintro e w4 ⟨rfl, hb⟩
  have XB4 := hide ((hb.block _ (heap_lt XB.out)).trans XB.out)
  have XR4 := hide ((hb.block _ (heap_lt XR.out)).trans XR.out)
  have XT4 := hide ((hb.block _ (heap_lt XT.out)).trans XT.out)
  have BB4 := hide (BB.out.trans (hb.mono (Nat.le_trans HBbb.out (Nat.le_of_lt (heap_lt XB.out)))))
  clear g0 g1 g2 g3 g4 g5 q0 q1 q2 q3 q4 q5
  clear hb XB XR XT BB
  obtain ⟨⟨c0, c1, c2, c3, c4, c5, c6, c7, c8, c9⟩, ⟨f0, f1, f2, f3, f4, f5, f6, f7, f8, f9⟩⟩ := sh_facts XB4.out
  obtain ⟨⟨d0, d1, d2, d3, d4, d5, d6, d7, d8, d9⟩, ⟨e0, e1, e2, e3, e4, e5, e6, e7, e8, e9⟩⟩ := sh_facts XR4.out
  go_wp2_with fail
  clear c0 c1 c2 c3 c4 c5 c6 c7 c8 c9 f0 f1 f2 f3 f4 f5 f6 f7 f8 f9
  clear d0 d1 d2 d3 d4 d5 d6 d7 d8 d9 e0 e1 e2 e3 e4 e5 e6 e7 e8 e9
  have Hr0 := hide (show (w4.setCell ⟨rb, 0, none⟩ (.int .i64 keep)).heap[rb]? = some (.cells #[.int .i64 keep, .int .i64 0, .bool false, .int .i64 0, .int .i64 0, .int .i64 0, .int .i64 0, .int .i64 0, .int .i64 0, .slice none 0 0] 32 (0, 0)) from block_setCell XR4.out 0 (.int .i64 keep))
  have Br0 := hide (BB4.out.setCell (p := ⟨rb, 0, none⟩) HBrb.out (.int .i64 keep))
  generalize w4.setCell ⟨rb, 0, none⟩ (.int .i64 keep) = wr0 at *
  have Hr1 := hide (show (wr0.setCell ⟨rb, 1, none⟩ (.int .i64 next)).heap[rb]? = some (.cells #[.int .i64 keep, .int .i64 next, .bool false, .int .i64 0, .int .i64 0, .int .i64 0, .int .i64 0, .int .i64 0, .int .i64 0, .slice none 0 0] 32 (0, 0)) from block_setCell Hr0.out 1 (.int .i64 next))
  have Br1 := hide (Br0.out.setCell (p := ⟨rb, 1, none⟩) HBrb.out (.int .i64 next))
  generalize wr0.setCell ⟨rb, 1, none⟩ (.int .i64 next) = wr1 at *
  have Hr2 := hide (show (wr1.setCell ⟨rb, 2, none⟩ (.bool true)).heap[rb]? = some (.cells #[.int .i64 keep, .int .i64 next, .bool true, .int .i64 0, .int .i64 0, .int .i64 0, .int .i64 0, .int .i64 0, .int .i64 0, .slice none 0 0] 32 (0, 0)) from block_setCell Hr1.out 2 (.bool true))
  have Br2 := hide (Br1.out.setCell (p := ⟨rb, 2, none⟩) HBrb.out (.bool true))
  generalize wr1.setCell ⟨rb, 2, none⟩ (.bool true) = wr2 at *
  have Hr3 := hide (show (wr2.setCell ⟨rb, 3, none⟩ (.int .i64 xc)).heap[rb]? = some (.cells #[.int .i64 keep, .int .i64 next, .bool true, .int .i64 xc, .int .i64 0, .int .i64 0, .int .i64 0, .int .i64 0, .int .i64 0, .slice none 0 0] 32 (0, 0)) from block_setCell Hr2.out 3 (.int .i64 xc))
  have Br3 := hide (Br2.out.setCell (p := ⟨rb, 3, none⟩) HBrb.out (.int .i64 xc))
  generalize wr2.setCell ⟨rb, 3, none⟩ (.int .i64 xc) = wr3 at *
  have Hr4 := hide (show (wr3.setCell ⟨rb, 4, none⟩ (.int .i64 xs)).heap[rb]? = some (.cells #[.int .i64 keep, .int .i64 next, .bool true, .int .i64 xc, .int .i64 xs, .int .i64 0, .int .i64 0, .int .i64 0, .int .i64 0, .slice none 0 0] 32 (0, 0)) from block_setCell Hr3.out 4 (.int .i64 xs))
  have Br4 := hide (Br3.out.setCell (p := ⟨rb, 4, none⟩) HBrb.out (.int .i64 xs))
  generalize wr3.setCell ⟨rb, 4, none⟩ (.int .i64 xs) = wr4 at *
  have Hr5 := hide (show (wr4.setCell ⟨rb, 5, none⟩ (.int .i64 xv)).heap[rb]? = some (.cells #[.int .i64 keep, .int .i64 next, .bool true, .int .i64 xc, .int .i64 xs, .int .i64 xv, .int .i64 0, .int .i64 0, .int .i64 0, .slice none 0 0] 32 (0, 0)) from block_setCell Hr4.out 5 (.int .i64 xv))
  have Br5 := hide (Br4.out.setCell (p := ⟨rb, 5, none⟩) HBrb.out (.int .i64 xv))
  generalize wr4.setCell ⟨rb, 5, none⟩ (.int .i64 xv) = wr5 at *
  have Hr6 := hide (show (wr5.setCell ⟨rb, 6, none⟩ (.int .i64 xr)).heap[rb]? = some (.cells #[.int .i64 keep, .int .i64 next, .bool true, .int .i64 xc, .int .i64 xs, .int .i64 xv, .int .i64 xr, .int .i64 0, .int .i64 0, .slice none 0 0] 32 (0, 0)) from block_setCell Hr5.out 6 (.int .i64 xr))
  have Br6 := hide (Br5.out.setCell (p := ⟨rb, 6, none⟩) HBrb.out (.int .i64 xr))
  generalize wr5.setCell ⟨rb, 6, none⟩ (.int .i64 xr) = wr6 at *
  have Hr7 := hide (show (wr6.setCell ⟨rb, 7, none⟩ (.int .i64 xi)).heap[rb]? = some (.cells #[.int .i64 keep, .int .i64 next, .bool true, .int .i64 xc, .int .i64 xs, .int .i64 xv, .int .i64 xr, .int .i64 xi, .int .i64 0, .slice none 0 0] 32 (0, 0)) from block_setCell Hr6.out 7 (.int .i64 xi))
  have Br7 := hide (Br6.out.setCell (p := ⟨rb, 7, none⟩) HBrb.out (.int .i64 xi))
  generalize wr6.setCell ⟨rb, 7, none⟩ (.int .i64 xi) = wr7 at *
  have Hr8 := hide (show (wr7.setCell ⟨rb, 8, none⟩ (.int .i64 xo)).heap[rb]? = some (.cells #[.int .i64 keep, .int .i64 next, .bool true, .int .i64 xc, .int .i64 xs, .int .i64 xv, .int .i64 xr, .int .i64 xi, .int .i64 xo, .slice none 0 0] 32 (0, 0)) from block_setCell Hr7.out 8 (.int .i64 xo))
  have Br8 := hide (Br7.out.setCell (p := ⟨rb, 8, none⟩) HBrb.out (.int .i64 xo))
  generalize wr7.setCell ⟨rb, 8, none⟩ (.int .i64 xo) = wr8 at *
  have Hr9 := hide (show (wr8.setCell ⟨rb, 9, none⟩ (.slice a L.length cp)).heap[rb]? = some (.cells #[.int .i64 keep, .int .i64 next, .bool true, .int .i64 xc, .int .i64 xs, .int .i64 xv, .int .i64 xr, .int .i64 xi, .int .i64 xo, .slice a L.length cp] 32 (0, 0)) from block_setCell Hr8.out 9 (.slice a L.length cp))
  have Br9 := hide (Br8.out.setCell (p := ⟨rb, 9, none⟩) HBrb.out (.slice a L.length cp))
  generalize wr8.setCell ⟨rb, 9, none⟩ (.slice a L.length cp) = wr9 at *
  (try simp only [Exit.inBlock, Exit.then])
  refine bodyPost_ret (res_ct (P := Try.prog) rfl _ wr9 rb 32 #[.int .i64 keep, .int .i64 next, .bool true, .int .i64 xc, .int .i64 xs, .int .i64 xv, .int .i64 xr, .int .i64 xi, .int .i64 xo, .slice a L.length cp] (0, 0) _ rfl Hr9.out Try.underlying32 rfl (by kernel_rfl)) rfl ?_
  exact ⟨rfl, Br9.out⟩

set_option maxRecDepth 100000 in
set_option maxHeartbeats 4000000 in
theorem rsover_4 (keep next xc xs xv xr xi xo : Int) (a : Option Addr) (L : List TotM) (cp : Nat) (am : Int) (h0 : 0 ≤ am) (hc : 0 ≤ xc ∧ xc < 4294967295) (hs : inR xi) (ham : inR am) (hx : ¬ inR (xi + am)) (w : World) :
    Calls Try.prog 15 #[.agg #[.int .i64 keep, .int .i64 next, .bool true, .int .i64 xc, .int .i64 xs, .int .i64 xv, .int .i64 xr, .int .i64 xi, .int .i64 xo, .slice a L.length cp], .int .u8 4, .int .i64 am] w fun e w' => e = .returned (.tuple #[.agg #[.int .i64 keep, .int .i64 next, .bool true, .int .i64 xc, .int .i64 xs, .int .i64 xv, .int .i64 xr, .int .i64 xi, .int .i64 xo, .slice a L.length cp], .int .i64 6]) ∧ Below w.heap.size w w' := by
  have HAD := hide (fun W => radd_any xi am hs ham W)
  rw [(sum_out hx).1, (sum_out hx).2] at HAD
  clear hx hs ham
  have hc2 : ¬ 4294967295 ≤ xc := by omega
  have ham0 : ¬ am < 0 := by omega
  clear hc
  go_enter Try.func15, Try.ntmps15
  go_upto_region 8 with (fail)
  obtain ⟨w3, hw3⟩ : ∃ w3, w3 = ((w.alloc (.cells #[.int .i64 keep, .int .i64 next, .bool true, .int .i64 xc, .int .i64 xs, .int .i64 xv, .int .i64 xr, .int .i64 xi, .int .i64 xo, .slice a L.length cp] 32)).alloc (.cells #[.int .i64 0, .int .i64 0, .bool false, .int .i64 0, .int .i64 0, .int .i64 0, .int .i64 0, .int .i64 0, .int .i64 0, .slice none 0 0] 32)).alloc (.cells #[.int .i64 xc, .int .i64 xs, .int .i64 xv, .int .i64 xr, .int .i64 xi, .int .i64 xo] 29) := ⟨_, rfl⟩
  rw [← hw3]
  have XB := hide (show w3.heap[w.heap.size]? = some (.cells #[.int .i64 keep, .int .i64 next, .bool true, .int .i64 xc, .int .i64 xs, .int .i64 xv, .int .i64 xr, .int .i64 xi, .int .i64 xo, .slice a L.length cp] 32 (0, 0)) by rw [hw3, heap_old _ _ _ (by simp; omega), heap_old _ _ _ (by simp), heap_new])
  have XR := hide (show w3.heap[(w.heap.size + 1)]? = some (.cells #[.int .i64 0, .int .i64 0, .bool false, .int .i64 0, .int .i64 0, .int .i64 0, .int .i64 0, .int .i64 0, .int .i64 0, .slice none 0 0] 32 (0, 0)) by rw [hw3, heap_old _ _ _ (by simp)]; exact heap_alloc2_new w _ _)
  have XT := hide (show w3.heap[(w.heap.size + 1 + 1)]? = some (.cells #[.int .i64 xc, .int .i64 xs, .int .i64 xv, .int .i64 xr, .int .i64 xi, .int .i64 xo] 29 (0, 0)) by rw [hw3]; exact heap_alloc3_new w _ _ _)
  have BB := hide (show Below w.heap.size w w3 by rw [hw3]; exact (((Below.refl w.heap.size w).alloc (Nat.le_refl _) _).alloc (by simp) _).alloc (by simp; omega) _)
  clear hw3
  obtain ⟨bb, hbb⟩ : ∃ k, w.heap.size = k := ⟨_, rfl⟩
  obtain ⟨rb, hrb⟩ : ∃ k, bb + 1 = k := ⟨_, rfl⟩
  obtain ⟨tb, htb⟩ : ∃ k, rb + 1 = k := ⟨_, rfl⟩
  rw [hbb] at XB XR XT ⊢
  rw [hrb] at XR XT ⊢
  rw [htb] at XT ⊢
  have HBbb := hide (show w.heap.size ≤ bb by omega)
  have HBrb := hide (show w.heap.size ≤ rb by omega)
  have HBtb := hide (show w.heap.size ≤ tb by omega)
  have HNE := hide (show bb ≠ rb ∧ bb ≠ tb ∧ rb ≠ tb by omega)
  have HBB := hide hbb
  clear hbb hrb htb
  obtain ⟨⟨g0, g1, g2, g3, g4, g5⟩, ⟨q0, q1, q2, q3, q4, q5⟩⟩ := six_facts XT.out
  go_wp2_with fail
  refine (HAD.out _).mono ?_
  rintro e w4 ⟨rfl, hb⟩
  have XB4 := hide ((hb.block _ (heap_lt XB.out)).trans XB.out)
  have XR4 := hide ((hb.block _ (heap_lt XR.out)).trans XR.out)
  have XT4 := hide ((hb.block _ (heap_lt XT.out)).trans XT.out)
  have BB4 := hide (BB.out.trans (hb.mono (Nat.le_trans HBbb.out (Nat.le_of_lt (heap_lt XB.out)))))
  clear g0 g1 g2 g3 g4 g5 q0 q1 q2 q3 q4 q5
  clear hb XB XR XT BB
  obtain ⟨⟨c0, c1, c2, c3, c4, c5, c6, c7, c8, c9⟩, ⟨f0, f1, f2, f3, f4, f5, f6, f7, f8, f9⟩⟩ := sh_facts XB4.out
  obtain ⟨⟨d0, d1, d2, d3, d4, d5, d6, d7, d8, d9⟩, ⟨e0, e1, e2, e3, e4, e5, e6, e7, e8, e9⟩⟩ := sh_facts XR4.out
  go_wp2_with fail
  clear c0 c1 c2 c3 c4 c5 c6 c7 c8 c9 f0 f1 f2 f3 f4 f5 f6 f7 f8 f9
  clear d0 d1 d2 d3 d4 d5 d6 d7 d8 d9 e0 e1 e2 e3 e4 e5 e6 e7 e8 e9
  have Hr0 := hide (show (w4.setCell ⟨rb, 0, none⟩ (.int .i64 keep)).heap[rb]? = some (.cells #[.int .i64 keep, .int .i64 0, .bool false, .int .i64 0, .int .i64 0, .int .i64 0, .int .i64 0, .int .i64 0, .int .i64 0, .slice none 0 0] 32 (0, 0)) from block_setCell XR4.out 0 (.int .i64 keep))
  have Br0 := hide (BB4.out.setCell (p := ⟨rb, 0, none⟩) HBrb.out (.int .i64 keep))
  generalize w4.setCell ⟨rb, 0, none⟩ (.int .i64 keep) = wr0 at *
  have Hr1 := hide (show (wr0.setCell ⟨rb, 1, none⟩ (.int .i64 next)).heap[rb]? = some (.cells #[.int .i64 keep, .int .i64 next, .bool false, .int .i64 0, .int .i64 0, .int .i64 0, .int .i64 0, .int .i64 0, .int .i64 0, .slice none 0 0] 32 (0, 0)) from block_setCell Hr0.out 1 (.int .i64 next))
  have Br1 := hide (Br0.out.setCell (p := ⟨rb, 1, none⟩) HBrb.out (.int .i64 next))
  generalize wr0.setCell ⟨rb, 1, none⟩ (.int .i64 next) = wr1 at *
  have Hr2 := hide (show (wr1.setCell ⟨rb, 2, none⟩ (.bool true)).heap[rb]? = some (.cells #[.int .i64 keep, .int .i64 next, .bool true, .int .i64 0, .int .i64 0, .int .i64 0, .int .i64 0, .int .i64 0, .int .i64 0, .slice none 0 0] 32 (0, 0)) from block_setCell Hr1.out 2 (.bool true))
  have Br2 := hide (Br1.out.setCell (p := ⟨rb, 2, none⟩) HBrb.out (.bool true))
  generalize wr1.setCell ⟨rb, 2, none⟩ (.bool true) = wr2 at *
  have Hr3 := hide (show (wr2.setCell ⟨rb, 3, none⟩ (.int .i64 xc)).heap[rb]? = some (.cells #[.int .i64 keep, .int .i64 next, .bool true, .int .i64 xc, .int .i64 0, .int .i64 0, .int .i64 0, .int .i64 0, .int .i64 0, .slice none 0 0] 32 (0, 0)) from block_setCell Hr2.out 3 (.int .i64 xc))
  have Br3 := hide (Br2.out.setCell (p := ⟨rb, 3, none⟩) HBrb.out (.int .i64 xc))
  generalize wr2.setCell ⟨rb, 3, none⟩ (.int .i64 xc) = wr3 at *
  have Hr4 := hide (show (wr3.setCell ⟨rb, 4, none⟩ (.int .i64 xs)).heap[rb]? = some (.cells #[.int .i64 keep, .int .i64 next, .bool true, .int .i64 xc, .int .i64 xs, .int .i64 0, .int .i64 0, .int .i64 0, .int .i64 0, .slice none 0 0] 32 (0, 0)) from block_setCell Hr3.out 4 (.int .i64 xs))
  have Br4 := hide (Br3.out.setCell (p := ⟨rb, 4, none⟩) HBrb.out (.int .i64 xs))
  generalize wr3.setCell ⟨rb, 4, none⟩ (.int .i64 xs) = wr4 at *
  have Hr5 := hide (show (wr4.setCell ⟨rb, 5, none⟩ (.int .i64 xv)).heap[rb]? = some (.cells #[.int .i64 keep, .int .i64 next, .bool true, .int .i64 xc, .int .i64 xs, .int .i64 xv, .int .i64 0, .int .i64 0, .int .i64 0, .slice none 0 0] 32 (0, 0)) from block_setCell Hr4.out 5 (.int .i64 xv))
  have Br5 := hide (Br4.out.setCell (p := ⟨rb, 5, none⟩) HBrb.out (.int .i64 xv))
  generalize wr4.setCell ⟨rb, 5, none⟩ (.int .i64 xv) = wr5 at *
  have Hr6 := hide (show (wr5.setCell ⟨rb, 6, none⟩ (.int .i64 xr)).heap[rb]? = some (.cells #[.int .i64 keep, .int .i64 next, .bool true, .int .i64 xc, .int .i64 xs, .int .i64 xv, .int .i64 xr, .int .i64 0, .int .i64 0, .slice none 0 0] 32 (0, 0)) from block_setCell Hr5.out 6 (.int .i64 xr))
  have Br6 := hide (Br5.out.setCell (p := ⟨rb, 6, none⟩) HBrb.out (.int .i64 xr))
  generalize wr5.setCell ⟨rb, 6, none⟩ (.int .i64 xr) = wr6 at *
  have Hr7 := hide (show (wr6.setCell ⟨rb, 7, none⟩ (.int .i64 xi)).heap[rb]? = some (.cells #[.int .i64 keep, .int .i64 next, .bool true, .int .i64 xc, .int .i64 xs, .int .i64 xv, .int .i64 xr, .int .i64 xi, .int .i64 0, .slice none 0 0] 32 (0, 0)) from block_setCell Hr6.out 7 (.int .i64 xi))
  have Br7 := hide (Br6.out.setCell (p := ⟨rb, 7, none⟩) HBrb.out (.int .i64 xi))
  generalize wr6.setCell ⟨rb, 7, none⟩ (.int .i64 xi) = wr7 at *
  have Hr8 := hide (show (wr7.setCell ⟨rb, 8, none⟩ (.int .i64 xo)).heap[rb]? = some (.cells #[.int .i64 keep, .int .i64 next, .bool true, .int .i64 xc, .int .i64 xs, .int .i64 xv, .int .i64 xr, .int .i64 xi, .int .i64 xo, .slice none 0 0] 32 (0, 0)) from block_setCell Hr7.out 8 (.int .i64 xo))
  have Br8 := hide (Br7.out.setCell (p := ⟨rb, 8, none⟩) HBrb.out (.int .i64 xo))
  generalize wr7.setCell ⟨rb, 8, none⟩ (.int .i64 xo) = wr8 at *
  have Hr9 := hide (show (wr8.setCell ⟨rb, 9, none⟩ (.slice a L.length cp)).heap[rb]? = some (.cells #[.int .i64 keep, .int .i64 next, .bool true, .int .i64 xc, .int .i64 xs, .int .i64 xv, .int .i64 xr, .int .i64 xi, .int .i64 xo, .slice a L.length cp] 32 (0, 0)) from block_setCell Hr8.out 9 (.slice a L.length cp))
  have Br9 := hide (Br8.out.setCell (p := ⟨rb, 9, none⟩) HBrb.out (.slice a L.length cp))
  generalize wr8.setCell ⟨rb, 9, none⟩ (.slice a L.length cp) = wr9 at *
  (try simp only [Exit.inBlock, Exit.then])
  refine bodyPost_ret (res_ct (P := Try.prog) rfl _ wr9 rb 32 #[.int .i64 keep, .int .i64 next, .bool true, .int .i64 xc, .int .i64 xs, .int .i64 xv, .int .i64 xr, .int .i64 xi, .int .i64 xo, .slice a L.length cp] (0, 0) _ rfl Hr9.out Try.underlying32 rfl (by kernel_rfl)) rfl ?_
  exact ⟨rfl, Br9.out⟩

set_option maxRecDepth 100000 in
set_option maxHeartbeats 4000000 in
theorem rsover_5 (keep next xc xs xv xr xi xo : Int) (a : Option Addr) (L : List TotM) (cp : Nat) (am : Int) (h0 : 0 ≤ am) (hc : 0 ≤ xc ∧ xc < 4294967295) (hs : inR xo) (ham : inR am) (hx : ¬ inR (xo + am)) (w : World) :
    Calls Try.prog 15 #[.agg #[.int .i64 keep, .int .i64 next, .bool true, .int .i64 xc, .int .i64 xs, .int .i64 xv, .int .i64 xr, .int .i64 xi, .int .i64 xo, .slice a L.length cp], .int .u8 5, .int .i64 am] w fun e w' => e = .returned (.tuple #[.agg #[.int .i64 keep, .int .i64 next, .bool true, .int .i64 xc, .int .i64 xs, .int .i64 xv, .int .i64 xr, .int .i64 xi, .int .i64 xo, .slice a L.length cp], .int .i64 6]) ∧ Below w.heap.size w w' := by
  have HAD := hide (fun W => radd_any xo am hs ham W)
  rw [(sum_out hx).1, (sum_out hx).2] at HAD
  clear hx hs ham
  have hc2 : ¬ 4294967295 ≤ xc := by omega
  have ham0 : ¬ am < 0 := by omega
  clear hc
  go_enter Try.func15, Try.ntmps15
  go_upto_region 8 with (fail)
  obtain ⟨w3, hw3⟩ : ∃ w3, w3 = ((w.alloc (.cells #[.int .i64 keep, .int .i64 next, .bool true, .int .i64 xc, .int .i64 xs, .int .i64 xv, .int .i64 xr, .int .i64 xi, .int .i64 xo, .slice a L.length cp] 32)).alloc (.cells #[.int .i64 0, .int .i64 0, .bool false, .int .i64 0, .int .i64 0, .int .i64 0, .int .i64 0, .int .i64 0, .int .i64 0, .slice none 0 0] 32)).alloc (.cells #[.int .i64 xc, .int .i64 xs, .int .i64 xv, .int .i64 xr, .int .i64 xi, .int .i64 xo] 29) := ⟨_, rfl⟩
  rw [← hw3]
  have XB := hide (show w3.heap[w.heap.size]? = some (.cells #[.int .i64 keep, .int .i64 next, .bool true, .int .i64 xc, .int .i64 xs, .int .i64 xv, .int .i64 xr, .int .i64 xi, .int .i64 xo, .slice a L.length cp] 32 (0, 0)) by rw [hw3, heap_old _ _ _ (by simp; omega), heap_old _ _ _ (by simp), heap_new])
  have XR := hide (show w3.heap[(w.heap.size + 1)]? = some (.cells #[.int .i64 0, .int .i64 0, .bool false, .int .i64 0, .int .i64 0, .int .i64 0, .int .i64 0, .int .i64 0, .int .i64 0, .slice none 0 0] 32 (0, 0)) by rw [hw3, heap_old _ _ _ (by simp)]; exact heap_alloc2_new w _ _)
  have XT := hide (show w3.heap[(w.heap.size + 1 + 1)]? = some (.cells #[.int .i64 xc, .int .i64 xs, .int .i64 xv, .int .i64 xr, .int .i64 xi, .int .i64 xo] 29 (0, 0)) by rw [hw3]; exact heap_alloc3_new w _ _ _)
  have BB := hide (show Below w.heap.size w w3 by rw [hw3]; exact (((Below.refl w.heap.size w).alloc (Nat.le_refl _) _).alloc (by simp) _).alloc (by simp; omega) _)
  clear hw3
  obtain ⟨bb, hbb⟩ : ∃ k, w.heap.size = k := ⟨_, rfl⟩
  obtain ⟨rb, hrb⟩ : ∃ k, bb + 1 = k := ⟨_, rfl⟩
  obtain ⟨tb, htb⟩ : ∃ k, rb + 1 = k := ⟨_, rfl⟩
  rw [hbb] at XB XR XT ⊢
  rw [hrb] at XR XT ⊢
  rw [htb] at XT ⊢
  have HBbb := hide (show w.heap.size ≤ bb by omega)
  have HBrb := hide (show w.heap.size ≤ rb by omega)
  have HBtb := hide (show w.heap.size ≤ tb by omega)
  have HNE := hide (show bb ≠ rb ∧ bb ≠ tb ∧ rb ≠ tb by omega)
  have HBB := hide hbb
  clear hbb hrb htb
  obtain ⟨⟨g0, g1, g2, g3, g4, g5⟩, ⟨q0, q1, q2, q3, q4, q5⟩⟩ := six_facts XT.out
  go_wp2_with fail
  refine (HAD.out _).mono ?_
  rintro e w4 ⟨rfl, hb⟩
  have XB4 := hide ((hb.block _ (heap_lt XB.out)).trans XB.out)
  have XR4 := hide ((hb.block _ (heap_lt XR.out)).trans XR.out)
  have XT4 := hide ((hb.block _ (heap_lt XT.out)).trans XT.out)
  have BB4 := hide (BB.out.trans (hb.mono (Nat.le_trans HBbb.out (Nat.le_of_lt (heap_lt XB.out)))))
  clear g0 g1 g2 g3 g4 g5 q0 q1 q2 q3 q4 q5
  clear hb XB XR XT BB
  obtain ⟨⟨c0, c1, c2, c3, c4, c5, c6, c7, c8, c9⟩, ⟨f0, f1, f2, f3, f4, f5, f6, f7, f8, f9⟩⟩ := sh_facts XB4.out
  obtain ⟨⟨d0, d1, d2, d3, d4, d5, d6, d7, d8, d9⟩, ⟨e0, e1, e2, e3, e4, e5, e6, e7, e8, e9⟩⟩ := sh_facts XR4.out
  go_wp2_with fail
  clear c0 c1 c2 c3 c4 c5 c6 c7 c8 c9 f0 f1 f2 f3 f4 f5 f6 f7 f8 f9
  clear d0 d1 d2 d3 d4 d5 d6 d7 d8 d9 e0 e1 e2 e3 e4 e5 e6 e7 e8 e9
  have Hr0 := hide (show (w4.setCell ⟨rb, 0, none⟩ (.int .i64 keep)).heap[rb]? = some (.cells #[.int .i64 keep, .int .i64 0, .bool false, .int .i64 0, .int .i64 0, .int .i64 0, .int .i64 0, .int .i64 0, .int .i64 0, .slice none 0 0] 32 (0, 0)) from block_setCell XR4.out 0 (.int .i64 keep))
  have Br0 := hide (BB4.out.setCell (p := ⟨rb, 0, none⟩) HBrb.out (.int .i64 keep))
  generalize w4.setCell ⟨rb, 0, none⟩ (.int .i64 keep) = wr0 at *
  have Hr1 := hide (show (wr0.setCell ⟨rb, 1, none⟩ (.int .i64 next)).heap[rb]? = some (.cells #[.int .i64 keep, .int .i64 next, .bool false, .int .i64 0, .int .i64 0, .int .i64 0, .int .i64 0, .int .i64 0, .int .i64 0, .slice none 0 0] 32 (0, 0)) from block_setCell Hr0.out 1 (.int .i64 next))
  have Br1 := hide (Br0.out.setCell (p := ⟨rb, 1, none⟩) HBrb.out (.int .i64 next))
  generalize wr0.setCell ⟨rb, 1, none⟩ (.int .i64 next) = wr1 at *
  have Hr2 := hide (show (wr1.setCell ⟨rb, 2, none⟩ (.bool true)).heap[rb]? = some (.cells #[.int .i64 keep, .int .i64 next, .bool true, .int .i64 0, .int .i64 0, .int .i64 0, .int .i64 0, .int .i64 0, .int .i64 0, .slice none 0 0] 32 (0, 0)) from block_setCell Hr1.out 2 (.bool true))
  have Br2 := hide (Br1.out.setCell (p := ⟨rb, 2, none⟩) HBrb.out (.bool true))
  generalize wr1.setCell ⟨rb, 2, none⟩ (.bool true) = wr2 at *
  have Hr3 := hide (show (wr2.setCell ⟨rb, 3, none⟩ (.int .i64 xc)).heap[rb]? = some (.cells #[.int .i64 keep, .int .i64 next, .bool true, .int .i64 xc, .int .i64 0, .int .i64 0, .int .i64 0, .int .i64 0, .int .i64 0, .slice none 0 0] 32 (0, 0)) from block_setCell Hr2.out 3 (.int .i64 xc))
  have Br3 := hide (Br2.out.setCell (p := ⟨rb, 3, none⟩) HBrb.out (.int .i64 xc))
  generalize wr2.setCell ⟨rb, 3, none⟩ (.int .i64 xc) = wr3 at *
  have Hr4 := hide (show (wr3.setCell ⟨rb, 4, none⟩ (.int .i64 xs)).heap[rb]? = some (.cells #[.int .i64 keep, .int .i64 next, .bool true, .int .i64 xc, .int .i64 xs, .int .i64 0, .int .i64 0, .int .i64 0, .int .i64 0, .slice none 0 0] 32 (0, 0)) from block_setCell Hr3.out 4 (.int .i64 xs))
  have Br4 := hide (Br3.out.setCell (p := ⟨rb, 4, none⟩) HBrb.out (.int .i64 xs))
  generalize wr3.setCell ⟨rb, 4, none⟩ (.int .i64 xs) = wr4 at *
  have Hr5 := hide (show (wr4.setCell ⟨rb, 5, none⟩ (.int .i64 xv)).heap[rb]? = some (.cells #[.int .i64 keep, .int .i64 next, .bool true, .int .i64 xc, .int .i64 xs, .int .i64 xv, .int .i64 0, .int .i64 0, .int .i64 0, .slice none 0 0] 32 (0, 0)) from block_setCell Hr4.out 5 (.int .i64 xv))
  have Br5 := hide (Br4.out.setCell (p := ⟨rb, 5, none⟩) HBrb.out (.int .i64 xv))
  generalize wr4.setCell ⟨rb, 5, none⟩ (.int .i64 xv) = wr5 at *
  have Hr6 := hide (show (wr5.setCell ⟨rb, 6, none⟩ (.int .i64 xr)).heap[rb]? = some (.cells #[.int .i64 keep, .int .i64 next, .bool true, .int .i64 xc, .int .i64 xs, .int .i64 xv, .int .i64 xr, .int .i64 0, .int .i64 0, .slice none 0 0] 32 (0, 0)) from block_setCell Hr5.out 6 (.int .i64 xr))
  have Br6 := hide (Br5.out.setCell (p := ⟨rb, 6, none⟩) HBrb.out (.int .i64 xr))
  generalize wr5.setCell ⟨rb, 6, none⟩ (.int .i64 xr) = wr6 at *
  have Hr7 := hide (show (wr6.setCell ⟨rb, 7, none⟩ (.int .i64 xi)).heap[rb]? = some (.cells #[.int .i64 keep, .int .i64 next, .bool true, .int .i64 xc, .int .i64 xs, .int .i64 xv, .int .i64 xr, .int .i64 xi, .int .i64 0, .slice none 0 0] 32 (0, 0)) from block_setCell Hr6.out 7 (.int .i64 xi))
  have Br7 := hide (Br6.out.setCell (p := ⟨rb, 7, none⟩) HBrb.out (.int .i64 xi))
  generalize wr6.setCell ⟨rb, 7, none⟩ (.int .i64 xi) = wr7 at *
  have Hr8 := hide (show (wr7.setCell ⟨rb, 8, none⟩ (.int .i64 xo)).heap[rb]? = some (.cells #[.int .i64 keep, .int .i64 next, .bool true, .int .i64 xc, .int .i64 xs, .int .i64 xv, .int .i64 xr, .int .i64 xi, .int .i64 xo, .slice none 0 0] 32 (0, 0)) from block_setCell Hr7.out 8 (.int .i64 xo))
  have Br8 := hide (Br7.out.setCell (p := ⟨rb, 8, none⟩) HBrb.out (.int .i64 xo))
  generalize wr7.setCell ⟨rb, 8, none⟩ (.int .i64 xo) = wr8 at *
  have Hr9 := hide (show (wr8.setCell ⟨rb, 9, none⟩ (.slice a L.length cp)).heap[rb]? = some (.cells #[.int .i64 keep, .int .i64 next, .bool true, .int .i64 xc, .int .i64 xs, .int .i64 xv, .int .i64 xr, .int .i64 xi, .int .i64 xo, .slice a L.length cp] 32 (0, 0)) from block_setCell Hr8.out 9 (.slice a L.length cp))
  have Br9 := hide (Br8.out.setCell (p := ⟨rb, 9, none⟩) HBrb.out (.slice a L.length cp))
  generalize wr8.setCell ⟨rb, 9, none⟩ (.slice a L.length cp) = wr9 at *
  (try simp only [Exit.inBlock, Exit.then])
  refine bodyPost_ret (res_ct (P := Try.prog) rfl _ wr9 rb 32 #[.int .i64 keep, .int .i64 next, .bool true, .int .i64 xc, .int .i64 xs, .int .i64 xv, .int .i64 xr, .int .i64 xi, .int .i64 xo, .slice a L.length cp] (0, 0) _ rfl Hr9.out Try.underlying32 rfl (by kernel_rfl)) rfl ?_
  exact ⟨rfl, Br9.out⟩

def RAddIsS (M : ShM) (k am : Int) (nw : TotM) (a : Option Addr) (cp : Nat) (w : World) (e : Ending) (w' : World) : Prop := ∃ nw', e = .returned (.tuple #[rsV (shAddM M k am) nw' a cp, .int .i64 (shAddE M k am)]) ∧ RsIs w' (shAddM M k am) nw' a cp ∧ Below w.heap.size w w'
theorem rsadd_no {M : ShM} {k am : Int} {nw : TotM} {a : Option Addr} {cp : Nat} {w w' : World} {er : Int} (h : RsIs w' M nw a cp) (hE : shAddE M k am = er) (h0 : er ≠ 0) (hb : Below w.heap.size w w') : RAddIsS M k am nw a cp w (.returned (.tuple #[rsV M nw a cp, .int .i64 er])) w' := by
  have hm : shAddM M k am = M := by unfold shAddM; rw [hE, if_neg h0]
  refine ⟨nw, ?_, hm.symm ▸ h, hb⟩
  rw [hm, hE]
theorem rsadd_fin {M : ShM} {k am : Int} {nw : TotM} {a : Option Addr} {cp : Nat} {w w' : World} (h : RsIs w M nw a cp) (hE : shAddE M k am = 0) (hb : Below w.heap.size w w') {v : Value} (hv : v = rsV { M with now := shAddT M.now k am } (shAddT M.now k am) a cp) : RAddIsS M k am nw a cp w (.returned (.tuple #[v, .int .i64 0])) w' := by
  have hm : shAddM M k am = { M with now := shAddT M.now k am } := by unfold shAddM; rw [hE, if_pos rfl]
  refine ⟨shAddT M.now k am, ?_, ?_, hb⟩
  · rw [hm, hE, hv]
  · rw [hm]
    exact ⟨(h.below hb).row, fun _ => rfl⟩
set_option maxRecDepth 100000 in
set_option maxHeartbeats 2000000 in
theorem rsadd_any (k am : Int) (hk : 0 ≤ k ∧ k ≤ 255) (ham : inR am) (M : ShM) (nw : TotM) (a : Option Addr) (cp : Nat) (w : World) (hok : ShOk M) (hin : RsIs w M nw a cp) :
    Calls Try.prog 15 #[rsV M nw a cp, .int .u8 k, .int .i64 am] w (RAddIsS M k am nw a cp w) := by
  obtain ⟨keep, next, op, ⟨zc, zs, zv, zr, zi, zo⟩, L⟩ := M
  obtain ⟨xc, xs, xv, xr, xi, xo⟩ := nw
  have HIN := hide hin
  have HB := hide (fun (A B : Obj) => ((Below.refl w.heap.size w).alloc (Nat.le_refl _) A).alloc (show w.heap.size ≤ (w.alloc A).heap.size by simp) B)
  have hn0 : TotOk ⟨zc, zs, zv, zr, zi, zo⟩ := hok.now
  unfold rsV
  clear hin hok
  by_cases h1 : k < 1 ∨ 6 < k ∨ am < 0
  · have HE := hide (show shAddE ⟨keep, next, op, ⟨zc, zs, zv, zr, zi, zo⟩, L⟩ k am = 2 from by unfold shAddE; rw [if_pos h1])
    clear hn0
    by_cases k1 : k < 1
    · clear h1
      go_enter Try.func15, Try.ntmps15
      go_wp2_with fail
      (try simp only [Exit.inBlock, Exit.then])
      refine bodyPost_ret (res_ct (P := Try.prog) rfl _ _ (w.heap.size + 1) 32 #[.int .i64 keep, .int .i64 next, .bool op, .int .i64 xc, .int .i64 xs, .int .i64 xv, .int .i64 xr, .int .i64 xi, .int .i64 xo, .slice a L.length cp] (0, 0) _ rfl (by exact heap_alloc2_new w _ _) Try.underlying32 rfl (by kernel_rfl)) rfl ?_
      exact rsadd_no (HIN.out.below (HB.out (.cells #[.int .i64 keep, .int .i64 next, .bool op, .int .i64 xc, .int .i64 xs, .int .i64 xv, .int .i64 xr, .int .i64 xi, .int .i64 xo, .slice a L.length cp] 32) (.cells #[.int .i64 keep, .int .i64 next, .bool op, .int .i64 xc, .int .i64 xs, .int .i64 xv, .int .i64 xr, .int .i64 xi, .int .i64 xo, .slice a L.length cp] 32))) HE.out (by decide) (HB.out _ _)
    by_cases k2 : 6 < k
    · clear h1
      go_enter Try.func15, Try.ntmps15
      go_wp2_with fail
      (try simp only [Exit.inBlock, Exit.then])
      refine bodyPost_ret (res_ct (P := Try.prog) rfl _ _ (w.heap.size + 1) 32 #[.int .i64 keep, .int .i64 next, .bool op, .int .i64 xc, .int .i64 xs, .int .i64 xv, .int .i64 xr, .int .i64 xi, .int .i64 xo, .slice a L.length cp] (0, 0) _ rfl (by exact heap_alloc2_new w _ _) Try.underlying32 rfl (by kernel_rfl)) rfl ?_
      exact rsadd_no (HIN.out.below (HB.out (.cells #[.int .i64 keep, .int .i64 next, .bool op, .int .i64 xc, .int .i64 xs, .int .i64 xv, .int .i64 xr, .int .i64 xi, .int .i64 xo, .slice a L.length cp] 32) (.cells #[.int .i64 keep, .int .i64 next, .bool op, .int .i64 xc, .int .i64 xs, .int .i64 xv, .int .i64 xr, .int .i64 xi, .int .i64 xo, .slice a L.length cp] 32))) HE.out (by decide) (HB.out _ _)
    · have k3 : am < 0 := by omega
      clear h1
      go_enter Try.func15, Try.ntmps15
      go_wp2_with fail
      (try simp only [Exit.inBlock, Exit.then])
      refine bodyPost_ret (res_ct (P := Try.prog) rfl _ _ (w.heap.size + 1) 32 #[.int .i64 keep, .int .i64 next, .bool op, .int .i64 xc, .int .i64 xs, .int .i64 xv, .int .i64 xr, .int .i64 xi, .int .i64 xo, .slice a L.length cp] (0, 0) _ rfl (by exact heap_alloc2_new w _ _) Try.underlying32 rfl (by kernel_rfl)) rfl ?_
      exact rsadd_no (HIN.out.below (HB.out (.cells #[.int .i64 keep, .int .i64 next, .bool op, .int .i64 xc, .int .i64 xs, .int .i64 xv, .int .i64 xr, .int .i64 xi, .int .i64 xo, .slice a L.length cp] 32) (.cells #[.int .i64 keep, .int .i64 next, .bool op, .int .i64 xc, .int .i64 xs, .int .i64 xv, .int .i64 xr, .int .i64 xi, .int .i64 xo, .slice a L.length cp] 32))) HE.out (by decide) (HB.out _ _)
  · have hE1 : shAddE ⟨keep, next, op, ⟨zc, zs, zv, zr, zi, zo⟩, L⟩ k am = if op = false then 20 else if zc = 4294967295 then 6 else if k ≤ 5 ∧ 9223372036854775807 < shSum ⟨zc, zs, zv, zr, zi, zo⟩ k + am then 6 else 0 := by unfold shAddE; rw [if_neg h1]
    have k1 : ¬ k < 1 := by omega
    have k2 : ¬ 6 < k := by omega
    have k3 : ¬ am < 0 := by omega
    clear h1
    cases op with
    | false =>
      have HE := hide (hE1.trans (if_pos rfl))
      clear hn0 hE1
      go_enter Try.func15, Try.ntmps15
      go_wp2_with fail
      (try simp only [Exit.inBlock, Exit.then])
      refine bodyPost_ret (res_ct (P := Try.prog) rfl _ _ (w.heap.size + 1) 32 #[.int .i64 keep, .int .i64 next, .bool false, .int .i64 xc, .int .i64 xs, .int .i64 xv, .int .i64 xr, .int .i64 xi, .int .i64 xo, .slice a L.length cp] (0, 0) _ rfl (by exact heap_alloc2_new w _ _) Try.underlying32 rfl (by kernel_rfl)) rfl ?_
      exact rsadd_no (HIN.out.below (HB.out (.cells #[.int .i64 keep, .int .i64 next, .bool false, .int .i64 xc, .int .i64 xs, .int .i64 xv, .int .i64 xr, .int .i64 xi, .int .i64 xo, .slice a L.length cp] 32) (.cells #[.int .i64 keep, .int .i64 next, .bool false, .int .i64 xc, .int .i64 xs, .int .i64 xv, .int .i64 xr, .int .i64 xi, .int .i64 xo, .slice a L.length cp] 32))) HE.out (by decide) (HB.out _ _)
    | true =>
      rw [if_neg (by decide)] at hE1
      obtain ⟨rfl, rfl, rfl, rfl, rfl, rfl⟩ : xc = zc ∧ xs = zs ∧ xv = zv ∧ xr = zr ∧ xi = zi ∧ xo = zo := by
        have h5 : (⟨xc, xs, xv, xr, xi, xo⟩ : TotM) = ⟨zc, zs, zv, zr, zi, zo⟩ := HIN.out.now rfl
        simpa using h5
      have hn := hn0
      by_cases hc : xc = 4294967295
      · have HE := hide (hE1.trans (if_pos hc))
        have hcc : 4294967295 ≤ xc := by omega
        clear hn hE1 hc hn0
        go_enter Try.func15, Try.ntmps15
        go_wp2_with fail
        (try simp only [Exit.inBlock, Exit.then])
        refine bodyPost_ret (res_ct (P := Try.prog) rfl _ _ (w.heap.size + 1) 32 #[.int .i64 keep, .int .i64 next, .bool true, .int .i64 xc, .int .i64 xs, .int .i64 xv, .int .i64 xr, .int .i64 xi, .int .i64 xo, .slice a L.length cp] (0, 0) _ rfl (by exact heap_alloc2_new w _ _) Try.underlying32 rfl (by kernel_rfl)) rfl ?_
        exact rsadd_no (HIN.out.below (HB.out (.cells #[.int .i64 keep, .int .i64 next, .bool true, .int .i64 xc, .int .i64 xs, .int .i64 xv, .int .i64 xr, .int .i64 xi, .int .i64 xo, .slice a L.length cp] 32) (.cells #[.int .i64 keep, .int .i64 next, .bool true, .int .i64 xc, .int .i64 xs, .int .i64 xv, .int .i64 xr, .int .i64 xi, .int .i64 xo, .slice a L.length cp] 32))) HE.out (by decide) (HB.out _ _)
      rw [if_neg hc] at hE1
      have hc : 0 ≤ xc ∧ xc < 4294967295 := by have h5 : 0 ≤ xc ∧ xc ≤ 4294967295 := hn.c; omega
      have h0 : 0 ≤ am := by omega
      by_cases hov : k ≤ 5 ∧ 9223372036854775807 < shSum ⟨xc, xs, xv, xr, xi, xo⟩ k + am
      · have HE := hide (hE1.trans (if_pos hov))
        have hkk : k = 1 ∨ k = 2 ∨ k = 3 ∨ k = 4 ∨ k = 5 := by omega
        clear hE1
        rcases hkk with rfl | rfl | rfl | rfl | rfl
        · have hxx : ¬ inR (xs + am) := by have := hov.2; unfold shSum at this; simp at this; unfold inR; omega
          refine (rsover_1 keep next xc xs xv xr xi xo a L cp am h0 hc (okR hn.s) ham hxx w).mono ?_
          rintro e w' ⟨rfl, hb⟩
          exact rsadd_no (HIN.out.below hb) HE.out (by decide) hb
        · have hxx : ¬ inR (xv + am) := by have := hov.2; unfold shSum at this; simp at this; unfold inR; omega
          refine (rsover_2 keep next xc xs xv xr xi xo a L cp am h0 hc (okR hn.v) ham hxx w).mono ?_
          rintro e w' ⟨rfl, hb⟩
          exact rsadd_no (HIN.out.below hb) HE.out (by decide) hb
        · have hxx : ¬ inR (xr + am) := by have := hov.2; unfold shSum at this; simp at this; unfold inR; omega
          refine (rsover_3 keep next xc xs xv xr xi xo a L cp am h0 hc (okR hn.r) ham hxx w).mono ?_
          rintro e w' ⟨rfl, hb⟩
          exact rsadd_no (HIN.out.below hb) HE.out (by decide) hb
        · have hxx : ¬ inR (xi + am) := by have := hov.2; unfold shSum at this; simp at this; unfold inR; omega
          refine (rsover_4 keep next xc xs xv xr xi xo a L cp am h0 hc (okR hn.i) ham hxx w).mono ?_
          rintro e w' ⟨rfl, hb⟩
          exact rsadd_no (HIN.out.below hb) HE.out (by decide) hb
        · have hxx : ¬ inR (xo + am) := by have := hov.2; unfold shSum at this; simp at this; unfold inR; omega
          refine (rsover_5 keep next xc xs xv xr xi xo a L cp am h0 hc (okR hn.o) ham hxx w).mono ?_
          rintro e w' ⟨rfl, hb⟩
          exact rsadd_no (HIN.out.below hb) HE.out (by decide) hb
      have HE := hide (hE1.trans (if_neg hov))
      have hnv : k ≤ 5 → shSum ⟨xc, xs, xv, xr, xi, xo⟩ k + am ≤ 9223372036854775807 := fun h5 => by omega
      have hkk : k = 1 ∨ k = 2 ∨ k = 3 ∨ k = 4 ∨ k = 5 ∨ k = 6 := by omega
      have hsum : sumOk xs ∧ sumOk xv ∧ sumOk xr ∧ sumOk xi ∧ sumOk xo := ⟨hn.s, hn.v, hn.r, hn.i, hn.o⟩
      unfold sumOk at hsum
      clear hE1 hov
      rcases hkk with rfl | rfl | rfl | rfl | rfl | rfl
      · have hxx : inR (xs + am) := by have := hnv (by decide); unfold shSum at this; simp at this; unfold inR; omega
        refine (rsadd_1 keep next xc xs xv xr xi xo a L cp am h0 hc _ (okR hn.s) ham hxx rfl w).mono ?_
        rintro e w' ⟨rfl, hb⟩
        exact rsadd_fin HIN.out HE.out hb rfl
      · have hxx : inR (xv + am) := by have := hnv (by decide); unfold shSum at this; simp at this; unfold inR; omega
        refine (rsadd_2 keep next xc xs xv xr xi xo a L cp am h0 hc _ (okR hn.v) ham hxx rfl w).mono ?_
        rintro e w' ⟨rfl, hb⟩
        exact rsadd_fin HIN.out HE.out hb rfl
      · have hxx : inR (xr + am) := by have := hnv (by decide); unfold shSum at this; simp at this; unfold inR; omega
        refine (rsadd_3 keep next xc xs xv xr xi xo a L cp am h0 hc _ (okR hn.r) ham hxx rfl w).mono ?_
        rintro e w' ⟨rfl, hb⟩
        exact rsadd_fin HIN.out HE.out hb rfl
      · have hxx : inR (xi + am) := by have := hnv (by decide); unfold shSum at this; simp at this; unfold inR; omega
        refine (rsadd_4 keep next xc xs xv xr xi xo a L cp am h0 hc _ (okR hn.i) ham hxx rfl w).mono ?_
        rintro e w' ⟨rfl, hb⟩
        exact rsadd_fin HIN.out HE.out hb rfl
      · have hxx : inR (xo + am) := by have := hnv (by decide); unfold shSum at this; simp at this; unfold inR; omega
        refine (rsadd_5 keep next xc xs xv xr xi xo a L cp am h0 hc _ (okR hn.o) ham hxx rfl w).mono ?_
        rintro e w' ⟨rfl, hb⟩
        exact rsadd_fin HIN.out HE.out hb rfl
      · refine (rsadd_6 keep next xc xs xv xr xi xo a L cp am h0 hc w).mono ?_
        rintro e w' ⟨rfl, hb⟩
        exact rsadd_fin HIN.out HE.out hb rfl
end Go.Proofs.Ytfdgfeohmkdnoaa
