/-
  Layer 26: Totals of the only closed shift; wakes.
-/
import Derived.Test.YtnnggchkdffpnaaDoorShift2
--import Derived.Test.Zdbg
namespace Go.Proofs.YtnnggchkdffpnaaDoor
set_option linter.unusedSimpArgs false
set_option linter.unusedVariables false
open Go.RowKit Go.WideShapes Go.ChangeShapes Go.ChangeAt Go.Deep

theorem res_ct {P : Program} {fn : Func} {p u : Tmp} {ty : TypeId} (h : fn.results = #[.cell p ty, .tmp u]) (tmps : Array Value) (w : World) (g : Nat) (ty2 : TypeId) (cs : Array Value) (fr : Nat × Nat) (d : TypeDesc)
    (hp : tmps.getD p undef = .pointer (some ⟨g, 0, none⟩)) (hg : w.heap[g]? = some (.cells cs ty2 fr)) (hu : P.underlying ty = some d) (hd : (match d with | .struct _ | .array _ _ => true | _ => false) = true) (hi : (P.info? ty).map (·.size) = some cs.size) :
    (results fn tmps).run P w = .ok (.tuple #[.agg cs, tmps.getD u undef]) w := by
  have hp' : tmps[p]?.getD undef = .pointer (some ⟨g, 0, none⟩) := by simpa using hp
  simp [results, h, hp', asAddr, run_loadVar_row w g ty2 ty cs fr d hg hu hd hi]
theorem owns_six {w : World} {B g cap : Nat} {a0 a1 a2 a3 a4 a5 : Value} (h : w.ownsRow B 34 6 (.slice (some ⟨g, 0, none⟩) 1 cap) 1 [a0, a1, a2, a3, a4, a5]) :
    (w.cell? ⟨g, 0, none⟩ = some a0 ∧ w.cell? ⟨g, 1, none⟩ = some a1 ∧ w.cell? ⟨g, 2, none⟩ = some a2 ∧ w.cell? ⟨g, 3, none⟩ = some a3 ∧ w.cell? ⟨g, 4, none⟩ = some a4 ∧ w.cell? ⟨g, 5, none⟩ = some a5) ∧ 1 ≤ cap ∧ g < w.heap.size := by
  rcases h.2 with ⟨h1, -⟩ | ⟨g', cap', cur, hv, -, hh, h5, h6, hsz, htk⟩
  · cases h1
  · simp only [Value.slice.injEq, Option.some.injEq, Addr.mk.injEq] at hv
    obtain ⟨⟨rfl, -⟩, -, rfl⟩ := hv
    have hat : ∀ j, j < 6 → w.cell? ⟨g, j, none⟩ = [a0, a1, a2, a3, a4, a5][j]? := fun j hj => by
      rw [cell_of_block hh, ← Array.getElem?_toList, ← htk, List.getElem?_take_of_lt (by omega)]
    exact ⟨⟨hat 0 (by decide), hat 1 (by decide), hat 2 (by decide), hat 3 (by decide), hat 4 (by decide), hat 5 (by decide)⟩, h5, heap_lt hh⟩
set_option maxRecDepth 100000 in
set_option maxHeartbeats 1000000 in
theorem totals_ok (p g cap : Nat) (k : Int) (z0 z1 z2 z3 z4 z5 c s v r i o : Int) (w : World) (h : ShAt w p k 2 false z0 z1 z2 z3 z4 z5 (.slice (some ⟨g, 0, none⟩) 1 cap)) (B : Nat) (hO : w.ownsRow B 34 6 (.slice (some ⟨g, 0, none⟩) 1 cap) 1 [.int .i64 c, .int .i64 s, .int .i64 v, .int .i64 r, .int .i64 i, .int .i64 o]) :
    Calls Tryd.prog 11 #[.pointer (some ⟨p, 0, none⟩), .int .i64 1] w fun e w' => e = .returned (.tuple #[.agg (totA c s v r i o), .bool true]) ∧ Below w.heap.size w w' := by
  have hpl := heap_lt h
  have hgl := (owns_six hO).2.2
  have hal := (Below.refl w.heap.size w).alloc (Nat.le_refl _) (.cells #[.int .i64 0, .int .i64 0, .int .i64 0, .int .i64 0, .int .i64 0, .int .i64 0] 34)
  have XR := hide (heap_new w (.cells #[.int .i64 0, .int .i64 0, .int .i64 0, .int .i64 0, .int .i64 0, .int .i64 0] 34))
  have N := hide (h.below hal)
  obtain ⟨⟨y0, y1, y2, y3, y4, y5⟩, hcap, -⟩ := owns_six hO
  have Y0 := cell_keep y0 hgl hal
  have Y1 := cell_keep y1 hgl hal
  have Y2 := cell_keep y2 hgl hal
  have Y3 := cell_keep y3 hgl hal
  have Y4 := cell_keep y4 hgl hal
  have Y5 := cell_keep y5 hgl hal
  have BB := hide hal
  have hcI : (1 : Int) ≤ (cap : Int) := by omega
  have hw1 : IntKind.i64.wrap 1 = 1 := by rw [IntKind.wrap_i64]; omega
  have hw0 : IntKind.i64.wrap (1 - 1) = 0 := by rw [IntKind.wrap_i64]; omega
  have hw00 : IntKind.i64.wrap 0 = 0 := by rw [IntKind.wrap_i64]; omega
  clear h hO y0 y1 y2 y3 y4 y5 hal hpl hgl
  go_enter Tryd.func11, Tryd.ntmps11
  go_upto_region 1 with (fail)
  generalize w.alloc (.cells #[.int .i64 0, .int .i64 0, .int .i64 0, .int .i64 0, .int .i64 0, .int .i64 0] 34) = w1 at *
  generalize hrb : w.heap.size = rb at XR ⊢
  have HBrb := hide (show w.heap.size ≤ rb from by omega)
  clear hrb
  obtain ⟨⟨c0, c1, c2, c3, c4, c5, c6, c7, c8, c9⟩, -⟩ := sh_facts N.out
  go_upto_region 10 with (fail)
  go_still_tail 15, (by kernel_rfl)
  change wpList _ _ _ _ _ w1.drew
  clear c0 c1 c2 c3 c4 c5 c6 c7 c8 c9 Y0 Y1 Y2 Y3 Y4 Y5
  have XRZ := hide (show w1.drew.heap[rb]? = _ from XR.out)
  have BBZ := hide (show Below w.heap.size w w1.drew from BB.out.drew)
  clear N XR BB
  generalize w1.drew = wz at *
  obtain ⟨⟨g0, g1, g2, g3, g4, g5⟩, ⟨q0, q1, q2, q3, q4, q5⟩⟩ := six_facts XRZ.out
  go_wp2_with fail
  clear g0 g1 g2 g3 g4 g5 q0 q1 q2 q3 q4 q5
  have Hf0 := hide (show (wz.setCell ⟨rb, 0, none⟩ (.int .i64 c)).heap[rb]? = some (.cells #[.int .i64 c, .int .i64 0, .int .i64 0, .int .i64 0, .int .i64 0, .int .i64 0] 34 (0, 0)) from block_setCell XRZ.out 0 (.int .i64 c))
  have BBf0 := hide (BBZ.out.setCell (p := ⟨rb, 0, none⟩) HBrb.out (.int .i64 c))
  generalize wz.setCell ⟨rb, 0, none⟩ (.int .i64 c) = wf0 at *
  have Hf1 := hide (show (wf0.setCell ⟨rb, 1, none⟩ (.int .i64 s)).heap[rb]? = some (.cells #[.int .i64 c, .int .i64 s, .int .i64 0, .int .i64 0, .int .i64 0, .int .i64 0] 34 (0, 0)) from block_setCell Hf0.out 1 (.int .i64 s))
  have BBf1 := hide (BBf0.out.setCell (p := ⟨rb, 1, none⟩) HBrb.out (.int .i64 s))
  generalize wf0.setCell ⟨rb, 1, none⟩ (.int .i64 s) = wf1 at *
  have Hf2 := hide (show (wf1.setCell ⟨rb, 2, none⟩ (.int .i64 v)).heap[rb]? = some (.cells #[.int .i64 c, .int .i64 s, .int .i64 v, .int .i64 0, .int .i64 0, .int .i64 0] 34 (0, 0)) from block_setCell Hf1.out 2 (.int .i64 v))
  have BBf2 := hide (BBf1.out.setCell (p := ⟨rb, 2, none⟩) HBrb.out (.int .i64 v))
  generalize wf1.setCell ⟨rb, 2, none⟩ (.int .i64 v) = wf2 at *
  have Hf3 := hide (show (wf2.setCell ⟨rb, 3, none⟩ (.int .i64 r)).heap[rb]? = some (.cells #[.int .i64 c, .int .i64 s, .int .i64 v, .int .i64 r, .int .i64 0, .int .i64 0] 34 (0, 0)) from block_setCell Hf2.out 3 (.int .i64 r))
  have BBf3 := hide (BBf2.out.setCell (p := ⟨rb, 3, none⟩) HBrb.out (.int .i64 r))
  generalize wf2.setCell ⟨rb, 3, none⟩ (.int .i64 r) = wf3 at *
  have Hf4 := hide (show (wf3.setCell ⟨rb, 4, none⟩ (.int .i64 i)).heap[rb]? = some (.cells #[.int .i64 c, .int .i64 s, .int .i64 v, .int .i64 r, .int .i64 i, .int .i64 0] 34 (0, 0)) from block_setCell Hf3.out 4 (.int .i64 i))
  have BBf4 := hide (BBf3.out.setCell (p := ⟨rb, 4, none⟩) HBrb.out (.int .i64 i))
  generalize wf3.setCell ⟨rb, 4, none⟩ (.int .i64 i) = wf4 at *
  have Hf5 := hide (show (wf4.setCell ⟨rb, 5, none⟩ (.int .i64 o)).heap[rb]? = some (.cells #[.int .i64 c, .int .i64 s, .int .i64 v, .int .i64 r, .int .i64 i, .int .i64 o] 34 (0, 0)) from block_setCell Hf4.out 5 (.int .i64 o))
  have BBf5 := hide (BBf4.out.setCell (p := ⟨rb, 5, none⟩) HBrb.out (.int .i64 o))
  generalize wf4.setCell ⟨rb, 5, none⟩ (.int .i64 o) = wf5 at *
  (try simp only [Exit.inBlock, Exit.then])
  refine bodyPost_ret (res_ct (P := Tryd.prog) rfl _ wf5 rb 34 #[.int .i64 c, .int .i64 s, .int .i64 v, .int .i64 r, .int .i64 i, .int .i64 o] (0, 0) _ rfl Hf5.out Tryd.underlying34 rfl (by kernel_rfl)) rfl ?_
  exact ⟨rfl, BBf5.out⟩
theorem fieldsTot : fdesc (Tryd.prog.fieldsOf 34).toList = [("Count", 3, 0), ("Sales", 32, 1), ("Voids", 32, 2), ("Refunds", 32, 3), ("Ins", 32, 4), ("Out", 32, 5)] := by kernel_rfl
theorem eqF_six (a b c d e f a' b' c' d' e' f' : Int) (w : World) : (Op.equalIn 10000 34 (.agg (totA a b c d e f)) (.agg (totA a' b' c' d' e' f'))).run Tryd.prog w = .ok (a == a' && (b == b' && (c == c' && (d == d' && (e == e' && (f == f' && true)))))) w := by
  unfold totA
  rw [run_equalIn_agg w 9999 34 _ _ (by kernel_rfl) (by kernel_rfl)]
  exact eqF_cons w _ _ _ fieldsTot (by decide) (by kernel_rfl) (by kernel_rfl) (run_equalIn_int w 9998 3 .i64 .i64 _ _ Tryd.underlying3) fun l h =>
    eqF_cons w _ _ _ h (by decide) (by kernel_rfl) (by kernel_rfl) (run_equalIn_int w 9998 32 .i64 .i64 _ _ Tryd.underlying32) fun l h =>
    eqF_cons w _ _ _ h (by decide) (by kernel_rfl) (by kernel_rfl) (run_equalIn_int w 9998 32 .i64 .i64 _ _ Tryd.underlying32) fun l h =>
    eqF_cons w _ _ _ h (by decide) (by kernel_rfl) (by kernel_rfl) (run_equalIn_int w 9998 32 .i64 .i64 _ _ Tryd.underlying32) fun l h =>
    eqF_cons w _ _ _ h (by decide) (by kernel_rfl) (by kernel_rfl) (run_equalIn_int w 9998 32 .i64 .i64 _ _ Tryd.underlying32) fun l h =>
    eqF_cons w _ _ _ h (by decide) (by kernel_rfl) (by kernel_rfl) (run_equalIn_int w 9998 32 .i64 .i64 _ _ Tryd.underlying32) fun l h => eqF_nil w _ _ _ h
theorem eql_self (a b c d e f : Int) (w : World) : (binOp .eql 34 (.agg #[.int .i64 a, .int .i64 b, .int .i64 c, .int .i64 d, .int .i64 e, .int .i64 f]) (.agg #[.int .i64 a, .int .i64 b, .int .i64 c, .int .i64 d, .int .i64 e, .int .i64 f])).run Tryd.prog w = .ok (.bool true) w := by
  rw [run_eql_struct]
  have := eqF_six a b c d e f a b c d e f w
  unfold totA at this
  rw [this]
  simp
theorem guard_tot (x y : Operand) (a b : Array Value) (w : World) : (eqGuard .eql 34 x y (.agg a) (.agg b)).run Tryd.prog w = .ok () w := run_eqGuard_agg w .eql 34 x y a b (by kernel_rfl)
set_option maxRecDepth 100000 in
set_option maxHeartbeats 2000000 in
theorem wakes26 (w : World) : Calls Tryd.prog 5 #[] w fun e w' => e = .returned (.bool true) ∧ Below w.heap.size w w' := by
  have hguard := guard_tot
  have heql := eql_self
  go_enter Tryd.func5, Tryd.ntmps5
  go_wp2_with fail
  refine (snew_ok 2 (by decide) (by decide) w).mono ?_
  rintro e w1 ⟨rfl, hn, hb⟩
  have N1 := hide hn
  have B1 := hide hb
  clear hn hb
  generalize hp : w.heap.size = p at *
  have HP := hide (show w.heap.size ≤ p from by omega)
  go_wp2_with fail
  refine (start_ok p 2 1 (by decide) (by decide) 0 0 0 0 0 0 (.slice none 0 0) w1 N1.out p (Nat.le_refl _)).mono ?_
  rintro e w2 ⟨rfl, hn, hb⟩
  have N2 := hide hn
  have B2 := hide (B1.out.trans hb)
  clear hn hb N1 B1
  go_wp2_with fail
  refine (add1_ok p 2 (1 + 1) 0 0 0 0 0 0 (.slice none 0 0) 500 500 (by decide) (by decide) (by unfold inR; decide) (by unfold inR; decide) (by unfold inR; decide) (by decide) w2 N2.out p (Nat.le_refl _)).mono ?_
  rintro e w3 ⟨rfl, hn, hb⟩
  have N3 := hide hn
  have B3 := hide (B2.out.trans hb)
  clear hn hb N2 B2
  go_wp2_with fail
  refine (end_ok p 2 (1 + 1) (by decide) (by decide) (by decide) (0 + 1) 500 0 0 0 0 w3 N3.out p (Nat.le_refl _)).mono ?_
  rintro e w4 ⟨g, cap, rfl, hn, ho, hb⟩
  have N4 := hide hn
  have OW4 := hide ho
  have B4 := hide (B3.out.trans hb)
  clear hn ho hb N3 B3
  unfold totA
  go_wp2_with fail
  have hal := (Below.refl w4.heap.size w4).alloc (Nat.le_refl _) (.cells #[.int .i64 1, .int .i64 500, .int .i64 0, .int .i64 0, .int .i64 0, .int .i64 0] 34)
  have N5 := hide (show ShAt (w4.alloc (.cells #[.int .i64 1, .int .i64 500, .int .i64 0, .int .i64 0, .int .i64 0, .int .i64 0] 34)) p 2 2 false 0 0 0 0 0 0 (.slice (some ⟨g, 0, none⟩) 1 cap) from ((hal.block _ (heap_lt N4.out)).trans N4.out))
  have OW5 := hide (show World.ownsRow (w4.alloc (.cells #[.int .i64 1, .int .i64 500, .int .i64 0, .int .i64 0, .int .i64 0, .int .i64 0] 34)) p 34 6 (.slice (some ⟨g, 0, none⟩) 1 cap) 1 [.int .i64 1, .int .i64 500, .int .i64 0, .int .i64 0, .int .i64 0, .int .i64 0] from owns_below OW4.out hal)
  have X5 := hide (heap_new w4 (.cells #[.int .i64 1, .int .i64 500, .int .i64 0, .int .i64 0, .int .i64 0, .int .i64 0] 34))
  have B5 := hide (B4.out.trans (hal.mono (Nat.le_of_lt (heap_lt N4.out))))
  clear hal N4 OW4 B4
  generalize w4.alloc (.cells #[.int .i64 1, .int .i64 500, .int .i64 0, .int .i64 0, .int .i64 0, .int .i64 0] 34) = w5 at *
  generalize w4.heap.size = tb at *
  have HTT := totals_ok p g cap 2 0 0 0 0 0 0 1 500 0 0 0 0 w5 N5.out p OW5.out
  unfold totA at HTT
  refine HTT.mono ?_
  rintro e w6 ⟨rfl, hb⟩
  have N6 := hide (N5.out.below hb)
  have X6 := hide ((hb.block _ (heap_lt X5.out)).trans X5.out)
  have B6 := hide (B5.out.trans (hb.mono (Nat.le_of_lt (heap_lt N5.out))))
  clear hb N5 OW5 X5 B5 HTT
  have htl := heap_lt X6.out
  obtain ⟨⟨c0, c1, c2, c3, c4, c5⟩, -⟩ := six_facts X6.out
  go_wp2_with fail
  have hal := (Below.refl w6.heap.size w6).alloc (Nat.le_refl _) (.cells #[.int .i64 1, .int .i64 500, .int .i64 0, .int .i64 0, .int .i64 0, .int .i64 0] 34)
  have N7 := hide (N6.out.below hal)
  have B7 := hide (B6.out.trans (hal.mono (Nat.le_of_lt (heap_lt N6.out))))
  clear hal c0 c1 c2 c3 c4 c5 htl N6 B6 X6
  generalize w6.alloc (.cells #[.int .i64 1, .int .i64 500, .int .i64 0, .int .i64 0, .int .i64 0, .int .i64 0] 34) = w7 at *
  refine (open_any' p 2 2 (by decide) (by decide) false 0 0 0 0 0 0 _ w7 N7.out).mono ?_
  rintro e w8 ⟨rfl, rfl⟩
  go_wp2_with fail
  go_ret
  exact ⟨rfl, by rw [hp]; exact B7.out⟩
end Go.Proofs.YtnnggchkdffpnaaDoor
