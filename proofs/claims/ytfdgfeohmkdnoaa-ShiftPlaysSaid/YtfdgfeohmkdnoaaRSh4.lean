/-
  Layer 26: the document's shifts: End by contract.
-/
import Derived.Test.YtfdgfeohmkdnoaaRSh3
import Derived.Test.YtfdgfeohmkdnoaaShDel
import Derived.Test.YtfdgfeohmkdnoaaKitP
import Derived.Test.YtfdgfeohmkdnoaaShG4
--import Derived.Test.Zdbg
namespace Go.Proofs.Ytfdgfeohmkdnoaa
set_option linter.unusedSimpArgs false
set_option linter.unusedVariables false
open Go.RowKit Go.WideShapes Go.ChangeShapes Go.ChangeAt Go.Deep

theorem heap_alloc4_new (w : World) (A B C D : Obj) : ((((w.alloc A).alloc B).alloc C).alloc D).heap[w.heap.size + 1 + 1 + 1]? = some D := by
  have h := heap_new (((w.alloc A).alloc B).alloc C) D
  have e : (((w.alloc A).alloc B).alloc C).heap.size = w.heap.size + 1 + 1 + 1 := by simp
  rw [e] at h
  exact h
theorem res_ctct {P : Program} {fn : Func} {p u q t : Tmp} {ty ty' : TypeId} (h : fn.results = #[.cell p ty, .tmp u, .cell q ty', .tmp t]) (tmps : Array Value) (w : World) (g k : Nat) (ty2 ty3 : TypeId) (cs ds : Array Value) (d d' : TypeDesc)
    (hp : tmps.getD p undef = .pointer (some ⟨g, 0, none⟩)) (hq : tmps.getD q undef = .pointer (some ⟨k, 0, none⟩)) (hg : w.heap[g]? = some (.cells cs ty2 (0, 0))) (hk : w.heap[k]? = some (.cells ds ty3 (0, 0))) (hu : P.underlying ty = some d) (hu' : P.underlying ty' = some d') (hd : (match d with | .struct _ | .array _ _ => true | _ => false) = true) (hd' : (match d' with | .struct _ | .array _ _ => true | _ => false) = true) (hi : (P.info? ty).map (·.size) = some cs.size) (hi' : (P.info? ty').map (·.size) = some ds.size) :
    (results fn tmps).run P w = .ok (.tuple #[.agg cs, tmps.getD u undef, .agg ds, tmps.getD t undef]) w := by
  have hp' : tmps[p]?.getD undef = .pointer (some ⟨g, 0, none⟩) := by simpa using hp
  have hq' : tmps[q]?.getD undef = .pointer (some ⟨k, 0, none⟩) := by simpa using hq
  simp [results, h, hp', hq', asAddr, run_loadVar_row w g ty2 ty cs (0, 0) d hg hu hd hi, run_loadVar_row w k ty3 ty' ds (0, 0) d' hk hu' hd' hi']
def REndIs (M : ShM) (w : World) (e : Ending) (w' : World) : Prop := ∃ nw' a' cp', e = .returned (.tuple #[rsV (shEndM M) nw' a' cp', .int .i64 (shEndN M), totV (shEndT M), .int .i64 (shEndE M)]) ∧ RsIs w' (shEndM M) nw' a' cp' ∧ Below w.heap.size w w'
theorem rsend_no {keep next xc xs xv xr xi xo : Int} {z : TotM} {L : List TotM} {a : Option Addr} {cp : Nat} {w w' : World} (h : RsIs w' ⟨keep, next, false, z, L⟩ ⟨xc, xs, xv, xr, xi, xo⟩ a cp) (hb : Below w.heap.size w w') : REndIs ⟨keep, next, false, z, L⟩ w (.returned (.tuple #[.agg #[.int .i64 keep, .int .i64 next, .bool false, .int .i64 xc, .int .i64 xs, .int .i64 xv, .int .i64 xr, .int .i64 xi, .int .i64 xo, .slice a L.length cp], .int .i64 0, .agg #[.int .i64 0, .int .i64 0, .int .i64 0, .int .i64 0, .int .i64 0, .int .i64 0], .int .i64 20])) w' :=
  ⟨⟨xc, xs, xv, xr, xi, xo⟩, a, cp, rfl, h, hb⟩
set_option maxRecDepth 100000 in
set_option maxHeartbeats 4000000 in
theorem rsend_closed (keep next xc xs xv xr xi xo : Int) (z : TotM) (L : List TotM) (a : Option Addr) (cp : Nat) (w : World) (hin : RsIs w ⟨keep, next, false, z, L⟩ ⟨xc, xs, xv, xr, xi, xo⟩ a cp) :
    Calls Try.prog 13 #[.agg #[.int .i64 keep, .int .i64 next, .bool false, .int .i64 xc, .int .i64 xs, .int .i64 xv, .int .i64 xr, .int .i64 xi, .int .i64 xo, .slice a L.length cp]] w (REndIs ⟨keep, next, false, z, L⟩ w) := by
  have HIN := hide hin
  clear hin
  go_enter Try.func13, Try.ntmps13
  go_upto_region 3 with (fail)
  obtain ⟨w4, hw4⟩ : ∃ w4, w4 = (((w.alloc (.cells #[.int .i64 keep, .int .i64 next, .bool false, .int .i64 xc, .int .i64 xs, .int .i64 xv, .int .i64 xr, .int .i64 xi, .int .i64 xo, .slice a L.length cp] 32)).alloc (.cells #[.int .i64 0, .int .i64 0, .bool false, .int .i64 0, .int .i64 0, .int .i64 0, .int .i64 0, .int .i64 0, .int .i64 0, .slice none 0 0] 32)).alloc (.cells #[.int .i64 0, .int .i64 0, .int .i64 0, .int .i64 0, .int .i64 0, .int .i64 0] 29)).alloc (.cells #[.int .i64 0, .int .i64 0, .int .i64 0, .int .i64 0, .int .i64 0, .int .i64 0] 29) := ⟨_, rfl⟩
  rw [← hw4]
  have XB := hide (show w4.heap[w.heap.size]? = some (.cells #[.int .i64 keep, .int .i64 next, .bool false, .int .i64 xc, .int .i64 xs, .int .i64 xv, .int .i64 xr, .int .i64 xi, .int .i64 xo, .slice a L.length cp] 32 (0, 0)) by rw [hw4, heap_old _ _ _ (by simp <;> omega), heap_old _ _ _ (by simp <;> omega), heap_old _ _ _ (by simp), heap_new])
  have XR := hide (show w4.heap[(w.heap.size + 1)]? = some (.cells #[.int .i64 0, .int .i64 0, .bool false, .int .i64 0, .int .i64 0, .int .i64 0, .int .i64 0, .int .i64 0, .int .i64 0, .slice none 0 0] 32 (0, 0)) by rw [hw4, heap_old _ _ _ (by simp <;> omega), heap_old _ _ _ (by simp)]; exact heap_alloc2_new w _ _)
  have XT := hide (show w4.heap[(w.heap.size + 1 + 1)]? = some (.cells #[.int .i64 0, .int .i64 0, .int .i64 0, .int .i64 0, .int .i64 0, .int .i64 0] 29 (0, 0)) by rw [hw4, heap_old _ _ _ (by simp)]; exact heap_alloc3_new w _ _ _)
  have XN := hide (show w4.heap[(w.heap.size + 1 + 1 + 1)]? = some (.cells #[.int .i64 0, .int .i64 0, .int .i64 0, .int .i64 0, .int .i64 0, .int .i64 0] 29 (0, 0)) by rw [hw4]; exact heap_alloc4_new w _ _ _ _)
  have BB := hide (show Below w.heap.size w w4 by rw [hw4]; exact ((((Below.refl w.heap.size w).alloc (Nat.le_refl _) _).alloc (by simp) _).alloc (by simp <;> omega) _).alloc (by simp <;> omega) _)
  clear hw4
  obtain ⟨bb, hbb⟩ : ∃ k, w.heap.size = k := ⟨_, rfl⟩
  obtain ⟨rb, hrb⟩ : ∃ k, bb + 1 = k := ⟨_, rfl⟩
  obtain ⟨tb, htb⟩ : ∃ k, rb + 1 = k := ⟨_, rfl⟩
  obtain ⟨nn, hnn⟩ : ∃ k, tb + 1 = k := ⟨_, rfl⟩
  rw [hbb] at XB XR XT XN ⊢
  rw [hrb] at XR XT XN ⊢
  rw [htb] at XT XN ⊢
  rw [hnn] at XN ⊢
  have HBbb := hide (show w.heap.size ≤ bb by omega)
  have HBrb := hide (show w.heap.size ≤ rb by omega)
  have HBtb := hide (show w.heap.size ≤ tb by omega)
  have HNB := hide (show bb ≠ rb ∧ bb ≠ tb by omega)
  have HNR := hide (show rb ≠ tb ∧ rb ≠ nn by omega)
  have HNT := hide (show tb ≠ nn by omega)
  have HBB := hide hbb
  clear hbb hrb htb hnn
  have XB0 := hide (show w4.drew.heap[bb]? = _ from XB.out)
  have XR0 := hide (show w4.drew.heap[rb]? = _ from XR.out)
  have XT0 := hide (show w4.drew.heap[tb]? = _ from XT.out)
  have XN0 := hide (show w4.drew.heap[nn]? = _ from XN.out)
  have BB0 := hide BB.out.drew
  clear XB XR XT XN BB
  refine wp_region_held_drew (S := (fun W => W.heap[bb]? = some (.cells #[.int .i64 keep, .int .i64 next, .bool false, .int .i64 xc, .int .i64 xs, .int .i64 xv, .int .i64 xr, .int .i64 xi, .int .i64 xo, .slice a L.length cp] 32 (0, 0)) ∧ W.heap[nn]? = some (.cells #[.int .i64 0, .int .i64 0, .int .i64 0, .int .i64 0, .int .i64 0, .int .i64 0] 29 (0, 0)) ∧ W.heap[tb]? = some (.cells #[.int .i64 0, .int .i64 0, .int .i64 0, .int .i64 0, .int .i64 0, .int .i64 0] 29 (0, 0)))) (by kernel_rfl) (⟨XB0.out, XN0.out, XT0.out⟩) (fun hHeld => ?_)
  generalize w4.drew = u0 at *
  refine wpAnyH_take (i := 0) (oi := { dst := some 13, op := Op.load 32 (Operand.tmp 1), type := 32, pos := "ref.go:92", after := #[], guard := none }) (v := ?_) rfl (by kernel_rfl) (by kernel_rfl) (by kernel_rfl) (fun _ _ _ h => h) (Or.inl ⟨by kernel_rfl, ?_⟩) hHeld ?_
  rotate_left
  · (intro w hSw; (try dsimp only at hSw); have e0 := cell_of_block hSw.1 0; have e1 := cell_of_block hSw.1 1; have e2 := cell_of_block hSw.1 2; have e3 := cell_of_block hSw.1 3; have e4 := cell_of_block hSw.1 4; have e5 := cell_of_block hSw.1 5; have e6 := cell_of_block hSw.1 6; have e7 := cell_of_block hSw.1 7; have e8 := cell_of_block hSw.1 8; have e9 := cell_of_block hSw.1 9; have g0 := cell_of_block hSw.2.1 0; have g1 := cell_of_block hSw.2.1 1; have g2 := cell_of_block hSw.2.1 2; have g3 := cell_of_block hSw.2.1 3; have g4 := cell_of_block hSw.2.1 4; have g5 := cell_of_block hSw.2.1 5; go_simp); try with_reducible rfl
  try simp only [Act.put, List.setIfInBounds_toArray, List.set_cons_zero, List.set_cons_succ]
  refine wpAnyH_take (i := 1) (oi := { dst := some 14, op := Op.load 29 (Operand.tmp 6), type := 29, pos := "ref.go:92", after := #[{ on := 3, ground := Ground.gcOnly Departure.lateStores }], guard := none }) (v := ?_) rfl (by kernel_rfl) (by kernel_rfl) (by kernel_rfl) (fun _ _ _ h => h) (Or.inl ⟨by kernel_rfl, ?_⟩) hHeld ?_
  rotate_left
  · (intro w hSw; (try dsimp only at hSw); have e0 := cell_of_block hSw.1 0; have e1 := cell_of_block hSw.1 1; have e2 := cell_of_block hSw.1 2; have e3 := cell_of_block hSw.1 3; have e4 := cell_of_block hSw.1 4; have e5 := cell_of_block hSw.1 5; have e6 := cell_of_block hSw.1 6; have e7 := cell_of_block hSw.1 7; have e8 := cell_of_block hSw.1 8; have e9 := cell_of_block hSw.1 9; have g0 := cell_of_block hSw.2.1 0; have g1 := cell_of_block hSw.2.1 1; have g2 := cell_of_block hSw.2.1 2; have g3 := cell_of_block hSw.2.1 3; have g4 := cell_of_block hSw.2.1 4; have g5 := cell_of_block hSw.2.1 5; go_simp); try with_reducible rfl
  try simp only [Act.put, List.setIfInBounds_toArray, List.set_cons_zero, List.set_cons_succ]
  refine wpAnyH_ready (rs := [2]) (by kernel_rfl) (by simp) (AllReadyH.cons (o := { dst := none, op := Op.store 32 (Operand.tmp 2) (Operand.tmp 13), type := 0, pos := "ref.go:92", after := #[{ on := 0, ground := Ground.data }, { on := 0, ground := Ground.phase }, { on := 1, ground := Ground.textOnly Departure.lateStores }], guard := none }) rfl (fun K hK => ?_) AllReadyH.nil)
  have hOld := hide hHeld
  clear hHeld
  obtain ⟨⟨d0, d1, d2, d3, d4, d5, d6, d7, d8, d9⟩, ⟨e0, e1, e2, e3, e4, e5, e6, e7, e8, e9⟩⟩ := sh_facts XR0.out
  go_simp
  clear d0 d1 d2 d3 d4 d5 d6 d7 d8 d9 e0 e1 e2 e3 e4 e5 e6 e7 e8 e9
  have Hr0 := hide (show (u0.setCell ⟨rb, 0, none⟩ (.int .i64 keep)).heap[rb]? = some (.cells #[.int .i64 keep, .int .i64 0, .bool false, .int .i64 0, .int .i64 0, .int .i64 0, .int .i64 0, .int .i64 0, .int .i64 0, .slice none 0 0] 32 (0, 0)) from block_setCell XR0.out 0 (.int .i64 keep))
  have Br0 := hide (BB0.out.setCell (p := ⟨rb, 0, none⟩) HBrb.out (.int .i64 keep))
  have XBr0 := hide ((block_setCell_other HNB.out.1.symm 0 (.int .i64 keep)).trans XB0.out)
  have XTr0 := hide ((block_setCell_other HNR.out.1 0 (.int .i64 keep)).trans XT0.out)
  have XNr0 := hide ((block_setCell_other HNR.out.2 0 (.int .i64 keep)).trans XN0.out)
  generalize u0.setCell ⟨rb, 0, none⟩ (.int .i64 keep) = wr0 at *
  have Hr1 := hide (show (wr0.setCell ⟨rb, 1, none⟩ (.int .i64 next)).heap[rb]? = some (.cells #[.int .i64 keep, .int .i64 next, .bool false, .int .i64 0, .int .i64 0, .int .i64 0, .int .i64 0, .int .i64 0, .int .i64 0, .slice none 0 0] 32 (0, 0)) from block_setCell Hr0.out 1 (.int .i64 next))
  have Br1 := hide (Br0.out.setCell (p := ⟨rb, 1, none⟩) HBrb.out (.int .i64 next))
  have XBr1 := hide ((block_setCell_other HNB.out.1.symm 1 (.int .i64 next)).trans XBr0.out)
  have XTr1 := hide ((block_setCell_other HNR.out.1 1 (.int .i64 next)).trans XTr0.out)
  have XNr1 := hide ((block_setCell_other HNR.out.2 1 (.int .i64 next)).trans XNr0.out)
  generalize wr0.setCell ⟨rb, 1, none⟩ (.int .i64 next) = wr1 at *
  have Hr2 := hide (show (wr1.setCell ⟨rb, 2, none⟩ (.bool false)).heap[rb]? = some (.cells #[.int .i64 keep, .int .i64 next, .bool false, .int .i64 0, .int .i64 0, .int .i64 0, .int .i64 0, .int .i64 0, .int .i64 0, .slice none 0 0] 32 (0, 0)) from block_setCell Hr1.out 2 (.bool false))
  have Br2 := hide (Br1.out.setCell (p := ⟨rb, 2, none⟩) HBrb.out (.bool false))
  have XBr2 := hide ((block_setCell_other HNB.out.1.symm 2 (.bool false)).trans XBr1.out)
  have XTr2 := hide ((block_setCell_other HNR.out.1 2 (.bool false)).trans XTr1.out)
  have XNr2 := hide ((block_setCell_other HNR.out.2 2 (.bool false)).trans XNr1.out)
  generalize wr1.setCell ⟨rb, 2, none⟩ (.bool false) = wr2 at *
  have Hr3 := hide (show (wr2.setCell ⟨rb, 3, none⟩ (.int .i64 xc)).heap[rb]? = some (.cells #[.int .i64 keep, .int .i64 next, .bool false, .int .i64 xc, .int .i64 0, .int .i64 0, .int .i64 0, .int .i64 0, .int .i64 0, .slice none 0 0] 32 (0, 0)) from block_setCell Hr2.out 3 (.int .i64 xc))
  have Br3 := hide (Br2.out.setCell (p := ⟨rb, 3, none⟩) HBrb.out (.int .i64 xc))
  have XBr3 := hide ((block_setCell_other HNB.out.1.symm 3 (.int .i64 xc)).trans XBr2.out)
  have XTr3 := hide ((block_setCell_other HNR.out.1 3 (.int .i64 xc)).trans XTr2.out)
  have XNr3 := hide ((block_setCell_other HNR.out.2 3 (.int .i64 xc)).trans XNr2.out)
  generalize wr2.setCell ⟨rb, 3, none⟩ (.int .i64 xc) = wr3 at *
  have Hr4 := hide (show (wr3.setCell ⟨rb, 4, none⟩ (.int .i64 xs)).heap[rb]? = some (.cells #[.int .i64 keep, .int .i64 next, .bool false, .int .i64 xc, .int .i64 xs, .int .i64 0, .int .i64 0, .int .i64 0, .int .i64 0, .slice none 0 0] 32 (0, 0)) from block_setCell Hr3.out 4 (.int .i64 xs))
  have Br4 := hide (Br3.out.setCell (p := ⟨rb, 4, none⟩) HBrb.out (.int .i64 xs))
  have XBr4 := hide ((block_setCell_other HNB.out.1.symm 4 (.int .i64 xs)).trans XBr3.out)
  have XTr4 := hide ((block_setCell_other HNR.out.1 4 (.int .i64 xs)).trans XTr3.out)
  have XNr4 := hide ((block_setCell_other HNR.out.2 4 (.int .i64 xs)).trans XNr3.out)
  generalize wr3.setCell ⟨rb, 4, none⟩ (.int .i64 xs) = wr4 at *
  have Hr5 := hide (show (wr4.setCell ⟨rb, 5, none⟩ (.int .i64 xv)).heap[rb]? = some (.cells #[.int .i64 keep, .int .i64 next, .bool false, .int .i64 xc, .int .i64 xs, .int .i64 xv, .int .i64 0, .int .i64 0, .int .i64 0, .slice none 0 0] 32 (0, 0)) from block_setCell Hr4.out 5 (.int .i64 xv))
  have Br5 := hide (Br4.out.setCell (p := ⟨rb, 5, none⟩) HBrb.out (.int .i64 xv))
  have XBr5 := hide ((block_setCell_other HNB.out.1.symm 5 (.int .i64 xv)).trans XBr4.out)
  have XTr5 := hide ((block_setCell_other HNR.out.1 5 (.int .i64 xv)).trans XTr4.out)
  have XNr5 := hide ((block_setCell_other HNR.out.2 5 (.int .i64 xv)).trans XNr4.out)
  generalize wr4.setCell ⟨rb, 5, none⟩ (.int .i64 xv) = wr5 at *
  have Hr6 := hide (show (wr5.setCell ⟨rb, 6, none⟩ (.int .i64 xr)).heap[rb]? = some (.cells #[.int .i64 keep, .int .i64 next, .bool false, .int .i64 xc, .int .i64 xs, .int .i64 xv, .int .i64 xr, .int .i64 0, .int .i64 0, .slice none 0 0] 32 (0, 0)) from block_setCell Hr5.out 6 (.int .i64 xr))
  have Br6 := hide (Br5.out.setCell (p := ⟨rb, 6, none⟩) HBrb.out (.int .i64 xr))
  have XBr6 := hide ((block_setCell_other HNB.out.1.symm 6 (.int .i64 xr)).trans XBr5.out)
  have XTr6 := hide ((block_setCell_other HNR.out.1 6 (.int .i64 xr)).trans XTr5.out)
  have XNr6 := hide ((block_setCell_other HNR.out.2 6 (.int .i64 xr)).trans XNr5.out)
  generalize wr5.setCell ⟨rb, 6, none⟩ (.int .i64 xr) = wr6 at *
  have Hr7 := hide (show (wr6.setCell ⟨rb, 7, none⟩ (.int .i64 xi)).heap[rb]? = some (.cells #[.int .i64 keep, .int .i64 next, .bool false, .int .i64 xc, .int .i64 xs, .int .i64 xv, .int .i64 xr, .int .i64 xi, .int .i64 0, .slice none 0 0] 32 (0, 0)) from block_setCell Hr6.out 7 (.int .i64 xi))
  have Br7 := hide (Br6.out.setCell (p := ⟨rb, 7, none⟩) HBrb.out (.int .i64 xi))
  have XBr7 := hide ((block_setCell_other HNB.out.1.symm 7 (.int .i64 xi)).trans XBr6.out)
  have XTr7 := hide ((block_setCell_other HNR.out.1 7 (.int .i64 xi)).trans XTr6.out)
  have XNr7 := hide ((block_setCell_other HNR.out.2 7 (.int .i64 xi)).trans XNr6.out)
  generalize wr6.setCell ⟨rb, 7, none⟩ (.int .i64 xi) = wr7 at *
  have Hr8 := hide (show (wr7.setCell ⟨rb, 8, none⟩ (.int .i64 xo)).heap[rb]? = some (.cells #[.int .i64 keep, .int .i64 next, .bool false, .int .i64 xc, .int .i64 xs, .int .i64 xv, .int .i64 xr, .int .i64 xi, .int .i64 xo, .slice none 0 0] 32 (0, 0)) from block_setCell Hr7.out 8 (.int .i64 xo))
  have Br8 := hide (Br7.out.setCell (p := ⟨rb, 8, none⟩) HBrb.out (.int .i64 xo))
  have XBr8 := hide ((block_setCell_other HNB.out.1.symm 8 (.int .i64 xo)).trans XBr7.out)
  have XTr8 := hide ((block_setCell_other HNR.out.1 8 (.int .i64 xo)).trans XTr7.out)
  have XNr8 := hide ((block_setCell_other HNR.out.2 8 (.int .i64 xo)).trans XNr7.out)
  generalize wr7.setCell ⟨rb, 8, none⟩ (.int .i64 xo) = wr8 at *
  have Hr9 := hide (show (wr8.setCell ⟨rb, 9, none⟩ (.slice a L.length cp)).heap[rb]? = some (.cells #[.int .i64 keep, .int .i64 next, .bool false, .int .i64 xc, .int .i64 xs, .int .i64 xv, .int .i64 xr, .int .i64 xi, .int .i64 xo, .slice a L.length cp] 32 (0, 0)) from block_setCell Hr8.out 9 (.slice a L.length cp))
  have Br9 := hide (Br8.out.setCell (p := ⟨rb, 9, none⟩) HBrb.out (.slice a L.length cp))
  have XBr9 := hide ((block_setCell_other HNB.out.1.symm 9 (.slice a L.length cp)).trans XBr8.out)
  have XTr9 := hide ((block_setCell_other HNR.out.1 9 (.slice a L.length cp)).trans XTr8.out)
  have XNr9 := hide ((block_setCell_other HNR.out.2 9 (.slice a L.length cp)).trans XNr8.out)
  generalize wr8.setCell ⟨rb, 9, none⟩ (.slice a L.length cp) = wr9 at *
  refine hK.out _ _ (⟨XBr9.out, XNr9.out, XTr9.out⟩) (fun hHeld => ?_)
  clear hK K hOld
  try simp only [Act.put, List.setIfInBounds_toArray, List.set_cons_zero, List.set_cons_succ]
  refine wpAnyH_take (i := 3) (oi := { dst := some 3, op := Op.assign (Operand.const (Value.int IntKind.i64 0)), type := 3, pos := "ref.go:92", after := #[{ on := 2, ground := Ground.chain }, { on := 0, ground := Ground.phase }, { on := 1, ground := Ground.textOnly Departure.lateStores }, { on := 2, ground := Ground.phase }], guard := none }) (v := ?_) rfl (by kernel_rfl) (by kernel_rfl) (by kernel_rfl) (fun _ _ _ h => h) (Or.inl ⟨by kernel_rfl, ?_⟩) hHeld ?_
  rotate_left
  · (intro w hSw; (try dsimp only at hSw); have e0 := cell_of_block hSw.1 0; have e1 := cell_of_block hSw.1 1; have e2 := cell_of_block hSw.1 2; have e3 := cell_of_block hSw.1 3; have e4 := cell_of_block hSw.1 4; have e5 := cell_of_block hSw.1 5; have e6 := cell_of_block hSw.1 6; have e7 := cell_of_block hSw.1 7; have e8 := cell_of_block hSw.1 8; have e9 := cell_of_block hSw.1 9; have g0 := cell_of_block hSw.2.1 0; have g1 := cell_of_block hSw.2.1 1; have g2 := cell_of_block hSw.2.1 2; have g3 := cell_of_block hSw.2.1 3; have g4 := cell_of_block hSw.2.1 4; have g5 := cell_of_block hSw.2.1 5; go_simp); try with_reducible rfl
  try simp only [Act.put, List.setIfInBounds_toArray, List.set_cons_zero, List.set_cons_succ]
  refine wpAnyH_ready (rs := [4]) (by kernel_rfl) (by simp) (AllReadyH.cons (o := { dst := none, op := Op.store 29 (Operand.tmp 4) (Operand.tmp 14), type := 0, pos := "ref.go:92", after := #[{ on := 1, ground := Ground.data }, { on := 3, ground := Ground.chain }, { on := 0, ground := Ground.phase }, { on := 1, ground := Ground.phase }, { on := 2, ground := Ground.phase }, { on := 3, ground := Ground.phase }], guard := none }) rfl (fun K hK => ?_) AllReadyH.nil)
  have hOld := hide hHeld
  clear hHeld
  obtain ⟨⟨g0, g1, g2, g3, g4, g5⟩, ⟨q0, q1, q2, q3, q4, q5⟩⟩ := six_facts XTr9.out
  go_simp
  clear g0 g1 g2 g3 g4 g5 q0 q1 q2 q3 q4 q5
  have Ht0 := hide (show (wr9.setCell ⟨tb, 0, none⟩ (.int .i64 0)).heap[tb]? = some (.cells #[.int .i64 0, .int .i64 0, .int .i64 0, .int .i64 0, .int .i64 0, .int .i64 0] 29 (0, 0)) from block_setCell XTr9.out 0 (.int .i64 0))
  have Bt0 := hide (Br9.out.setCell (p := ⟨tb, 0, none⟩) HBtb.out (.int .i64 0))
  have XRt0 := hide ((block_setCell_other HNR.out.1.symm 0 (.int .i64 0)).trans Hr9.out)
  have XBt0 := hide ((block_setCell_other HNB.out.2.symm 0 (.int .i64 0)).trans XBr9.out)
  have XNt0 := hide ((block_setCell_other HNT.out 0 (.int .i64 0)).trans XNr9.out)
  generalize wr9.setCell ⟨tb, 0, none⟩ (.int .i64 0) = wt0 at *
  have Ht1 := hide (show (wt0.setCell ⟨tb, 1, none⟩ (.int .i64 0)).heap[tb]? = some (.cells #[.int .i64 0, .int .i64 0, .int .i64 0, .int .i64 0, .int .i64 0, .int .i64 0] 29 (0, 0)) from block_setCell Ht0.out 1 (.int .i64 0))
  have Bt1 := hide (Bt0.out.setCell (p := ⟨tb, 1, none⟩) HBtb.out (.int .i64 0))
  have XRt1 := hide ((block_setCell_other HNR.out.1.symm 1 (.int .i64 0)).trans XRt0.out)
  have XBt1 := hide ((block_setCell_other HNB.out.2.symm 1 (.int .i64 0)).trans XBt0.out)
  have XNt1 := hide ((block_setCell_other HNT.out 1 (.int .i64 0)).trans XNt0.out)
  generalize wt0.setCell ⟨tb, 1, none⟩ (.int .i64 0) = wt1 at *
  have Ht2 := hide (show (wt1.setCell ⟨tb, 2, none⟩ (.int .i64 0)).heap[tb]? = some (.cells #[.int .i64 0, .int .i64 0, .int .i64 0, .int .i64 0, .int .i64 0, .int .i64 0] 29 (0, 0)) from block_setCell Ht1.out 2 (.int .i64 0))
  have Bt2 := hide (Bt1.out.setCell (p := ⟨tb, 2, none⟩) HBtb.out (.int .i64 0))
  have XRt2 := hide ((block_setCell_other HNR.out.1.symm 2 (.int .i64 0)).trans XRt1.out)
  have XBt2 := hide ((block_setCell_other HNB.out.2.symm 2 (.int .i64 0)).trans XBt1.out)
  have XNt2 := hide ((block_setCell_other HNT.out 2 (.int .i64 0)).trans XNt1.out)
  generalize wt1.setCell ⟨tb, 2, none⟩ (.int .i64 0) = wt2 at *
  have Ht3 := hide (show (wt2.setCell ⟨tb, 3, none⟩ (.int .i64 0)).heap[tb]? = some (.cells #[.int .i64 0, .int .i64 0, .int .i64 0, .int .i64 0, .int .i64 0, .int .i64 0] 29 (0, 0)) from block_setCell Ht2.out 3 (.int .i64 0))
  have Bt3 := hide (Bt2.out.setCell (p := ⟨tb, 3, none⟩) HBtb.out (.int .i64 0))
  have XRt3 := hide ((block_setCell_other HNR.out.1.symm 3 (.int .i64 0)).trans XRt2.out)
  have XBt3 := hide ((block_setCell_other HNB.out.2.symm 3 (.int .i64 0)).trans XBt2.out)
  have XNt3 := hide ((block_setCell_other HNT.out 3 (.int .i64 0)).trans XNt2.out)
  generalize wt2.setCell ⟨tb, 3, none⟩ (.int .i64 0) = wt3 at *
  have Ht4 := hide (show (wt3.setCell ⟨tb, 4, none⟩ (.int .i64 0)).heap[tb]? = some (.cells #[.int .i64 0, .int .i64 0, .int .i64 0, .int .i64 0, .int .i64 0, .int .i64 0] 29 (0, 0)) from block_setCell Ht3.out 4 (.int .i64 0))
  have Bt4 := hide (Bt3.out.setCell (p := ⟨tb, 4, none⟩) HBtb.out (.int .i64 0))
  have XRt4 := hide ((block_setCell_other HNR.out.1.symm 4 (.int .i64 0)).trans XRt3.out)
  have XBt4 := hide ((block_setCell_other HNB.out.2.symm 4 (.int .i64 0)).trans XBt3.out)
  have XNt4 := hide ((block_setCell_other HNT.out 4 (.int .i64 0)).trans XNt3.out)
  generalize wt3.setCell ⟨tb, 4, none⟩ (.int .i64 0) = wt4 at *
  have Ht5 := hide (show (wt4.setCell ⟨tb, 5, none⟩ (.int .i64 0)).heap[tb]? = some (.cells #[.int .i64 0, .int .i64 0, .int .i64 0, .int .i64 0, .int .i64 0, .int .i64 0] 29 (0, 0)) from block_setCell Ht4.out 5 (.int .i64 0))
  have Bt5 := hide (Bt4.out.setCell (p := ⟨tb, 5, none⟩) HBtb.out (.int .i64 0))
  have XRt5 := hide ((block_setCell_other HNR.out.1.symm 5 (.int .i64 0)).trans XRt4.out)
  have XBt5 := hide ((block_setCell_other HNB.out.2.symm 5 (.int .i64 0)).trans XBt4.out)
  have XNt5 := hide ((block_setCell_other HNT.out 5 (.int .i64 0)).trans XNt4.out)
  generalize wt4.setCell ⟨tb, 5, none⟩ (.int .i64 0) = wt5 at *
  refine hK.out _ _ (⟨XBt5.out, XNt5.out, Ht5.out⟩) (fun hHeld => ?_)
  clear hK K hOld
  try simp only [Act.put, List.setIfInBounds_toArray, List.set_cons_zero, List.set_cons_succ]
  refine wpAnyH_take (i := 5) (oi := { dst := some 5, op := Op.assign (Operand.const (Value.int IntKind.i64 20)), type := 3, pos := "ref.go:92", after := #[{ on := 4, ground := Ground.chain }, { on := 0, ground := Ground.phase }, { on := 1, ground := Ground.phase }, { on := 2, ground := Ground.phase }, { on := 3, ground := Ground.phase }, { on := 4, ground := Ground.phase }], guard := none }) (v := ?_) rfl (by kernel_rfl) (by kernel_rfl) (by kernel_rfl) (fun _ _ _ h => h) (Or.inl ⟨by kernel_rfl, ?_⟩) hHeld ?_
  rotate_left
  · (intro w hSw; (try dsimp only at hSw); have e0 := cell_of_block hSw.1 0; have e1 := cell_of_block hSw.1 1; have e2 := cell_of_block hSw.1 2; have e3 := cell_of_block hSw.1 3; have e4 := cell_of_block hSw.1 4; have e5 := cell_of_block hSw.1 5; have e6 := cell_of_block hSw.1 6; have e7 := cell_of_block hSw.1 7; have e8 := cell_of_block hSw.1 8; have e9 := cell_of_block hSw.1 9; have g0 := cell_of_block hSw.2.1 0; have g1 := cell_of_block hSw.2.1 1; have g2 := cell_of_block hSw.2.1 2; have g3 := cell_of_block hSw.2.1 3; have g4 := cell_of_block hSw.2.1 4; have g5 := cell_of_block hSw.2.1 5; go_simp); try with_reducible rfl
  try simp only [Act.put, List.setIfInBounds_toArray, List.set_cons_zero, List.set_cons_succ]
  refine wpAnyH_done (by kernel_rfl) ?_ _
  clear hHeld
  go_wp2_with fail
  (try simp only [Exit.inBlock, Exit.then])
  refine bodyPost_ret (res_ctct (P := Try.prog) rfl _ wt5 rb tb 32 29 #[.int .i64 keep, .int .i64 next, .bool false, .int .i64 xc, .int .i64 xs, .int .i64 xv, .int .i64 xr, .int .i64 xi, .int .i64 xo, .slice a L.length cp] #[.int .i64 0, .int .i64 0, .int .i64 0, .int .i64 0, .int .i64 0, .int .i64 0] _ _ rfl rfl XRt5.out Ht5.out Try.underlying32 Try.underlying29 rfl rfl (by kernel_rfl) (by kernel_rfl)) rfl ?_
  exact rsend_no (HIN.out.below Bt5.out) Bt5.out
/-- the kept ones, as far as they are gone through -/
theorem drop_next (L : List TotM) (d k : Nat) (hd : d ≤ 1) (hk : k < L.length) (h : 0 < k ∨ d = 0) : (L.take (k + 1)).drop d = (L.take k).drop d ++ [L.getD k tot0] := by
  have e : L.take (k + 1) = L.take k ++ [L.getD k tot0] := by
    rw [List.take_add_one]
    simp [List.getD, hk]
  rw [e, List.drop_append_of_le_length (by rw [List.length_take]; omega)]
theorem drop_none (L : List TotM) : (L.take 1).drop 1 = (L.take 0).drop 1 := by
  cases L <;> rfl
set_option maxRecDepth 100000 in
set_option maxHeartbeats 8000000 in
theorem rsend_open (keep next xc xs xv xr xi xo : Int) (L : List TotM) (a : Option Addr) (cp : Nat) (w : World) (hok : ShOk ⟨keep, next, true, ⟨xc, xs, xv, xr, xi, xo⟩, L⟩) (hin : RsIs w ⟨keep, next, true, ⟨xc, xs, xv, xr, xi, xo⟩, L⟩ ⟨xc, xs, xv, xr, xi, xo⟩ a cp) :
    Calls Try.prog 13 #[.agg #[.int .i64 keep, .int .i64 next, .bool true, .int .i64 xc, .int .i64 xs, .int .i64 xv, .int .i64 xr, .int .i64 xi, .int .i64 xo, .slice a L.length cp]] w (REndIs ⟨keep, next, true, ⟨xc, xs, xv, xr, xi, xo⟩, L⟩ w) := by
  obtain ⟨i0, hi, hz0, hz1, hz2⟩ := info_parts (show (Try.prog.info? 29).map (fun i => (i.zero, i.size, i.bytes)) = some (some (.agg #[.int .i64 0, .int .i64 0, .int .i64 0, .int .i64 0, .int .i64 0, .int .i64 0]), 6, 48) by kernel_rfl)
  have HI := hide hi
  have HZ0 := hide hz0
  have HZ1 := hide hz1
  have HZ2 := hide hz2
  clear hi hz0 hz1 hz2
  have hkp : 1 ≤ keep ∧ keep ≤ 64 := hok.kp
  have hnx : 1 ≤ next ∧ next ≤ 4294967296 := hok.nx
  have hfew : (L.length : Int) ≤ keep := hok.few
  have hcI : (L.length : Int) ≤ (cp : Int) := by have h5 : L.length ≤ cp := hin.cap; omega
  have hwn : IntKind.i64.wrap (next - 1) = next - 1 := by rw [IntKind.wrap_i64]; omega
  obtain ⟨d, hd⟩ : ∃ d, L.length + 1 - keep.toNat = d := ⟨_, rfl⟩
  have hd1 : d ≤ 1 := by omega
  have hdl : d = 0 ↔ (L.length : Int) < keep := by omega
  have HEM := hide (show shEndM ⟨keep, next, true, ⟨xc, xs, xv, xr, xi, xo⟩, L⟩ = ⟨keep, next, false, tot0, (L ++ [TotM.mk xc xs xv xr xi xo]).drop d⟩ from by
    unfold shEndM
    dsimp only
    rw [if_pos rfl, hd])
  have HEN := hide (show shEndN ⟨keep, next, true, ⟨xc, xs, xv, xr, xi, xo⟩, L⟩ = next - 1 from by unfold shEndN; rw [if_pos rfl])
  have HIN := hide (show TsIn w a L from hin.ts)
  clear hin hok hd
  go_enter Try.func13, Try.ntmps13
  go_upto_region 4 with (fail)
  obtain ⟨w4, hw4⟩ : ∃ w4, w4 = (((w.alloc (.cells #[.int .i64 keep, .int .i64 next, .bool true, .int .i64 xc, .int .i64 xs, .int .i64 xv, .int .i64 xr, .int .i64 xi, .int .i64 xo, .slice a L.length cp] 32)).alloc (.cells #[.int .i64 0, .int .i64 0, .bool false, .int .i64 0, .int .i64 0, .int .i64 0, .int .i64 0, .int .i64 0, .int .i64 0, .slice none 0 0] 32)).alloc (.cells #[.int .i64 0, .int .i64 0, .int .i64 0, .int .i64 0, .int .i64 0, .int .i64 0] 29)).alloc (.cells #[.int .i64 0, .int .i64 0, .int .i64 0, .int .i64 0, .int .i64 0, .int .i64 0] 29) := ⟨_, rfl⟩
  rw [← hw4]
  have XB := hide (show w4.heap[w.heap.size]? = some (.cells #[.int .i64 keep, .int .i64 next, .bool true, .int .i64 xc, .int .i64 xs, .int .i64 xv, .int .i64 xr, .int .i64 xi, .int .i64 xo, .slice a L.length cp] 32 (0, 0)) by rw [hw4, heap_old _ _ _ (by simp <;> omega), heap_old _ _ _ (by simp <;> omega), heap_old _ _ _ (by simp), heap_new])
  have XR := hide (show w4.heap[(w.heap.size + 1)]? = some (.cells #[.int .i64 0, .int .i64 0, .bool false, .int .i64 0, .int .i64 0, .int .i64 0, .int .i64 0, .int .i64 0, .int .i64 0, .slice none 0 0] 32 (0, 0)) by rw [hw4, heap_old _ _ _ (by simp <;> omega), heap_old _ _ _ (by simp)]; exact heap_alloc2_new w _ _)
  have XT := hide (show w4.heap[(w.heap.size + 1 + 1)]? = some (.cells #[.int .i64 0, .int .i64 0, .int .i64 0, .int .i64 0, .int .i64 0, .int .i64 0] 29 (0, 0)) by rw [hw4, heap_old _ _ _ (by simp)]; exact heap_alloc3_new w _ _ _)
  have XN := hide (show w4.heap[(w.heap.size + 1 + 1 + 1)]? = some (.cells #[.int .i64 0, .int .i64 0, .int .i64 0, .int .i64 0, .int .i64 0, .int .i64 0] 29 (0, 0)) by rw [hw4]; exact heap_alloc4_new w _ _ _ _)
  have BB := hide (show Below w.heap.size w w4 by rw [hw4]; exact ((((Below.refl w.heap.size w).alloc (Nat.le_refl _) _).alloc (by simp) _).alloc (by simp <;> omega) _).alloc (by simp <;> omega) _)
  clear hw4
  obtain ⟨bb, hbb⟩ : ∃ k, w.heap.size = k := ⟨_, rfl⟩
  obtain ⟨rb, hrb⟩ : ∃ k, bb + 1 = k := ⟨_, rfl⟩
  obtain ⟨tb, htb⟩ : ∃ k, rb + 1 = k := ⟨_, rfl⟩
  obtain ⟨nn, hnn⟩ : ∃ k, tb + 1 = k := ⟨_, rfl⟩
  rw [hbb] at XB XR XT XN ⊢
  rw [hrb] at XR XT XN ⊢
  rw [htb] at XT XN ⊢
  rw [hnn] at XN ⊢
  have HBbb := hide (show w.heap.size ≤ bb by omega)
  have HBrb := hide (show w.heap.size ≤ rb by omega)
  have HBtb := hide (show w.heap.size ≤ tb by omega)
  have HNB := hide (show bb ≠ rb ∧ bb ≠ tb by omega)
  have HNR := hide (show rb ≠ tb ∧ rb ≠ nn by omega)
  have HNT := hide (show tb ≠ nn by omega)
  have HBB := hide hbb
  clear hbb hrb htb hnn
  have TS := hide (HIN.out.below BB.out)
  clear HIN
  have e9 := cell_of_block XB.out 9
  go_wp2_with fail
  clear e9
  go_loopw [7, 8] (fun l i W => ∃ (k : Nat) (D : List TotM) (ag : Option Addr) (cg : Nat), k ≤ L.length ∧ D = (L.take k).drop d ∧ i = .int .i64 k ∧ l = .slice ag D.length cg ∧ W.ownsRow w4.heap.size 29 6 (.slice ag D.length cg) D.length (D.flatMap totC) ∧ Below w4.heap.size w4 W) (fun _ i _ => L.length - (intOf i).toNat)
  case atStart => exact ⟨0, [], none, 0, Nat.zero_le _, by simp, rfl, rfl, World.ownsRow_nil _ _ _ _, Below.refl _ _⟩
  case round =>
    obtain ⟨k, D, ag, cg, hk, hDD, rfl, rfl, ho, hb⟩ := hrel
    have HDD := hide hDD
    clear hDD
    have OW := hide ho
    have BW := hide hb
    clear ho hb
    have XBW := hide ((BW.out.block _ (heap_lt XB.out)).trans XB.out)
    have c0 := cell_of_block XBW.out 0
    have c9 := cell_of_block XBW.out 9
    by_cases hlt : k < L.length
    · by_cases happ : 0 < k ∨ d = 0
      · have HDN := hide (drop_next L d k hd1 hlt happ)
        obtain ⟨gg, rfl, hgl, hcell⟩ := (TS.out.below BW.out) k hlt
        have y0 := hcell 0 (by decide)
        have y1 := hcell 1 (by decide)
        have y2 := hcell 2 (by decide)
        have y3 := hcell 3 (by decide)
        have y4 := hcell 4 (by decide)
        have y5 := hcell 5 (by decide)
        generalize L.getD k tot0 = yy at *
        obtain ⟨yc, ys, yv, yr, yi, yo⟩ := yy
        simp only [totC, List.getElem?_cons_zero, List.getElem?_cons_succ, Nat.add_zero] at y0 y1 y2 y3 y4 y5
        have hll : D.length ≤ 64 := by rw [HDD.out, List.length_drop, List.length_take]; omega
        rw [← HDD.out] at HDN
        clear hcell
        have hA := (Below.refl wr.heap.size wr).alloc (Nat.le_refl _) (.cells #[.int .i64 yc, .int .i64 ys, .int .i64 yv, .int .i64 yr, .int .i64 yi, .int .i64 yo] 29)
        have OA := hide (owns_below OW.out hA)
        have BA := hide (BW.out.trans (hA.mono BW.out.size))
        have HNEW := hide (six_at (heap_new wr (.cells #[.int .i64 yc, .int .i64 ys, .int .i64 yv, .int .i64 yr, .int .i64 yi, .int .i64 yo] 29)))
        have HW5 := hide (show w4.heap.size ≤ (wr.alloc (.cells #[.int .i64 yc, .int .i64 ys, .int .i64 yv, .int .i64 yr, .int .i64 yi, .int .i64 yo] 29)).heap.size from BA.out.size)
        clear hA
        have HTEST := hide (show (0 < (k : Int)) ∨ (L.length : Int) < keep from happ.imp (fun h => by omega) (fun h => hdl.1 h))
        by_cases hk0 : 0 < (k : Int)
        · clear happ
          go_wp2_with (at_builtin; refine wpList_append_own2 _ rfl _ _ 30 rfl w4.heap.size 29 i0 (.agg #[.int .i64 0, .int .i64 0, .int .i64 0, .int .i64 0, .int .i64 0, .int .i64 0]) 6 48 Try.underlying30 HI.out HZ0.out HZ1.out HZ2.out rfl (by decide) (.slice ag D.length cg) D.length (D.flatMap totC) rfl OA.out ⟨wr.heap.size, 0, none⟩ 1 1 (by decide) [.int .i64 yc, .int .i64 ys, .int .i64 yv, .int .i64 yr, .int .i64 yi, .int .i64 yo] rfl rfl HNEW.out (totC_one ⟨yc, ys, yv, yr, yi, yo⟩) (by unfold maxLen; omega) (by omega) HW5.out ?_; intro g3 c3' w' ho hgr hnil; have HO6 := hide ho; have HGR := hide hgr; clear ho hgr hnil)
          go_roundw
          case rel => exact ⟨k + 1, D ++ [TotM.mk yc ys yv yr yi yo], some ⟨g3, 0, none⟩, c3', hlt, HDN.out.symm, by go_num, by simp, by rw [List.length_append, List.length_singleton, flat_snoc]; exact HO6.out, BA.out.grown HGR.out BA.out.size (fun j h => (OA.out.lt j h).1)⟩
          case measure => simp [intOf]; omega
        · have hk1 : (L.length : Int) < keep := HTEST.out.resolve_left hk0
          clear happ
          obtain rfl : k = 0 := by omega
          simp only [Nat.zero_mul, Nat.zero_add] at y0 y1 y2 y3 y4 y5
          go_wp2_with (at_builtin; refine wpList_append_own2 _ rfl _ _ 30 rfl w4.heap.size 29 i0 (.agg #[.int .i64 0, .int .i64 0, .int .i64 0, .int .i64 0, .int .i64 0, .int .i64 0]) 6 48 Try.underlying30 HI.out HZ0.out HZ1.out HZ2.out rfl (by decide) (.slice ag D.length cg) D.length (D.flatMap totC) rfl OA.out ⟨wr.heap.size, 0, none⟩ 1 1 (by decide) [.int .i64 yc, .int .i64 ys, .int .i64 yv, .int .i64 yr, .int .i64 yi, .int .i64 yo] rfl rfl HNEW.out (totC_one ⟨yc, ys, yv, yr, yi, yo⟩) (by unfold maxLen; omega) (by omega) HW5.out ?_; intro g3 c3' w' ho hgr hnil; have HO6 := hide ho; have HGR := hide hgr; clear ho hgr hnil)
          go_roundw
          case rel => exact ⟨0 + 1, D ++ [TotM.mk yc ys yv yr yi yo], some ⟨g3, 0, none⟩, c3', hlt, HDN.out.symm, by go_num, by simp, by rw [List.length_append, List.length_singleton, flat_snoc]; exact HO6.out, BA.out.grown HGR.out BA.out.size (fun j h => (OA.out.lt j h).1)⟩
          case measure => simp [intOf]; omega
      · have hk0 : ¬ 0 < (k : Int) := by omega
        have hk1 : ¬ (L.length : Int) < keep := fun h => happ (.inr (hdl.2 h))
        have HKZ := hide (show k = 0 by omega)
        have HDZ := hide (show d = 1 by omega)
        clear happ
        go_wp2_with fail
        go_roundw
        case rel => exact ⟨k + 1, D, ag, cg, hlt, by rw [HDD.out, HKZ.out, HDZ.out]; exact (drop_none L).symm, by go_num, rfl, OW.out, BW.out⟩
        case measure => simp [intOf]; omega
    · obtain rfl : k = L.length := by omega
      have HDL := hide (show (L ++ [TotM.mk xc xs xv xr xi xo]).drop d = L.drop d ++ [TotM.mk xc xs xv xr xi xo] from List.drop_append_of_le_length (by omega))
      rw [HDL.out] at HEM
      rw [List.take_length] at HDD
      have hll : D.length ≤ 64 := by rw [HDD.out, List.length_drop]; omega
      rw [← HDD.out] at HEM
      have XRW := hide ((BW.out.block _ (heap_lt XR.out)).trans XR.out)
      have XTW := hide ((BW.out.block _ (heap_lt XT.out)).trans XT.out)
      have BT := hide (BB.out.trans (BW.out.mono BB.out.size))
      clear c0 c9
      obtain ⟨⟨c0, c1, c2, c3, c4, c5, c6, c7, c8, c9⟩, ⟨f0, f1, f2, f3, f4, f5, f6, f7, f8, f9⟩⟩ := sh_facts XBW.out
      clear f0 f1 f2 f3 f4 f5 f6 f7 f8 f9
      have hA := (Below.refl wr.heap.size wr).alloc (Nat.le_refl _) (.cells #[.int .i64 xc, .int .i64 xs, .int .i64 xv, .int .i64 xr, .int .i64 xi, .int .i64 xo] 29)
      have OA := hide (owns_below OW.out hA)
      have BA := hide (BW.out.trans (hA.mono BW.out.size))
      have HNEW := hide (six_at (heap_new wr (.cells #[.int .i64 xc, .int .i64 xs, .int .i64 xv, .int .i64 xr, .int .i64 xi, .int .i64 xo] 29)))
      have HW5 := hide (show w4.heap.size ≤ (wr.alloc (.cells #[.int .i64 xc, .int .i64 xs, .int .i64 xv, .int .i64 xr, .int .i64 xi, .int .i64 xo] 29)).heap.size from BA.out.size)
      clear hA
      have HLTS := hide (show bb < w4.heap.size ∧ rb < w4.heap.size ∧ tb < w4.heap.size from ⟨heap_lt XB.out, heap_lt XR.out, heap_lt XT.out⟩)
      have XBA := hide (((Below.refl wr.heap.size wr).alloc (Nat.le_refl _) (.cells #[.int .i64 xc, .int .i64 xs, .int .i64 xv, .int .i64 xr, .int .i64 xi, .int .i64 xo] 29)).block _ (heap_lt XBW.out) |>.trans XBW.out)
      have XRA := hide (((Below.refl wr.heap.size wr).alloc (Nat.le_refl _) (.cells #[.int .i64 xc, .int .i64 xs, .int .i64 xv, .int .i64 xr, .int .i64 xi, .int .i64 xo] 29)).block _ (heap_lt XRW.out) |>.trans XRW.out)
      have XTA := hide (((Below.refl wr.heap.size wr).alloc (Nat.le_refl _) (.cells #[.int .i64 xc, .int .i64 xs, .int .i64 xv, .int .i64 xr, .int .i64 xi, .int .i64 xo] 29)).block _ (heap_lt XTW.out) |>.trans XTW.out)
      go_wp2_with (at_builtin; refine wpList_append_own2 _ rfl _ _ 30 rfl w4.heap.size 29 i0 (.agg #[.int .i64 0, .int .i64 0, .int .i64 0, .int .i64 0, .int .i64 0, .int .i64 0]) 6 48 Try.underlying30 HI.out HZ0.out HZ1.out HZ2.out rfl (by decide) (.slice ag D.length cg) D.length (D.flatMap totC) rfl OA.out ⟨wr.heap.size, 0, none⟩ 1 1 (by decide) [.int .i64 xc, .int .i64 xs, .int .i64 xv, .int .i64 xr, .int .i64 xi, .int .i64 xo] rfl rfl HNEW.out (totC_one ⟨xc, xs, xv, xr, xi, xo⟩) (by unfold maxLen; omega) (by omega) HW5.out ?_; intro g c3' w' ho hgr hnil; have HO6 := hide ho; have HGR := hide hgr; have HGE := hide hnil; clear ho hgr hnil c0 c1 c2 c3 c4 c5 c6 c7 c8 c9; have XBG := hide (grown_stays OA.out HGR.out XBA.out (by decide)); have c9 := cell_of_block XBG.out 9; have f9 := frozen_of_block XBG.out 9; have c2 := cell_of_block XBG.out 2; have f2 := frozen_of_block XBG.out 2)
      obtain ⟨R, hR⟩ : ∃ R, R = D ++ [TotM.mk xc xs xv xr xi xo] := ⟨_, rfl⟩
      have hRl : R.length = D.length + 1 := by rw [hR, List.length_append, List.length_singleton]
      rw [← hR] at HEM
      have HOR := hide (show w'.ownsRow w4.heap.size 29 6 (.slice (some ⟨g, 0, none⟩) R.length c3') R.length (R.flatMap totC) from by rw [hRl, hR, flat_snoc]; exact HO6.out)
      have HCG := hide (show R.length ≤ c3' from by
        rcases HOR.out.2 with ⟨h1, -⟩ | ⟨g', cap', cur, hv, -, -, h5, -⟩
        · cases h1
        · simp only [Value.slice.injEq] at hv
          obtain ⟨-, -, rfl⟩ := hv
          exact h5)
      have hgb : w4.heap.size ≤ g := by
        rcases HGE.out with h | h
        · exact (OA.out.lt g h).1
        · have := HW5.out; omega
      have HGG := hide (show (Value.slice (some ⟨g, 0, none⟩) R.length c3').ownBlock ≠ some bb ∧ (Value.slice (some ⟨g, 0, none⟩) R.length c3').ownBlock ≠ some rb ∧ (Value.slice (some ⟨g, 0, none⟩) R.length c3').ownBlock ≠ some tb from by
        have h := HLTS.out
        refine ⟨fun e => ?_, fun e => ?_, fun e => ?_⟩ <;> (have e2 : g = _ := Option.some.inj e; omega))
      have XRG := hide ((HGR.out.block rb (heap_lt XRA.out) (fun e => by have h1 := (OA.out.lt _ e.symm).1; have := HLTS.out; omega)).trans XRA.out)
      have XTG := hide ((HGR.out.block tb (heap_lt XTA.out) (fun e => by have h1 := (OA.out.lt _ e.symm).1; have := HLTS.out; omega)).trans XTA.out)
      have BG := hide ((BT.out.alloc BT.out.size (.cells #[.int .i64 xc, .int .i64 xs, .int .i64 xv, .int .i64 xr, .int .i64 xi, .int .i64 xo] 29)).grown HGR.out (Nat.le_trans BT.out.size (by simp)) (fun j h => Nat.le_trans BB.out.size (OA.out.lt j h).1))
      rw [← hRl]
      have HRR := hide hR
      clear hR hRl
      have XB1 := hide (block_setCell XBG.out 9 (.slice (some ⟨g, 0, none⟩) R.length c3'))
      have XB0 := hide (show ((w'.setCell ⟨bb, 9, none⟩ (.slice (some ⟨g, 0, none⟩) R.length c3')).setCell ⟨bb, 2, none⟩ (.bool false)).drew.heap[bb]? = some (.cells #[.int .i64 keep, .int .i64 next, .bool false, .int .i64 xc, .int .i64 xs, .int .i64 xv, .int .i64 xr, .int .i64 xi, .int .i64 xo, .slice (some ⟨g, 0, none⟩) R.length c3'] 32 (0, 0)) from block_setCell XB1.out 2 (.bool false))
      have XR0 := hide (show ((w'.setCell ⟨bb, 9, none⟩ (.slice (some ⟨g, 0, none⟩) R.length c3')).setCell ⟨bb, 2, none⟩ (.bool false)).drew.heap[rb]? = _ from (block_setCell_other HNB.out.1 2 (.bool false)).trans ((block_setCell_other HNB.out.1 9 (.slice (some ⟨g, 0, none⟩) R.length c3')).trans XRG.out))
      have XT0 := hide (show ((w'.setCell ⟨bb, 9, none⟩ (.slice (some ⟨g, 0, none⟩) R.length c3')).setCell ⟨bb, 2, none⟩ (.bool false)).drew.heap[tb]? = _ from (block_setCell_other HNB.out.2 2 (.bool false)).trans ((block_setCell_other HNB.out.2 9 (.slice (some ⟨g, 0, none⟩) R.length c3')).trans XTG.out))
      have OW0 := hide (show ((w'.setCell ⟨bb, 9, none⟩ (.slice (some ⟨g, 0, none⟩) R.length c3')).setCell ⟨bb, 2, none⟩ (.bool false)).drew.ownsRow w4.heap.size 29 6 (.slice (some ⟨g, 0, none⟩) R.length c3') R.length (R.flatMap totC) from ownsRow_setCell_other (ownsRow_setCell_other HOR.out HGG.out.1 _) HGG.out.1 _)
      have BB0 := hide (((BG.out.setCell (p := ⟨bb, 9, none⟩) HBbb.out (.slice (some ⟨g, 0, none⟩) R.length c3')).setCell (p := ⟨bb, 2, none⟩) HBbb.out (.bool false)).drew)
      clear XBG XRG XTG XB1 HOR HO6 XBA XRA XTA HGR HGE OA BA BG BT hgb c9 f9 c2 f2
      generalize (w'.setCell ⟨bb, 9, none⟩ (.slice (some ⟨g, 0, none⟩) R.length c3')).setCell ⟨bb, 2, none⟩ (.bool false) = wk1 at *
      refine wp_region_held_drew (S := (fun W => W.heap[bb]? = some (.cells #[.int .i64 keep, .int .i64 next, .bool false, .int .i64 xc, .int .i64 xs, .int .i64 xv, .int .i64 xr, .int .i64 xi, .int .i64 xo, .slice (some ⟨g, 0, none⟩) R.length c3'] 32 (0, 0)))) (by kernel_rfl) (XB0.out) (fun hHeld => ?_)
      generalize wk1.drew = u0 at *
      refine wpAnyH_take (i := 0) (oi := { dst := some 47, op := Op.load 32 (Operand.tmp 1), type := 32, pos := "ref.go:102", after := #[], guard := none }) (v := ?_) rfl (by kernel_rfl) (by kernel_rfl) (by kernel_rfl) (fun _ _ _ h => h) (Or.inl ⟨by kernel_rfl, ?_⟩) hHeld ?_
      rotate_left
      · (intro w hSw; (try dsimp only at hSw); have e0 := cell_of_block hSw 0; have e1 := cell_of_block hSw 1; have e2 := cell_of_block hSw 2; have e3 := cell_of_block hSw 3; have e4 := cell_of_block hSw 4; have e5 := cell_of_block hSw 5; have e6 := cell_of_block hSw 6; have e7 := cell_of_block hSw 7; have e8 := cell_of_block hSw 8; have e9 := cell_of_block hSw 9; go_simp); try with_reducible rfl
      try simp only [Act.put, List.setIfInBounds_toArray, List.set_cons_zero, List.set_cons_succ]
      refine wpAnyH_take (i := 1) (oi := { dst := some 48, op := Op.fieldAddr 32 (Operand.tmp 1) 1, type := 0, pos := "ref.go:102", after := #[{ on := 6, ground := Ground.gcOnly Departure.lateStores }], guard := none }) (v := ?_) rfl (by kernel_rfl) (by kernel_rfl) (by kernel_rfl) (fun _ _ _ h => h) (Or.inl ⟨by kernel_rfl, ?_⟩) hHeld ?_
      rotate_left
      · (intro w hSw; (try dsimp only at hSw); have e0 := cell_of_block hSw 0; have e1 := cell_of_block hSw 1; have e2 := cell_of_block hSw 2; have e3 := cell_of_block hSw 3; have e4 := cell_of_block hSw 4; have e5 := cell_of_block hSw 5; have e6 := cell_of_block hSw 6; have e7 := cell_of_block hSw 7; have e8 := cell_of_block hSw 8; have e9 := cell_of_block hSw 9; go_simp); try with_reducible rfl
      try simp only [Act.put, List.setIfInBounds_toArray, List.set_cons_zero, List.set_cons_succ]
      refine wpAnyH_take (i := 2) (oi := { dst := some 49, op := Op.load 3 (Operand.tmp 48), type := 3, pos := "ref.go:102", after := #[{ on := 1, ground := Ground.data }, { on := 6, ground := Ground.gcOnly Departure.lateStores }], guard := none }) (v := ?_) rfl (by kernel_rfl) (by kernel_rfl) (by kernel_rfl) (fun _ _ _ h => h) (Or.inl ⟨by kernel_rfl, ?_⟩) hHeld ?_
      rotate_left
      · (intro w hSw; (try dsimp only at hSw); have e0 := cell_of_block hSw 0; have e1 := cell_of_block hSw 1; have e2 := cell_of_block hSw 2; have e3 := cell_of_block hSw 3; have e4 := cell_of_block hSw 4; have e5 := cell_of_block hSw 5; have e6 := cell_of_block hSw 6; have e7 := cell_of_block hSw 7; have e8 := cell_of_block hSw 8; have e9 := cell_of_block hSw 9; go_simp); try with_reducible rfl
      try simp only [Act.put, List.setIfInBounds_toArray, List.set_cons_zero, List.set_cons_succ]
      refine wpAnyH_take (i := 3) (oi := { dst := some 50, op := Op.binOp BinOp.sub 3 (Operand.tmp 49) (Operand.const (Value.int IntKind.i64 1)) 3, type := 3, pos := "ref.go:102", after := #[{ on := 2, ground := Ground.data }, { on := 6, ground := Ground.gcOnly Departure.lateStores }], guard := none }) (v := ?_) rfl (by kernel_rfl) (by kernel_rfl) (by kernel_rfl) (fun _ _ _ h => h) (Or.inl ⟨by kernel_rfl, ?_⟩) hHeld ?_
      rotate_left
      · (intro w hSw; (try dsimp only at hSw); have e0 := cell_of_block hSw 0; have e1 := cell_of_block hSw 1; have e2 := cell_of_block hSw 2; have e3 := cell_of_block hSw 3; have e4 := cell_of_block hSw 4; have e5 := cell_of_block hSw 5; have e6 := cell_of_block hSw 6; have e7 := cell_of_block hSw 7; have e8 := cell_of_block hSw 8; have e9 := cell_of_block hSw 9; go_simp); try with_reducible rfl
      try simp only [Act.put, List.setIfInBounds_toArray, List.set_cons_zero, List.set_cons_succ]
      refine wpAnyH_take (i := 4) (oi := { dst := some 51, op := Op.fieldAddr 32 (Operand.tmp 1) 3, type := 0, pos := "ref.go:102", after := #[{ on := 7, ground := Ground.gcOnly Departure.lateStores }], guard := none }) (v := ?_) rfl (by kernel_rfl) (by kernel_rfl) (by kernel_rfl) (fun _ _ _ h => h) (Or.inl ⟨by kernel_rfl, ?_⟩) hHeld ?_
      rotate_left
      · (intro w hSw; (try dsimp only at hSw); have e0 := cell_of_block hSw 0; have e1 := cell_of_block hSw 1; have e2 := cell_of_block hSw 2; have e3 := cell_of_block hSw 3; have e4 := cell_of_block hSw 4; have e5 := cell_of_block hSw 5; have e6 := cell_of_block hSw 6; have e7 := cell_of_block hSw 7; have e8 := cell_of_block hSw 8; have e9 := cell_of_block hSw 9; go_simp); try with_reducible rfl
      try simp only [Act.put, List.setIfInBounds_toArray, List.set_cons_zero, List.set_cons_succ]
      refine wpAnyH_take (i := 5) (oi := { dst := some 52, op := Op.load 29 (Operand.tmp 51), type := 29, pos := "ref.go:102", after := #[{ on := 4, ground := Ground.data }, { on := 7, ground := Ground.gcOnly Departure.lateStores }], guard := none }) (v := ?_) rfl (by kernel_rfl) (by kernel_rfl) (by kernel_rfl) (fun _ _ _ h => h) (Or.inl ⟨by kernel_rfl, ?_⟩) hHeld ?_
      rotate_left
      · (intro w hSw; (try dsimp only at hSw); have e0 := cell_of_block hSw 0; have e1 := cell_of_block hSw 1; have e2 := cell_of_block hSw 2; have e3 := cell_of_block hSw 3; have e4 := cell_of_block hSw 4; have e5 := cell_of_block hSw 5; have e6 := cell_of_block hSw 6; have e7 := cell_of_block hSw 7; have e8 := cell_of_block hSw 8; have e9 := cell_of_block hSw 9; go_simp); try with_reducible rfl
      try simp only [Act.put, List.setIfInBounds_toArray, List.set_cons_zero, List.set_cons_succ]
      refine wpAnyH_ready (rs := [6]) (by kernel_rfl) (by simp) (AllReadyH.cons (o := { dst := none, op := Op.store 32 (Operand.tmp 2) (Operand.tmp 47), type := 0, pos := "ref.go:102", after := #[{ on := 0, ground := Ground.data }, { on := 0, ground := Ground.phase }, { on := 1, ground := Ground.textOnly Departure.lateStores }, { on := 2, ground := Ground.textOnly Departure.lateStores }, { on := 3, ground := Ground.textOnly Departure.lateStores }, { on := 4, ground := Ground.textOnly Departure.lateStores }, { on := 5, ground := Ground.textOnly Departure.lateStores }], guard := none }) rfl (fun K hK => ?_) AllReadyH.nil)
      have hOld := hide hHeld
      clear hHeld
      obtain ⟨⟨d0, d1, d2, d3, d4, d5, d6, d7, d8, d9⟩, ⟨e0, e1, e2, e3, e4, e5, e6, e7, e8, e9⟩⟩ := sh_facts XR0.out
      go_simp
      clear d0 d1 d2 d3 d4 d5 d6 d7 d8 d9 e0 e1 e2 e3 e4 e5 e6 e7 e8 e9
      have Hr0 := hide (show (u0.setCell ⟨rb, 0, none⟩ (.int .i64 keep)).heap[rb]? = some (.cells #[.int .i64 keep, .int .i64 0, .bool false, .int .i64 0, .int .i64 0, .int .i64 0, .int .i64 0, .int .i64 0, .int .i64 0, .slice none 0 0] 32 (0, 0)) from block_setCell XR0.out 0 (.int .i64 keep))
      have Br0 := hide (BB0.out.setCell (p := ⟨rb, 0, none⟩) HBrb.out (.int .i64 keep))
      have XBr0 := hide ((block_setCell_other HNB.out.1.symm 0 (.int .i64 keep)).trans XB0.out)
      have XTr0 := hide ((block_setCell_other HNR.out.1 0 (.int .i64 keep)).trans XT0.out)
      have OWr0 := hide (owns_setCellOther OW0.out HGG.out.2.1 0 (.int .i64 keep))
      generalize u0.setCell ⟨rb, 0, none⟩ (.int .i64 keep) = wr0 at *
      have Hr1 := hide (show (wr0.setCell ⟨rb, 1, none⟩ (.int .i64 next)).heap[rb]? = some (.cells #[.int .i64 keep, .int .i64 next, .bool false, .int .i64 0, .int .i64 0, .int .i64 0, .int .i64 0, .int .i64 0, .int .i64 0, .slice none 0 0] 32 (0, 0)) from block_setCell Hr0.out 1 (.int .i64 next))
      have Br1 := hide (Br0.out.setCell (p := ⟨rb, 1, none⟩) HBrb.out (.int .i64 next))
      have XBr1 := hide ((block_setCell_other HNB.out.1.symm 1 (.int .i64 next)).trans XBr0.out)
      have XTr1 := hide ((block_setCell_other HNR.out.1 1 (.int .i64 next)).trans XTr0.out)
      have OWr1 := hide (owns_setCellOther OWr0.out HGG.out.2.1 1 (.int .i64 next))
      generalize wr0.setCell ⟨rb, 1, none⟩ (.int .i64 next) = wr1 at *
      have Hr2 := hide (show (wr1.setCell ⟨rb, 2, none⟩ (.bool false)).heap[rb]? = some (.cells #[.int .i64 keep, .int .i64 next, .bool false, .int .i64 0, .int .i64 0, .int .i64 0, .int .i64 0, .int .i64 0, .int .i64 0, .slice none 0 0] 32 (0, 0)) from block_setCell Hr1.out 2 (.bool false))
      have Br2 := hide (Br1.out.setCell (p := ⟨rb, 2, none⟩) HBrb.out (.bool false))
      have XBr2 := hide ((block_setCell_other HNB.out.1.symm 2 (.bool false)).trans XBr1.out)
      have XTr2 := hide ((block_setCell_other HNR.out.1 2 (.bool false)).trans XTr1.out)
      have OWr2 := hide (owns_setCellOther OWr1.out HGG.out.2.1 2 (.bool false))
      generalize wr1.setCell ⟨rb, 2, none⟩ (.bool false) = wr2 at *
      have Hr3 := hide (show (wr2.setCell ⟨rb, 3, none⟩ (.int .i64 xc)).heap[rb]? = some (.cells #[.int .i64 keep, .int .i64 next, .bool false, .int .i64 xc, .int .i64 0, .int .i64 0, .int .i64 0, .int .i64 0, .int .i64 0, .slice none 0 0] 32 (0, 0)) from block_setCell Hr2.out 3 (.int .i64 xc))
      have Br3 := hide (Br2.out.setCell (p := ⟨rb, 3, none⟩) HBrb.out (.int .i64 xc))
      have XBr3 := hide ((block_setCell_other HNB.out.1.symm 3 (.int .i64 xc)).trans XBr2.out)
      have XTr3 := hide ((block_setCell_other HNR.out.1 3 (.int .i64 xc)).trans XTr2.out)
      have OWr3 := hide (owns_setCellOther OWr2.out HGG.out.2.1 3 (.int .i64 xc))
      generalize wr2.setCell ⟨rb, 3, none⟩ (.int .i64 xc) = wr3 at *
      have Hr4 := hide (show (wr3.setCell ⟨rb, 4, none⟩ (.int .i64 xs)).heap[rb]? = some (.cells #[.int .i64 keep, .int .i64 next, .bool false, .int .i64 xc, .int .i64 xs, .int .i64 0, .int .i64 0, .int .i64 0, .int .i64 0, .slice none 0 0] 32 (0, 0)) from block_setCell Hr3.out 4 (.int .i64 xs))
      have Br4 := hide (Br3.out.setCell (p := ⟨rb, 4, none⟩) HBrb.out (.int .i64 xs))
      have XBr4 := hide ((block_setCell_other HNB.out.1.symm 4 (.int .i64 xs)).trans XBr3.out)
      have XTr4 := hide ((block_setCell_other HNR.out.1 4 (.int .i64 xs)).trans XTr3.out)
      have OWr4 := hide (owns_setCellOther OWr3.out HGG.out.2.1 4 (.int .i64 xs))
      generalize wr3.setCell ⟨rb, 4, none⟩ (.int .i64 xs) = wr4 at *
      have Hr5 := hide (show (wr4.setCell ⟨rb, 5, none⟩ (.int .i64 xv)).heap[rb]? = some (.cells #[.int .i64 keep, .int .i64 next, .bool false, .int .i64 xc, .int .i64 xs, .int .i64 xv, .int .i64 0, .int .i64 0, .int .i64 0, .slice none 0 0] 32 (0, 0)) from block_setCell Hr4.out 5 (.int .i64 xv))
      have Br5 := hide (Br4.out.setCell (p := ⟨rb, 5, none⟩) HBrb.out (.int .i64 xv))
      have XBr5 := hide ((block_setCell_other HNB.out.1.symm 5 (.int .i64 xv)).trans XBr4.out)
      have XTr5 := hide ((block_setCell_other HNR.out.1 5 (.int .i64 xv)).trans XTr4.out)
      have OWr5 := hide (owns_setCellOther OWr4.out HGG.out.2.1 5 (.int .i64 xv))
      generalize wr4.setCell ⟨rb, 5, none⟩ (.int .i64 xv) = wr5 at *
      have Hr6 := hide (show (wr5.setCell ⟨rb, 6, none⟩ (.int .i64 xr)).heap[rb]? = some (.cells #[.int .i64 keep, .int .i64 next, .bool false, .int .i64 xc, .int .i64 xs, .int .i64 xv, .int .i64 xr, .int .i64 0, .int .i64 0, .slice none 0 0] 32 (0, 0)) from block_setCell Hr5.out 6 (.int .i64 xr))
      have Br6 := hide (Br5.out.setCell (p := ⟨rb, 6, none⟩) HBrb.out (.int .i64 xr))
      have XBr6 := hide ((block_setCell_other HNB.out.1.symm 6 (.int .i64 xr)).trans XBr5.out)
      have XTr6 := hide ((block_setCell_other HNR.out.1 6 (.int .i64 xr)).trans XTr5.out)
      have OWr6 := hide (owns_setCellOther OWr5.out HGG.out.2.1 6 (.int .i64 xr))
      generalize wr5.setCell ⟨rb, 6, none⟩ (.int .i64 xr) = wr6 at *
      have Hr7 := hide (show (wr6.setCell ⟨rb, 7, none⟩ (.int .i64 xi)).heap[rb]? = some (.cells #[.int .i64 keep, .int .i64 next, .bool false, .int .i64 xc, .int .i64 xs, .int .i64 xv, .int .i64 xr, .int .i64 xi, .int .i64 0, .slice none 0 0] 32 (0, 0)) from block_setCell Hr6.out 7 (.int .i64 xi))
      have Br7 := hide (Br6.out.setCell (p := ⟨rb, 7, none⟩) HBrb.out (.int .i64 xi))
      have XBr7 := hide ((block_setCell_other HNB.out.1.symm 7 (.int .i64 xi)).trans XBr6.out)
      have XTr7 := hide ((block_setCell_other HNR.out.1 7 (.int .i64 xi)).trans XTr6.out)
      have OWr7 := hide (owns_setCellOther OWr6.out HGG.out.2.1 7 (.int .i64 xi))
      generalize wr6.setCell ⟨rb, 7, none⟩ (.int .i64 xi) = wr7 at *
      have Hr8 := hide (show (wr7.setCell ⟨rb, 8, none⟩ (.int .i64 xo)).heap[rb]? = some (.cells #[.int .i64 keep, .int .i64 next, .bool false, .int .i64 xc, .int .i64 xs, .int .i64 xv, .int .i64 xr, .int .i64 xi, .int .i64 xo, .slice none 0 0] 32 (0, 0)) from block_setCell Hr7.out 8 (.int .i64 xo))
      have Br8 := hide (Br7.out.setCell (p := ⟨rb, 8, none⟩) HBrb.out (.int .i64 xo))
      have XBr8 := hide ((block_setCell_other HNB.out.1.symm 8 (.int .i64 xo)).trans XBr7.out)
      have XTr8 := hide ((block_setCell_other HNR.out.1 8 (.int .i64 xo)).trans XTr7.out)
      have OWr8 := hide (owns_setCellOther OWr7.out HGG.out.2.1 8 (.int .i64 xo))
      generalize wr7.setCell ⟨rb, 8, none⟩ (.int .i64 xo) = wr8 at *
      have Hr9 := hide (show (wr8.setCell ⟨rb, 9, none⟩ (.slice (some ⟨g, 0, none⟩) R.length c3')).heap[rb]? = some (.cells #[.int .i64 keep, .int .i64 next, .bool false, .int .i64 xc, .int .i64 xs, .int .i64 xv, .int .i64 xr, .int .i64 xi, .int .i64 xo, .slice (some ⟨g, 0, none⟩) R.length c3'] 32 (0, 0)) from block_setCell Hr8.out 9 (.slice (some ⟨g, 0, none⟩) R.length c3'))
      have Br9 := hide (Br8.out.setCell (p := ⟨rb, 9, none⟩) HBrb.out (.slice (some ⟨g, 0, none⟩) R.length c3'))
      have XBr9 := hide ((block_setCell_other HNB.out.1.symm 9 (.slice (some ⟨g, 0, none⟩) R.length c3')).trans XBr8.out)
      have XTr9 := hide ((block_setCell_other HNR.out.1 9 (.slice (some ⟨g, 0, none⟩) R.length c3')).trans XTr8.out)
      have OWr9 := hide (owns_setCellOther OWr8.out HGG.out.2.1 9 (.slice (some ⟨g, 0, none⟩) R.length c3'))
      generalize wr8.setCell ⟨rb, 9, none⟩ (.slice (some ⟨g, 0, none⟩) R.length c3') = wr9 at *
      refine hK.out _ _ (XBr9.out) (fun hHeld => ?_)
      clear hK K hOld
      try simp only [Act.put, List.setIfInBounds_toArray, List.set_cons_zero, List.set_cons_succ]
      refine wpAnyH_take (i := 7) (oi := { dst := some 3, op := Op.assign (Operand.tmp 50), type := 3, pos := "ref.go:102", after := #[{ on := 3, ground := Ground.data }, { on := 6, ground := Ground.chain }, { on := 0, ground := Ground.phase }, { on := 1, ground := Ground.phase }, { on := 2, ground := Ground.phase }, { on := 3, ground := Ground.phase }, { on := 4, ground := Ground.textOnly Departure.lateStores }, { on := 5, ground := Ground.textOnly Departure.lateStores }, { on := 6, ground := Ground.phase }], guard := none }) (v := ?_) rfl (by kernel_rfl) (by kernel_rfl) (by kernel_rfl) (fun _ _ _ h => h) (Or.inl ⟨by kernel_rfl, ?_⟩) hHeld ?_
      rotate_left
      · (intro w hSw; (try dsimp only at hSw); have e0 := cell_of_block hSw 0; have e1 := cell_of_block hSw 1; have e2 := cell_of_block hSw 2; have e3 := cell_of_block hSw 3; have e4 := cell_of_block hSw 4; have e5 := cell_of_block hSw 5; have e6 := cell_of_block hSw 6; have e7 := cell_of_block hSw 7; have e8 := cell_of_block hSw 8; have e9 := cell_of_block hSw 9; go_simp); try with_reducible rfl
      try simp only [Act.put, List.setIfInBounds_toArray, List.set_cons_zero, List.set_cons_succ]
      refine wpAnyH_ready (rs := [8]) (by kernel_rfl) (by simp) (AllReadyH.cons (o := { dst := none, op := Op.store 29 (Operand.tmp 4) (Operand.tmp 52), type := 0, pos := "ref.go:102", after := #[{ on := 5, ground := Ground.data }, { on := 7, ground := Ground.chain }, { on := 0, ground := Ground.phase }, { on := 1, ground := Ground.phase }, { on := 2, ground := Ground.phase }, { on := 3, ground := Ground.phase }, { on := 4, ground := Ground.phase }, { on := 5, ground := Ground.phase }, { on := 6, ground := Ground.phase }, { on := 7, ground := Ground.phase }], guard := none }) rfl (fun K hK => ?_) AllReadyH.nil)
      have hOld := hide hHeld
      clear hHeld
      obtain ⟨⟨g0, g1, g2, g3, g4, g5⟩, ⟨q0, q1, q2, q3, q4, q5⟩⟩ := six_facts XTr9.out
      go_simp
      clear g0 g1 g2 g3 g4 g5 q0 q1 q2 q3 q4 q5
      have Ht0 := hide (show (wr9.setCell ⟨tb, 0, none⟩ (.int .i64 xc)).heap[tb]? = some (.cells #[.int .i64 xc, .int .i64 0, .int .i64 0, .int .i64 0, .int .i64 0, .int .i64 0] 29 (0, 0)) from block_setCell XTr9.out 0 (.int .i64 xc))
      have Bt0 := hide (Br9.out.setCell (p := ⟨tb, 0, none⟩) HBtb.out (.int .i64 xc))
      have XRt0 := hide ((block_setCell_other HNR.out.1.symm 0 (.int .i64 xc)).trans Hr9.out)
      have XBt0 := hide ((block_setCell_other HNB.out.2.symm 0 (.int .i64 xc)).trans XBr9.out)
      have OWt0 := hide (owns_setCellOther OWr9.out HGG.out.2.2 0 (.int .i64 xc))
      generalize wr9.setCell ⟨tb, 0, none⟩ (.int .i64 xc) = wt0 at *
      have Ht1 := hide (show (wt0.setCell ⟨tb, 1, none⟩ (.int .i64 xs)).heap[tb]? = some (.cells #[.int .i64 xc, .int .i64 xs, .int .i64 0, .int .i64 0, .int .i64 0, .int .i64 0] 29 (0, 0)) from block_setCell Ht0.out 1 (.int .i64 xs))
      have Bt1 := hide (Bt0.out.setCell (p := ⟨tb, 1, none⟩) HBtb.out (.int .i64 xs))
      have XRt1 := hide ((block_setCell_other HNR.out.1.symm 1 (.int .i64 xs)).trans XRt0.out)
      have XBt1 := hide ((block_setCell_other HNB.out.2.symm 1 (.int .i64 xs)).trans XBt0.out)
      have OWt1 := hide (owns_setCellOther OWt0.out HGG.out.2.2 1 (.int .i64 xs))
      generalize wt0.setCell ⟨tb, 1, none⟩ (.int .i64 xs) = wt1 at *
      have Ht2 := hide (show (wt1.setCell ⟨tb, 2, none⟩ (.int .i64 xv)).heap[tb]? = some (.cells #[.int .i64 xc, .int .i64 xs, .int .i64 xv, .int .i64 0, .int .i64 0, .int .i64 0] 29 (0, 0)) from block_setCell Ht1.out 2 (.int .i64 xv))
      have Bt2 := hide (Bt1.out.setCell (p := ⟨tb, 2, none⟩) HBtb.out (.int .i64 xv))
      have XRt2 := hide ((block_setCell_other HNR.out.1.symm 2 (.int .i64 xv)).trans XRt1.out)
      have XBt2 := hide ((block_setCell_other HNB.out.2.symm 2 (.int .i64 xv)).trans XBt1.out)
      have OWt2 := hide (owns_setCellOther OWt1.out HGG.out.2.2 2 (.int .i64 xv))
      generalize wt1.setCell ⟨tb, 2, none⟩ (.int .i64 xv) = wt2 at *
      have Ht3 := hide (show (wt2.setCell ⟨tb, 3, none⟩ (.int .i64 xr)).heap[tb]? = some (.cells #[.int .i64 xc, .int .i64 xs, .int .i64 xv, .int .i64 xr, .int .i64 0, .int .i64 0] 29 (0, 0)) from block_setCell Ht2.out 3 (.int .i64 xr))
      have Bt3 := hide (Bt2.out.setCell (p := ⟨tb, 3, none⟩) HBtb.out (.int .i64 xr))
      have XRt3 := hide ((block_setCell_other HNR.out.1.symm 3 (.int .i64 xr)).trans XRt2.out)
      have XBt3 := hide ((block_setCell_other HNB.out.2.symm 3 (.int .i64 xr)).trans XBt2.out)
      have OWt3 := hide (owns_setCellOther OWt2.out HGG.out.2.2 3 (.int .i64 xr))
      generalize wt2.setCell ⟨tb, 3, none⟩ (.int .i64 xr) = wt3 at *
      have Ht4 := hide (show (wt3.setCell ⟨tb, 4, none⟩ (.int .i64 xi)).heap[tb]? = some (.cells #[.int .i64 xc, .int .i64 xs, .int .i64 xv, .int .i64 xr, .int .i64 xi, .int .i64 0] 29 (0, 0)) from block_setCell Ht3.out 4 (.int .i64 xi))
      have Bt4 := hide (Bt3.out.setCell (p := ⟨tb, 4, none⟩) HBtb.out (.int .i64 xi))
      have XRt4 := hide ((block_setCell_other HNR.out.1.symm 4 (.int .i64 xi)).trans XRt3.out)
      have XBt4 := hide ((block_setCell_other HNB.out.2.symm 4 (.int .i64 xi)).trans XBt3.out)
      have OWt4 := hide (owns_setCellOther OWt3.out HGG.out.2.2 4 (.int .i64 xi))
      generalize wt3.setCell ⟨tb, 4, none⟩ (.int .i64 xi) = wt4 at *
      have Ht5 := hide (show (wt4.setCell ⟨tb, 5, none⟩ (.int .i64 xo)).heap[tb]? = some (.cells #[.int .i64 xc, .int .i64 xs, .int .i64 xv, .int .i64 xr, .int .i64 xi, .int .i64 xo] 29 (0, 0)) from block_setCell Ht4.out 5 (.int .i64 xo))
      have Bt5 := hide (Bt4.out.setCell (p := ⟨tb, 5, none⟩) HBtb.out (.int .i64 xo))
      have XRt5 := hide ((block_setCell_other HNR.out.1.symm 5 (.int .i64 xo)).trans XRt4.out)
      have XBt5 := hide ((block_setCell_other HNB.out.2.symm 5 (.int .i64 xo)).trans XBt4.out)
      have OWt5 := hide (owns_setCellOther OWt4.out HGG.out.2.2 5 (.int .i64 xo))
      generalize wt4.setCell ⟨tb, 5, none⟩ (.int .i64 xo) = wt5 at *
      refine hK.out _ _ (XBt5.out) (fun hHeld => ?_)
      clear hK K hOld
      try simp only [Act.put, List.setIfInBounds_toArray, List.set_cons_zero, List.set_cons_succ]
      refine wpAnyH_take (i := 9) (oi := { dst := some 5, op := Op.assign (Operand.const (Value.int IntKind.i64 0)), type := 3, pos := "ref.go:102", after := #[{ on := 8, ground := Ground.chain }, { on := 0, ground := Ground.phase }, { on := 1, ground := Ground.phase }, { on := 2, ground := Ground.phase }, { on := 3, ground := Ground.phase }, { on := 4, ground := Ground.phase }, { on := 5, ground := Ground.phase }, { on := 6, ground := Ground.phase }, { on := 7, ground := Ground.phase }, { on := 8, ground := Ground.phase }], guard := none }) (v := ?_) rfl (by kernel_rfl) (by kernel_rfl) (by kernel_rfl) (fun _ _ _ h => h) (Or.inl ⟨by kernel_rfl, ?_⟩) hHeld ?_
      rotate_left
      · (intro w hSw; (try dsimp only at hSw); have e0 := cell_of_block hSw 0; have e1 := cell_of_block hSw 1; have e2 := cell_of_block hSw 2; have e3 := cell_of_block hSw 3; have e4 := cell_of_block hSw 4; have e5 := cell_of_block hSw 5; have e6 := cell_of_block hSw 6; have e7 := cell_of_block hSw 7; have e8 := cell_of_block hSw 8; have e9 := cell_of_block hSw 9; go_simp); try with_reducible rfl
      try simp only [Act.put, List.setIfInBounds_toArray, List.set_cons_zero, List.set_cons_succ]
      refine wpAnyH_done (by kernel_rfl) ?_ _
      clear hHeld
      go_wp2_with fail
      (try simp only [Exit.inBlock, Exit.then])
      refine bodyPost_ret (res_ctct (P := Try.prog) rfl _ wt5 rb tb 32 29 #[.int .i64 keep, .int .i64 next, .bool false, .int .i64 xc, .int .i64 xs, .int .i64 xv, .int .i64 xr, .int .i64 xi, .int .i64 xo, .slice (some ⟨g, 0, none⟩) R.length c3'] #[.int .i64 xc, .int .i64 xs, .int .i64 xv, .int .i64 xr, .int .i64 xi, .int .i64 xo] _ _ rfl rfl XRt5.out Ht5.out Try.underlying32 Try.underlying29 rfl rfl (by kernel_rfl) (by kernel_rfl)) rfl ?_
      refine ⟨⟨xc, xs, xv, xr, xi, xo⟩, some ⟨g, 0, none⟩, c3', ?_, ?_, Bt5.out⟩
      · rw [HEM.out, HEN.out]
        rfl
      · rw [HEM.out]
        exact ⟨owns_mono OWt5.out (Nat.zero_le _), fun h => by cases h⟩
theorem rsend_any (M : ShM) (nw : TotM) (a : Option Addr) (cp : Nat) (w : World) (hok : ShOk M) (hin : RsIs w M nw a cp) : Calls Try.prog 13 #[rsV M nw a cp] w (REndIs M w) := by
  obtain ⟨keep, next, op, ⟨zc, zs, zv, zr, zi, zo⟩, L⟩ := M
  obtain ⟨xc, xs, xv, xr, xi, xo⟩ := nw
  cases op with
  | false => exact rsend_closed keep next xc xs xv xr xi xo _ L a cp w hin
  | true =>
    have h5 : (⟨xc, xs, xv, xr, xi, xo⟩ : TotM) = ⟨zc, zs, zv, zr, zi, zo⟩ := hin.now rfl
    cases h5
    exact rsend_open keep next zc zs zv zr zi zo L a cp w hok hin
end Go.Proofs.Ytfdgfeohmkdnoaa
