import Derived.Test.YtfdgfeohmkdnoaaRSh3
import Derived.Test.YtfdgfeohmkdnoaaShDel
import Derived.Test.YtfdgfeohmkdnoaaKitP
import Derived.Test.YtfdgfeohmkdnoaaShG4
import Derived.ChangeKeysEq
import Derived.Test.YtfdgfeohmkdnoaaRSh
import Derived.Test.YtfdgfeohmkdnoaaMShW
import Derived.Test.YtfdgfeohmkdnoaaCurW
import Derived.Test.YtfdgfeohmkdnoaaShW2
import Derived.Test.YtfdgfeohmkdnoaaShK
/-
  Layer 26: the document's shifts: End by contract.
-/
--import Derived.Test.Zdbg
namespace Go.Proofs.Ytfdgfeohmkdnoaa
set_option linter.unusedSimpArgs false
set_option linter.unusedVariables false
open Go.RowKit Go.WideShapes Go.ChangeShapes Go.ChangeAt Go.Deep

theorem heap_alloc4_new (w : World) (A B C D : Obj) : ((((w.alloc A).alloc B).alloc C).alloc D).heap[w.heap.size + 1 + 1 + 1]? = some D := by
  have h := heap_new (((w.alloc A).alloc B).alloc C) D
  have e : (((w.alloc A).alloc B).alloc C).heap.size = w.heap.size + 1 + 1 + 1 := by simp
  rw [e] at h
  exact h
theorem res_ctct {P : Program} {fn : Func} {p u q t : Tmp} {ty ty' : TypeId} (h : fn.results = #[.cell p ty, .tmp u, .cell q ty', .tmp t]) (tmps : Array Value) (w : World) (g k : Nat) (ty2 ty3 : TypeId) (cs ds : Array Value) (d d' : TypeDesc)
    (hp : tmps.getD p undef = .pointer (some ⟨g, 0, none⟩)) (hq : tmps.getD q undef = .pointer (some ⟨k, 0, none⟩)) (hg : w.heap[g]? = some (.cells cs ty2 (0, 0))) (hk : w.heap[k]? = some (.cells ds ty3 (0, 0))) (hu : P.underlying ty = some d) (hu' : P.underlying ty' = some d') (hd : (match d with | .struct _ | .array _ _ => true | _ => false) = true) (hd' : (match d' with | .struct _ | .array _ _ => true | _ => false) = true) (hi : (P.info? ty).map (·.size) = some cs.size) (hi' : (P.info? ty').map (·.size) = some ds.size) :
    (results fn tmps).run P w = .ok (.tuple #[.agg cs, tmps.getD u undef, .agg ds, tmps.getD t undef]) w := by
  have hp' : tmps[p]?.getD undef = .pointer (some ⟨g, 0, none⟩) := by simpa using hp
  have hq' : tmps[q]?.getD undef = .pointer (some ⟨k, 0, none⟩) := by simpa using hq
  simp [results, h, hp', hq', asAddr, run_loadVar_row w g ty2 ty cs (0, 0) d hg hu hd hi, run_loadVar_row w k ty3 ty' ds (0, 0) d' hk hu' hd' hi']
def REndIs (M : ShM) (w : World) (e : Ending) (w' : World) : Prop := ∃ nw' a' cp', e = .returned (.tuple #[rsV (shEndM M) nw' a' cp', .int .i64 (shEndN M), totV (shEndT M), .int .i64 (shEndE M)]) ∧ RsIs w' (shEndM M) nw' a' cp' ∧ Below w.heap.size w w'
theorem rsend_no {keep next xc xs xv xr xi xo : Int} {z : TotM} {L : List TotM} {a : Option Addr} {cp : Nat} {w w' : World} (h : RsIs w' ⟨keep, next, false, z, L⟩ ⟨xc, xs, xv, xr, xi, xo⟩ a cp) (hb : Below w.heap.size w w') : REndIs ⟨keep, next, false, z, L⟩ w (.returned (.tuple #[.agg #[.int .i64 keep, .int .i64 next, .bool false, .int .i64 xc, .int .i64 xs, .int .i64 xv, .int .i64 xr, .int .i64 xi, .int .i64 xo, .slice a L.length cp], .int .i64 0, .agg #[.int .i64 0, .int .i64 0, .int .i64 0, .int .i64 0, .int .i64 0, .int .i64 0], .int .i64 20])) w' :=
  ⟨⟨xc, xs, xv, xr, xi, xo⟩, a, cp, rfl, h, hb⟩
set_option maxRecDepth 100000 in
set_option maxHeartbeats 4000000 in
theorem rsend_closed (keep next xc xs xv xr xi xo : Int) (z : TotM) (L : List TotM) (a : Option Addr) (cp : Nat) (w : World) (hin : RsIs w ⟨keep, next, false, z, L⟩ ⟨xc, xs, xv, xr, xi, xo⟩ a cp) :
    Calls Try.prog 13 #[.agg #[.int .i64 keep, .int .i64 next, .bool false, .int .i64 xc, .int .i64 xs, .int .i64 xv, .int .i64 xr, .int .i64 xi, .int .i64 xo, .slice a L.length cp]] w (REndIs ⟨keep, next, false, z, L⟩ w) := by
  have HIN := hide hin
  clear hin
  go_enter Try.func13, Try.ntmps13
  go_upto_region 3 with (fail)
  obtain ⟨w4, hw4⟩ : ∃ w4, w4 = (((w.alloc (.cells #[.int .i64 keep, .int .i64 next, .bool false, .int .i64 xc, .int .i64 xs, .int .i64 xv, .int .i64 xr, .int .i64 xi, .int .i64 xo, .slice a L.length cp] 32)).alloc (.cells #[.int .i64 0, .int .i64 0, .bool false, .int .i64 0, .int .i64 0, .int .i64 0, .int .i64 0, .int .i64 0, .int .i64 0, .slice none 0 0] 32)).alloc (.cells #[.int .i64 0, .int .i64 0, .int .i64 0, .int .i64 0, .int .i64 0, .int .i64 0] 29)).alloc (.cells #[.int .i64 0, .int .i64 0, .int .i64 0, .int .i64 0, .int .i64 0, .int .i64 0] 29) := ⟨_, rfl⟩
  rw [← hw4]
  have XB := hide (show w4.heap[w.heap.size]? = some (.cells #[.int .i64 keep, .int .i64 next, .bool false, .int .i64 xc, .int .i64 xs, .int .i64 xv, .int .i64 xr, .int .i64 xi, .int .i64 xo, .slice a L.length cp] 32 (0, 0)) by rw [hw4, heap_old _ _ _ (by simp <;> omega), heap_old _ _ _ (by simp <;> omega), heap_old _ _ _ (by simp), heap_new])
  have XR := hide (show w4.heap[(w.heap.size + 1)]? = some (.cells #[.int .i64 0, .int .i64 0, .bool false, .int .i64 0, .int .i64 0, .int .i64 0, .int .i64 0, .int .i64 0, .int .i64 0, .slice none 0 0] 32 (0, 0)) by rw [hw4, heap_old _ _ _ (by simp <;> omega), heap_old _ _ _ (by simp)]; exact heap_alloc2_new w _ _)
  have XT := hide (show w4.heap[(w.heap.size + 1 + 1)]? = some (.cells #[.int .i64 0, .int .i64 0, .int .i64 0, .int .i64 0, .int .i64 0, .int .i64 0] 29 (0, 0)) by rw [hw4, heap_old _ _ _ (by simp)]; exact heap_alloc3_new w _ _ _)
  have XN := hide (show w4.heap[(w.heap.size + 1 + 1 + 1)]? = some (.cells #[.int .i64 0, .int .i64 0, .int .i64 0, .int .i64 0, .int .i64 0, .int .i64 0] 29 (0, 0)) by rw [hw4]; exact heap_alloc4_new w _ _ _ _)
  have BB := hide (show Below w.heap.size w w4 by rw [hw4]; exact ((((Below.refl w.heap.size w).alloc (Nat.le_refl _) _).alloc (by simp) _).alloc (by simp <;> omega) _).alloc (by simp <;> omega) _)
  clear hw4
  obtain ⟨bb, hbb⟩ : ∃ k, w.heap.size = k := ⟨_, rfl⟩
  obtain ⟨rb, hrb⟩ : ∃ k, bb + 1 = k := ⟨_, rfl⟩
  obtain ⟨tb, htb⟩ : ∃ k, rb + 1 = k := ⟨_, rfl⟩
  obtain ⟨nn, hnn⟩ : ∃ k, tb + 1 = k := ⟨_, rfl⟩
  rw [hbb] at XB XR XT XN ⊢
  rw [hrb] at XR XT XN ⊢
  rw [htb] at XT XN ⊢
  rw [hnn] at XN ⊢
  have HBbb := hide (show w.heap.size ≤ bb by omega)
  have HBrb := hide (show w.heap.size ≤ rb by omega)
  have HBtb := hide (show w.heap.size ≤ tb by omega)
  have HNB := hide (show bb ≠ rb ∧ bb ≠ tb by omega)
  have HNR := hide (show rb ≠ tb ∧ rb ≠ nn by omega)
  have HNT := hide (show tb ≠ nn by omega)
  have HBB := hide hbb
  clear hbb hrb htb hnn
  have XB0 := hide (show w4.drew.heap[bb]? = _ from XB.out)
  have XR0 := hide (show w4.drew.heap[rb]? = _ from XR.out)
  have XT0 := hide (show w4.drew.heap[tb]? = _ from XT.out)
  have XN0 := hide (show w4.drew.heap[nn]? = _ from XN.out)
  have BB0 := hide BB.out.drew
  clear XB XR XT XN BB
  refine wp_region_held_drew (S := (fun W => W.heap[bb]? = some (.cells #[.int .i64 keep, .int .i64 next, .bool false, .int .i64 xc, .int .i64 xs, .int .i64 xv, .int .i64 xr, .int .i64 xi, .int .i64 xo, .slice a L.length cp] 32 (0, 0)) ∧ W.heap[nn]? = some (.cells #[.int .i64 0, .int .i64 0, .int .i64 0, .int .i64 0, .int .i64 0, .int .i64 0] 29 (0, 0)) ∧ W.heap[tb]? = some (.cells #[.int .i64 0, .int .i64 0, .int .i64 0, .int .i64 0, .int .i64 0, .int .i64 0] 29 (0, 0)))) (by kernel_rfl) (⟨XB0.out, XN0.out, XT0.out⟩) (fun hHeld => ?_)
  generalize w4.drew = u0 at *
  refine wpAnyH_take (i := 0) (oi := { dst := some 13, op := Op.load 32 (Operand.tmp 1), type := 32, pos := "ref.go:92", after := #[], guard := none }) (v := ?_) rfl (by kernel_rfl) (by kernel_rfl) (by kernel_rfl) (fun _ _ _ h => h) (Or.inl ⟨by kernel_rfl, ?_⟩) hHeld ?_
  rotate_left
  · (intro w hSw; (try dsimp only at hSw); have e0 := cell_of_block hSw.1 0; have e1 := cell_of_block hSw.1 1; have e2 := cell_of_block hSw.1 2; have e3 := cell_of_block hSw.1 3; have e4 := cell_of_block hSw.1 4; have e5 := cell_of_block hSw.1 5; have e6 := cell_of_block hSw.1 6; have e7 := cell_of_block hSw.1 7; have e8 := cell_of_block hSw.1 8; have e9 := cell_of_block hSw.1 9; have g0 := cell_of_block hSw.2.1 0; have g1 := cell_of_block hSw.2.1 1; have g2 := cell_of_block hSw.2.1 2; have g3 := cell_of_block hSw.2.1 3; have g4 := cell_of_block hSw.2.1 4; have g5 := cell_of_block hSw.2.1 5; go_simp); try with_reducible rfl
  try simp only [Act.put, List.setIfInBounds_toArray, List.set_cons_zero, List.set_cons_succ]
  refine wpAnyH_take (i := 1) (oi := { dst := some 14, op := Op.load 29 (Operand.tmp 6), type := 29, pos := "ref.go:92", after := #[{ on := 3, ground := Ground.gcOnly Departure.lateStores }], guard := none }) (v := ?_) rfl (by kernel_rfl) (by kernel_rfl) (by kernel_rfl) (fun _ _ _ h => h) (Or.inl ⟨by kernel_rfl, ?_⟩) hHeld ?_
  rotate_left
  · (intro w hSw; (try dsimp only at hSw); have e0 := cell_of_block hSw.1 0; have e1 := cell_of_block hSw.1 1; have e2 := cell_of_block hSw.1 2; have e3 := cell_of_block hSw.1 3; have e4 := cell_of_block hSw.1 4; have e5 := cell_of_block hSw.1 5; have e6 := cell_of_block hSw.1 6; have e7 := cell_of_block hSw.1 7; have e8 := cell_of_block hSw.1 8; have e9 := cell_of_block hSw.1 9; have g0 := cell_of_block hSw.2.1 0; have g1 := cell_of_block hSw.2.1 1; have g2 := cell_of_block hSw.2.1 2; have g3 := cell_of_block hSw.2.1 3; have g4 := cell_of_block hSw.2.1 4; have g5 := cell_of_block hSw.2.1 5; go_simp); try with_reducible rfl
  try simp only [Act.put, List.setIfInBounds_toArray, List.set_cons_zero, List.set_cons_succ]
  refine wpAnyH_ready (rs := [2]) (by kernel_rfl) (by simp) (AllReadyH.cons (o := { dst := none, op := Op.store 32 (Operand.tmp 2) (Operand.tmp 13), type := 0, pos := "ref.go:92", after := #[{ on := 0, ground := Ground.data }, { on := 0, ground := Ground.phase }, { on := 1, ground := Ground.textOnly Departure.lateStores }], guard := none }) rfl (fun K hK => ?_) AllReadyH.nil)
  have hOld := hide hHeld
  clear hHeld
  obtain ⟨⟨d0, d1, d2, d3, d4, d5, d6, d7, d8, d9⟩, ⟨e0, e1, e2, e3, e4, e5, e6, e7, e8, e9⟩⟩ := sh_facts XR0.out
  go_simp
  clear d0 d1 d2 d3 d4 d5 d6 d7 d8 d9 e0 e1 e2 e3 e4 e5 e6 e7 e8 e9
  have Hr0 := hide (show (u0.setCell ⟨rb, 0, none⟩ (.int .i64 keep)).heap[rb]? = some (.cells #[.int .i64 keep, .int .i64 0, .bool false, .int .i64 0, .int .i64 0, .int .i64 0, .int .i64 0, .int .i64 0, .int .i64 0, .slice none 0 0] 32 (0, 0)) from block_setCell XR0.out 0 (.int .i64 keep))
  have Br0 := hide (BB0.out.setCell (p := ⟨rb, 0, none⟩) HBrb.out (.int .i64 keep))
  have XBr0 := hide ((block_setCell_other HNB.out.1.symm 0 (.int .i64 keep)).trans XB0.out)
  have XTr0 := hide ((block_setCell_other HNR.out.1 0 (.int .i64 keep)).trans XT0.out)
  have XNr0 := hide ((block_setCell_other HNR.out.2 0 (.int .i64 keep)).trans XN0.out)
  generalize u0.setCell ⟨rb, 0, none⟩ (.int .i64 keep) = wr0 at *
  have Hr1 := hide (show (wr0.setCell ⟨rb, 1, none⟩ (.int .i64 next)).heap[rb]? = some (.cells #[.int .i64 keep, .int .i64 next, .bool false, .int .i64 0, .int .i64 0, .int .i64 0, .int .i64 0, .int .i64 0, .int .i64 0, .slice none 0 0] 32 (0, 0)) from block_setCell Hr0.out 1 (.int .i64 next))
  have Br1 := hide (Br0.out.setCell (p := ⟨rb, 1, none⟩) HBrb.out (.int .i64 next))
  have XBr1 := hide ((block_setCell_other HNB.out.1.symm 1 (.int .i64 next)).trans XBr0.out)
  have XTr1 := hide ((block_setCell_other HNR.out.1 1 (.int .i64 next)).trans XTr0.out)
  have XNr1 := hide ((block_setCell_other HNR.out.2 1 (.int .i64 next)).trans XNr0.out)
  generalize wr0.setCell ⟨rb, 1, none⟩ (.int .i64 next) = wr1 at *
  have Hr2 := hide (show (wr1.setCell ⟨rb, 2, none⟩ (.bool false)).heap[rb]? = some (.cells #[.int .i64 keep, .int .i64 next, .bool false, .int .i64 0, .int .i64 0, .int .i64 0, .int .i64 0, .int .i64 0, .int .i64 0, .slice none 0 0] 32 (0, 0)) from block_setCell Hr1.out 2 (.bool false))
  have Br2 := hide (Br1.out.setCell (p := ⟨rb, 2, none⟩) HBrb.out (.bool false))
  have XBr2 := hide ((block_setCell_other HNB.out.1.symm 2 (.bool false)).trans XBr1.out)
  have XTr2 := hide ((block_setCell_other HNR.out.1 2 (.bool false)).trans XTr1.out)
  have XNr2 := hide ((block_setCell_other HNR.out.2 2 (.bool false)).trans XNr1.out)
  generalize wr1.setCell ⟨rb, 2, none⟩ (.bool false) = wr2 at *
  have Hr3 := hide (show (wr2.setCell ⟨rb, 3, none⟩ (.int .i64 xc)).heap[rb]? = some (.cells #[.int .i64 keep, .int .i64 next, .bool false, .int .i64 xc, .int .i64 0, .int .i64 0, .int .i64 0, .int .i64 0, .int .i64 0, .slice none 0 0] 32 (0, 0)) from block_setCell Hr2.out 3 (.int .i64 xc))
  have Br3 := hide (Br2.out.setCell (p := ⟨rb, 3, none⟩) HBrb.out (.int .i64 xc))
  have XBr3 := hide ((block_setCell_other HNB.out.1.symm 3 (.int .i64 xc)).trans XBr2.out)
  have XTr3 := hide ((block_setCell_other HNR.out.1 3 (.int .i64 xc)).trans XTr2.out)
  have XNr3 := hide ((block_setCell_other HNR.out.2 3 (.int .i64 xc)).trans XNr2.out)
  generalize wr2.setCell ⟨rb, 3, none⟩ (.int .i64 xc) = wr3 at *
  have Hr4 := hide (show (wr3.setCell ⟨rb, 4, none⟩ (.int .i64 xs)).heap[rb]? = some (.cells #[.int .i64 keep, .int .i64 next, .bool false, .int .i64 xc, .int .i64 xs, .int .i64 0, .int .i64 0, .int .i64 0, .int .i64 0, .slice none 0 0] 32 (0, 0)) from block_setCell Hr3.out 4 (.int .i64 xs))
  have Br4 := hide (Br3.out.setCell (p := ⟨rb, 4, none⟩) HBrb.out (.int .i64 xs))
  have XBr4 := hide ((block_setCell_other HNB.out.1.symm 4 (.int .i64 xs)).trans XBr3.out)
  have XTr4 := hide ((block_setCell_other HNR.out.1 4 (.int .i64 xs)).trans XTr3.out)
  have XNr4 := hide ((block_setCell_other HNR.out.2 4 (.int .i64 xs)).trans XNr3.out)
  generalize wr3.setCell ⟨rb, 4, none⟩ (.int .i64 xs) = wr4 at *
  have Hr5 := hide (show (wr4.setCell ⟨rb, 5, none⟩ (.int .i64 xv)).heap[rb]? = some (.cells #[.int .i64 keep, .int .i64 next, .bool false, .int .i64 xc, .int .i64 xs, .int .i64 xv, .int .i64 0, .int .i64 0, .int .i64 0, .slice none 0 0] 32 (0, 0)) from block_setCell Hr4.out 5 (.int .i64 xv))
  have Br5 := hide (Br4.out.setCell (p := ⟨rb, 5, none⟩) HBrb.out (.int .i64 xv))
  have XBr5 := hide ((block_setCell_other HNB.out.1.symm 5 (.int .i64 xv)).trans XBr4.out)
  have XTr5 := hide ((block_setCell_other HNR.out.1 5 (.int .i64 xv)).trans XTr4.out)
  have XNr5 := hide ((block_setCell_other HNR.out.2 5 (.int .i64 xv)).trans XNr4.out)
  generalize wr4.setCell ⟨rb, 5, none⟩ (.int .i64 xv) = wr5 at *
  have Hr6 := hide (show (wr5.setCell ⟨rb, 6, none⟩ (.int .i64 xr)).heap[rb]? = some (.cells #[.int .i64 keep, .int .i64 next, .bool false, .int .i64 xc, .int .i64 xs, .int .i64 xv, .int .i64 xr, .int .i64 0, .int .i64 0, .slice none 0 0] 32 (0, 0)) from block_setCell Hr5.out 6 (.int .i64 xr))
  have Br6 := hide (Br5.out.setCell (p := ⟨rb, 6, none⟩) HBrb.out (.int .i64 xr))
  have XBr6 := hide ((block_setCell_other HNB.out.1.symm 6 (.int .i64 xr)).trans XBr5.out)
  have XTr6 := hide ((block_setCell_other HNR.out.1 6 (.int .i64 xr)).trans XTr5.out)
  have XNr6 := hide ((block_setCell_other HNR.out.2 6 (.int .i64 xr)).trans XNr5.out)
  generalize wr5.setCell ⟨rb, 6, none⟩ (.int .i64 xr) = wr6 at *
  have Hr7 := hide (show (wr6.setCell ⟨rb, 7, none⟩ (.int .i64 xi)).heap[rb]? = some (.cells #[.int .i64 keep, .int .i64 next, .bool false, .int .i64 xc, .int .i64 xs, .int .i64 xv, .int .i64 xr, .int .i64 xi, .int .i64 0, .slice none 0 0] 32 (0, 0)) from block_setCell Hr6.out 7 (.int .i64 xi))
  have Br7 := hide (Br6.out.setCell (p := ⟨rb, 7, none⟩) HBrb.out (.int .i64 xi))
  have XBr7 := hide ((block_setCell_other HNB.out.1.symm 7 (.int .i64 xi)).trans XBr6.out)
  have XTr7 := hide ((block_setCell_other HNR.out.1 7 (.int .i64 xi)).trans XTr6.out)
  have XNr7 := hide ((block_setCell_other HNR.out.2 7 (.int .i64 xi)).trans XNr6.out)
  generalize wr6.setCell ⟨rb, 7, none⟩ (.int .i64 xi) = wr7 at *
  have Hr8 := hide (show (wr7.setCell ⟨rb, 8, none⟩ (.int .i64 xo)).heap[rb]? = some (.cells #[.int .i64 keep, .int .i64 next, .bool false, .int .i64 xc, .int .i64 xs, .int .i64 xv, .int .i64 xr, .int .i64 xi, .int .i64 xo, .slice none 0 0] 32 (0, 0)) from block_setCell Hr7.out 8 (.int .i64 xo))
  have Br8 := hide (Br7.out.setCell (p := ⟨rb, 8, none⟩) HBrb.out (.int .i64 xo))
  have XBr8 := hide ((block_setCell_other HNB.out.1.symm 8 (.int .i64 xo)).trans XBr7.out)
  have XTr8 := hide ((block_setCell_other HNR.out.1 8 (.int .i64 xo)).trans XTr7.out)
  have XNr8 := hide ((block_setCell_other HNR.out.2 8 (.int .i64 xo)).trans XNr7.out)
  generalize wr7.setCell ⟨rb, 8, none⟩ (.int .i64 xo) = wr8 at *
  have Hr9 := hide (show (wr8.setCell ⟨rb, 9, none⟩ (.slice a L.length cp)).heap[rb]? = some (.cells #[.int .i64 keep, .int .i64 next, .bool false, .int .i64 xc, .int .i64 xs, .int .i64 xv, .int .i64 xr, .int .i64 xi, .int .i64 xo, .slice a L.length cp] 32 (0, 0)) from block_setCell Hr8.out 9 (.slice a L.length cp))
  have Br9 := hide (Br8.out.setCell (p := ⟨rb, 9, none⟩) HBrb.out (.slice a L.length cp))
  have XBr9 := hide ((block_setCell_other HNB.out.1.symm 9 (.slice a L.length cp)).trans XBr8.out)
  have XTr9 := hide ((block_setCell_other HNR.out.1 9 (.slice a L.length cp)).trans XTr8.out)
  have XNr9 := hide ((block_setCell_other HNR.out.2 9 (.slice a L.length cp)).trans XNr8.out)
  generalize wr8.setCell ⟨rb, 9, none⟩ (.slice a L.length cp) = wr9 at *
  refine hK.out _ _ (⟨XBr9.out, XNr9.out, XTr9.out⟩) (fun hHeld => ?_)
  clear hK K hOld
  try simp only [Act.put, List.setIfInBounds_toArray, List.set_cons_zero, List.set_cons_succ]
  refine wpAnyH_take (i := 3) (oi := { dst := some 3, op := Op.assign (Operand.const (Value.int IntKind.i64 0)), type := 3, pos := "ref.go:92", after := #[{ on := 2, ground := Ground.chain }, { on := 0, ground := Ground.phase }, { on := 1, ground := Ground.textOnly Departure.lateStores }, { on := 2, ground := Ground.phase }], guard := none }) (v := ?_) rfl (by kernel_rfl) (by kernel_rfl) (by kernel_rfl) (fun _ _ _ h => h) (Or.inl ⟨by kernel_rfl, ?_⟩) hHeld ?_
  rotate_left
  · (intro w hSw; (try dsimp only at hSw); have e0 := cell_of_block hSw.1 0; have e1 := cell_of_block hSw.1 1; have e2 := cell_of_block hSw.1 2; have e3 := cell_of_block hSw.1 3; have e4 := cell_of_block hSw.1 4; have e5 := cell_of_block hSw.1 5; have e6 := cell_of_block hSw.1 6; have e7 := cell_of_block hSw.1 7; have e8 := cell_of_block hSw.1 8; have e9 := cell_of_block hSw.1 9; have g0 := cell_of_block hSw.2.1 0; have g1 := cell_of_block hSw.2.1 1; have g2 := cell_of_block hSw.2.1 2; have g3 := cell_of_block hSw.2.1 3; have g4 := cell_of_block hSw.2.1 4; have g5 := cell_of_block hSw.2.1 5; go_simp); try with_reducible rfl
  try simp only [Act.put, List.setIfInBounds_toArray, List.set_cons_zero, List.set_cons_succ]
  refine wpAnyH_ready (rs := [4]) (by kernel_rfl) (by simp) (AllReadyH.cons (o := { dst := none, op := Op.store 29 (Operand.tmp 4) (Operand.tmp 14), type := 0, pos := "ref.go:92", after := #[{ on := 1, ground := Ground.data }, { on := 3, ground := Ground.chain }, { on := 0, ground := Ground.phase }, { on := 1, ground := Ground.phase }, { on := 2, ground := Ground.phase }, { on := 3, ground := Ground.phase }], guard := none }) rfl (fun K hK => ?_) AllReadyH.nil)
  have hOld := hide hHeld
  clear hHeld
  obtain ⟨⟨g0, g1, g2, g3, g4, g5⟩, ⟨q0, q1, q2, q3, q4, q5⟩⟩ := six_facts XTr9.out
  go_simp
  clear g0 g1 g2 g3 g4 g5 q0 q1 q2 q3 q4 q5
  have Ht0 := hide (show (wr9.setCell ⟨tb, 0, none⟩ (.int .i64 0)).heap[tb]? = some (.cells #[.int .i64 0, .int .i64 0, .int .i64 0, .int .i64 0, .int .i64 0, .int .i64 0] 29 (0, 0)) from block_setCell XTr9.out 0 (.int .i64 0))
  have Bt0 := hide (Br9.out.setCell (p := ⟨tb, 0, none⟩) HBtb.out (.int .i64 0))
  have XRt0 := hide ((block_setCell_other HNR.out.1.symm 0 (.int .i64 0)).trans Hr9.out)
  have XBt0 := hide ((block_setCell_other HNB.out.2.symm 0 (.int .i64 0)).trans XBr9.out)
  have XNt0 := hide ((block_setCell_other HNT.out 0 (.int .i64 0)).trans XNr9.out)
  generalize wr9.setCell ⟨tb, 0, none⟩ (.int .i64 0) = wt0 at *
  have Ht1 := hide (show (wt0.setCell ⟨tb, 1, none⟩ (.int .i64 0)).heap[tb]? = some (.cells #[.int .i64 0, .int .i64 0, .int .i64 0, .int .i64 0, .int .i64 0, .int .i64 0] 29 (0, 0)) from block_setCell Ht0.out 1 (.int .i64 0))
  have Bt1 := hide (Bt0.out.setCell (p := ⟨tb, 1, none⟩) HBtb.out (.int .i64 0))
  have XRt1 := hide ((block_setCell_other HNR.out.1.symm 1 (.int .i64 0)).trans XRt0.out)
  have XBt1 := hide ((block_setCell_other HNB.out.2.symm 1 (.int .i64 0)).trans XBt0.out)
  have XNt1 := hide ((block_setCell_other HNT.out 1 (.int .i64 0)).trans XNt0.out)
  generalize wt0.setCell ⟨tb, 1, none⟩ (.int .i64 0) = wt1 at *
  have Ht2 := hide (show (wt1.setCell ⟨tb, 2, none⟩ (.int .i64 0)).heap[tb]? = some (.cells #[.int .i64 0, .int .i64 0, .int .i64 0, .int .i64 0, .int .i64 0, .int .i64 0] 29 (0, 0)) from block_setCell Ht1.out 2 (.int .i64 0))
  have Bt2 := hide (Bt1.out.setCell (p := ⟨tb, 2, none⟩) HBtb.out (.int .i64 0))
  have XRt2 := hide ((block_setCell_other HNR.out.1.symm 2 (.int .i64 0)).trans XRt1.out)
  have XBt2 := hide ((block_setCell_other HNB.out.2.symm 2 (.int .i64 0)).trans XBt1.out)
  have XNt2 := hide ((block_setCell_other HNT.out 2 (.int .i64 0)).trans XNt1.out)
  generalize wt1.setCell ⟨tb, 2, none⟩ (.int .i64 0) = wt2 at *
  have Ht3 := hide (show (wt2.setCell ⟨tb, 3, none⟩ (.int .i64 0)).heap[tb]? = some (.cells #[.int .i64 0, .int .i64 0, .int .i64 0, .int .i64 0, .int .i64 0, .int .i64 0] 29 (0, 0)) from block_setCell Ht2.out 3 (.int .i64 0))
  have Bt3 := hide (Bt2.out.setCell (p := ⟨tb, 3, none⟩) HBtb.out (.int .i64 0))
  have XRt3 := hide ((block_setCell_other HNR.out.1.symm 3 (.int .i64 0)).trans XRt2.out)
  have XBt3 := hide ((block_setCell_other HNB.out.2.symm 3 (.int .i64 0)).trans XBt2.out)
  have XNt3 := hide ((block_setCell_other HNT.out 3 (.int .i64 0)).trans XNt2.out)
  generalize wt2.setCell ⟨tb, 3, none⟩ (.int .i64 0) = wt3 at *
  have Ht4 := hide (show (wt3.setCell ⟨tb, 4, none⟩ (.int .i64 0)).heap[tb]? = some (.cells #[.int .i64 0, .int .i64 0, .int .i64 0, .int .i64 0, .int .i64 0, .int .i64 0] 29 (0, 0)) from block_setCell Ht3.out 4 (.int .i64 0))
  have Bt4 := hide (Bt3.out.setCell (p := ⟨tb, 4, none⟩) HBtb.out (.int .i64 0))
  have XRt4 := hide ((block_setCell_other HNR.out.1.symm 4 (.int .i64 0)).trans XRt3.out)
  have XBt4 := hide ((block_setCell_other HNB.out.2.symm 4 (.int .i64 0)).trans XBt3.out)
  have XNt4 := hide ((block_setCell_other HNT.out 4 (.int .i64 0)).trans XNt3.out)
  generalize wt3.setCell ⟨tb, 4, none⟩ (.int .i64 0) = wt4 at *
  have Ht5 := hide (show (wt4.setCell ⟨tb, 5, none⟩ (.int .i64 0)).heap[tb]? = some (.cells #[.int .i64 0, .int .i64 0, .int .i64 0, .int .i64 0, .int .i64 0, .int .i64 0] 29 (0, 0)) from block_setCell Ht4.out 5 (.int .i64 0))
  have Bt5 := hide (Bt4.out.setCell (p := ⟨tb, 5, none⟩) HBtb.out (.int .i64 0))
  have XRt5 := hide ((block_setCell_other HNR.out.1.symm 5 (.int .i64 0)).trans XRt4.out)
  have XBt5 := hide ((block_setCell_other HNB.out.2.symm 5 (.int .i64 0)).trans XBt4.out)
  have XNt5 := hide ((block_setCell_other HNT.out 5 (.int .i64 0)).trans XNt4.out)
  generalize wt4.setCell ⟨tb, 5, none⟩ (.int .i64 0) = wt5 at *
  refine hK.out _ _ (⟨XBt5.out, XNt5.out, Ht5.out⟩) (fun hHeld => ?_)
  clear hK K hOld
  try simp only [Act.put, List.setIfInBounds_toArray, List.set_cons_zero, List.set_cons_succ]
  refine wpAnyH_take (i := 5) (oi := { dst := some 5, op := Op.assign (Operand.const (Value.int IntKind.i64 20)), type := 3, pos := "ref.go:92", after := #[{ on := 4, ground := Ground.chain }, { on := 0, ground := Ground.phase }, { on := 1, ground := Ground.phase }, { on := 2, ground := Ground.phase }, { on := 3, ground := Ground.phase }, { on := 4, ground := Ground.phase }], guard := none }) (v := ?_) rfl (by kernel_rfl) (by kernel_rfl) (by kernel_rfl) (fun _ _ _ h => h) (Or.inl ⟨by kernel_rfl, ?_⟩) hHeld ?_
  rotate_left
  · (intro w hSw; (try dsimp only at hSw); have e0 := cell_of_block hSw.1 0; have e1 := cell_of_block hSw.1 1; have e2 := cell_of_block hSw.1 2; have e3 := cell_of_block hSw.1 3; have e4 := cell_of_block hSw.1 4; have e5 := cell_of_block hSw.1 5; have e6 := cell_of_block hSw.1 6; have e7 := cell_of_block hSw.1 7; have e8 := cell_of_block hSw.1 8; have e9 := cell_of_block hSw.1 9; have g0 := cell_of_block hSw.2.1 0; have g1 := cell_of_block hSw.2.1 1; have g2 := cell_of_block hSw.2.1 2; have g3 := cell_of_block hSw.2.1 3; have g4 := cell_of_block hSw.2.1 4; have g5 := cell_of_block hSw.2.1 5; go_simp); try with_reducible rfl
  try simp only [Act.put, List.setIfInBounds_toArray, List.set_cons_zero, List.set_cons_succ]
  refine wpAnyH_done (by kernel_rfl) ?_ _
  clear hHeld
  go_wp2_with fail
  (try simp only [Exit.inBlock, Exit.then])
  refine bodyPost_ret (res_ctct (P := Try.prog) rfl _ wt5 rb tb 32 29 #[.int .i64 keep, .int .i64 next, .bool false, .int .i64 xc, .int .i64 xs, .int .i64 xv, .int .i64 xr, .int .i64 xi, .int .i64 xo, .slice a L.length cp] #[.int .i64 0, .int .i64 0, .int .i64 0, .int .i64 0, .int .i64 0, .int .i64 0] _ _ rfl rfl XRt5.out Ht5.out Try.underlying32 Try.underlying29 rfl rfl (by kernel_rfl) (by kernel_rfl)) rfl ?_
  exact rsend_no (HIN.out.below Bt5.out) Bt5.out
/-- the kept ones, as far as they are gone through -/
theorem drop_next (L : List TotM) (d k : Nat) (hd : d ≤ 1) (hk : k < L.length) (h : 0 < k ∨ d = 0) : (L.take (k + 1)).drop d = (L.take k).drop d ++ [L.getD k tot0] := by
  have e : L.take (k + 1) = L.take k ++ [L.getD k tot0] := by
    rw [List.take_add_one]
    simp [List.getD, hk]
  rw [e, List.drop_append_of_le_length (by rw [List.length_take]; omega)]
theorem drop_none (L : List TotM) : (L.take 1).drop 1 = (L.take 0).drop 1 := by
  cases L <;> rfl
set_option maxRecDepth 100000 in
set_option maxHeartbeats 8000000 in
theorem rsend_open (keep next xc xs xv xr xi xo : Int) (L : List TotM) (a : Option Addr) (cp : Nat) (w : World) (hok : ShOk ⟨keep, next, true, ⟨xc, xs, xv, xr, xi, xo⟩, L⟩) (hin : RsIs w ⟨keep, next, true, ⟨xc, xs, xv, xr, xi, xo⟩, L⟩ ⟨xc, xs, xv, xr, xi, xo⟩ a cp) :
    Calls Try.prog 13 #[.agg #[.int .i64 keep, .int .i64 next, .bool true, .int .i64 xc, .int .i64 xs, .int .i64 xv, .int .i64 xr, .int .i64 xi, .int .i64 xo, .slice a L.length cp]] w (REndIs ⟨keep, next, true, ⟨xc, xs, xv, xr, xi, xo⟩, L⟩ w) := by
  obtain ⟨i0, hi, hz0, hz1, hz2⟩ := info_parts (show (Try.prog.info? 29).map (fun i => (i.zero, i.size, i.bytes)) = some (some (.agg #[.int .i64 0, .int .i64 0, .int .i64 0, .int .i64 0, .int .i64 0, .int .i64 0]), 6, 48) by kernel_rfl)
  have HI := hide hi
  have HZ0 := hide hz0
  have HZ1 := hide hz1
  have HZ2 := hide hz2
  clear hi hz0 hz1 hz2
  have hkp : 1 ≤ keep ∧ keep ≤ 64 := hok.kp
  have hnx : 1 ≤ next ∧ next ≤ 4294967296 := hok.nx
  have hfew : (L.length : Int) ≤ keep := hok.few
  have hcI : (L.length : Int) ≤ (cp : Int) := by have h5 : L.length ≤ cp := hin.cap; omega
  have hwn : IntKind.i64.wrap (next - 1) = next - 1 := by rw [IntKind.wrap_i64]; omega
  obtain ⟨d, hd⟩ : ∃ d, L.length + 1 - keep.toNat = d := ⟨_, rfl⟩
  have hd1 : d ≤ 1 := by omega
  have hdl : d = 0 ↔ (L.length : Int) < keep := by omega
  have HEM := hide (show shEndM ⟨keep, next, true, ⟨xc, xs, xv, xr, xi, xo⟩, L⟩ = ⟨keep, next, false, tot0, (L ++ [TotM.mk xc xs xv xr xi xo]).drop d⟩ from by
    unfold shEndM
    dsimp only
    rw [if_pos rfl, hd])
  have HEN := hide (show shEndN ⟨keep, next, true, ⟨xc, xs, xv, xr, xi, xo⟩, L⟩ = next - 1 from by unfold shEndN; rw [if_pos rfl])
  have HIN := hide (show TsIn w a L from hin.ts)
  clear hin hok hd
  go_enter Try.func13, Try.ntmps13
  go_upto_region 4 with (fail)
  obtain ⟨w4, hw4⟩ : ∃ w4, w4 = (((w.alloc (.cells #[.int .i64 keep, .int .i64 next, .bool true, .int .i64 xc, .int .i64 xs, .int .i64 xv, .int .i64 xr, .int .i64 xi, .int .i64 xo, .slice a L.length cp] 32)).alloc (.cells #[.int .i64 0, .int .i64 0, .bool false, .int .i64 0, .int .i64 0, .int .i64 0, .int .i64 0, .int .i64 0, .int .i64 0, .slice none 0 0] 32)).alloc (.cells #[.int .i64 0, .int .i64 0, .int .i64 0, .int .i64 0, .int .i64 0, .int .i64 0] 29)).alloc (.cells #[.int .i64 0, .int .i64 0, .int .i64 0, .int .i64 0, .int .i64 0, .int .i64 0] 29) := ⟨_, rfl⟩
  rw [← hw4]
  have XB := hide (show w4.heap[w.heap.size]? = some (.cells #[.int .i64 keep, .int .i64 next, .bool true, .int .i64 xc, .int .i64 xs, .int .i64 xv, .int .i64 xr, .int .i64 xi, .int .i64 xo, .slice a L.length cp] 32 (0, 0)) by rw [hw4, heap_old _ _ _ (by simp <;> omega), heap_old _ _ _ (by simp <;> omega), heap_old _ _ _ (by simp), heap_new])
  have XR := hide (show w4.heap[(w.heap.size + 1)]? = some (.cells #[.int .i64 0, .int .i64 0, .bool false, .int .i64 0, .int .i64 0, .int .i64 0, .int .i64 0, .int .i64 0, .int .i64 0, .slice none 0 0] 32 (0, 0)) by rw [hw4, heap_old _ _ _ (by simp <;> omega), heap_old _ _ _ (by simp)]; exact heap_alloc2_new w _ _)
  have XT := hide (show w4.heap[(w.heap.size + 1 + 1)]? = some (.cells #[.int .i64 0, .int .i64 0, .int .i64 0, .int .i64 0, .int .i64 0, .int .i64 0] 29 (0, 0)) by rw [hw4, heap_old _ _ _ (by simp)]; exact heap_alloc3_new w _ _ _)
  have XN := hide (show w4.heap[(w.heap.size + 1 + 1 + 1)]? = some (.cells #[.int .i64 0, .int .i64 0, .int .i64 0, .int .i64 0, .int .i64 0, .int .i64 0] 29 (0, 0)) by rw [hw4]; exact heap_alloc4_new w _ _ _ _)
  have BB := hide (show Below w.heap.size w w4 by rw [hw4]; exact ((((Below.refl w.heap.size w).alloc (Nat.le_refl _) _).alloc (by simp) _).alloc (by simp <;> omega) _).alloc (by simp <;> omega) _)
  clear hw4
  obtain ⟨bb, hbb⟩ : ∃ k, w.heap.size = k := ⟨_, rfl⟩
  obtain ⟨rb, hrb⟩ : ∃ k, bb + 1 = k := ⟨_, rfl⟩
  obtain ⟨tb, htb⟩ : ∃ k, rb + 1 = k := ⟨_, rfl⟩
  obtain ⟨nn, hnn⟩ : ∃ k, tb + 1 = k := ⟨_, rfl⟩
  rw [hbb] at XB XR XT XN ⊢
  rw [hrb] at XR XT XN ⊢
  rw [htb] at XT XN ⊢
  rw [hnn] at XN ⊢
  have HBbb := hide (show w.heap.size ≤ bb by omega)
  have HBrb := hide (show w.heap.size ≤ rb by omega)
  have HBtb := hide (show w.heap.size ≤ tb by omega)
  have HNB := hide (show bb ≠ rb ∧ bb ≠ tb by omega)
  have HNR := hide (show rb ≠ tb ∧ rb ≠ nn by omega)
  have HNT := hide (show tb ≠ nn by omega)
  have HBB := hide hbb
  clear hbb hrb htb hnn
  have TS := hide (HIN.out.below BB.out)
  clear HIN
  have e9 := cell_of_block XB.out 9
  go_wp2_with fail
  clear e9
  go_loopw [7, 8] (fun l i W => ∃ (k : Nat) (D : List TotM) (ag : Option Addr) (cg : Nat), k ≤ L.length ∧ D = (L.take k).drop d ∧ i = .int .i64 k ∧ l = .slice ag D.length cg ∧ W.ownsRow w4.heap.size 29 6 (.slice ag D.length cg) D.length (D.flatMap totC) ∧ Below w4.heap.size w4 W) (fun _ i _ => L.length - (intOf i).toNat)
  case atStart => exact ⟨0, [], none, 0, Nat.zero_le _, by simp, rfl, rfl, World.ownsRow_nil _ _ _ _, Below.refl _ _⟩
  case round =>
    obtain ⟨k, D, ag, cg, hk, hDD, rfl, rfl, ho, hb⟩ := hrel
    have HDD := hide hDD
    clear hDD
    have OW := hide ho
    have BW := hide hb
    clear ho hb
    have XBW := hide ((BW.out.block _ (heap_lt XB.out)).trans XB.out)
    have c0 := cell_of_block XBW.out 0
    have c9 := cell_of_block XBW.out 9
    by_cases hlt : k < L.length
    · by_cases happ : 0 < k ∨ d = 0
      · have HDN := hide (drop_next L d k hd1 hlt happ)
        obtain ⟨gg, rfl, hgl, hcell⟩ := (TS.out.below BW.out) k hlt
        have y0 := hcell 0 (by decide)
        have y1 := hcell 1 (by decide)
        have y2 := hcell 2 (by decide)
        have y3 := hcell 3 (by decide)
        have y4 := hcell 4 (by decide)
        have y5 := hcell 5 (by decide)
        generalize L.getD k tot0 = yy at *
        obtain ⟨yc, ys, yv, yr, yi, yo⟩ := yy
        simp only [totC, List.getElem?_cons_zero, List.getElem?_cons_succ, Nat.add_zero] at y0 y1 y2 y3 y4 y5
        have hll : D.length ≤ 64 := by rw [HDD.out, List.length_drop, List.length_take]; omega
        rw [← HDD.out] at HDN
        clear hcell
        have hA := (Below.refl wr.heap.size wr).alloc (Nat.le_refl _) (.cells #[.int .i64 yc, .int .i64 ys, .int .i64 yv, .int .i64 yr, .int .i64 yi, .int .i64 yo] 29)
        have OA := hide (owns_below OW.out hA)
        have BA := hide (BW.out.trans (hA.mono BW.out.size))
        have HNEW := hide (six_at (heap_new wr (.cells #[.int .i64 yc, .int .i64 ys, .int .i64 yv, .int .i64 yr, .int .i64 yi, .int .i64 yo] 29)))
        have HW5 := hide (show w4.heap.size ≤ (wr.alloc (.cells #[.int .i64 yc, .int .i64 ys, .int .i64 yv, .int .i64 yr, .int .i64 yi, .int .i64 yo] 29)).heap.size from BA.out.size)
        clear hA
        have HTEST := hide (show (0 < (k : Int)) ∨ (L.length : Int) < keep from happ.imp (fun h => by omega) (fun h => hdl.1 h))
        by_cases hk0 : 0 < (k : Int)
        · clear happ
          go_wp2_with (at_builtin; refine wpList_append_own2 _ rfl _ _ 30 rfl w4.heap.size 29 i0 (.agg #[.int .i64 0, .int .i64 0, .int .i64 0, .int .i64 0, .int .i64 0, .int .i64 0]) 6 48 Try.underlying30 HI.out HZ0.out HZ1.out HZ2.out rfl (by decide) (.slice ag D.length cg) D.length (D.flatMap totC) rfl OA.out ⟨wr.heap.size, 0, none⟩ 1 1 (by decide) [.int .i64 yc, .int .i64 ys, .int .i64 yv, .int .i64 yr, .int .i64 yi, .int .i64 yo] rfl rfl HNEW.out (totC_one ⟨yc, ys, yv, yr, yi, yo⟩) (by unfold maxLen; omega) (by omega) HW5.out ?_; intro g3 c3' w' ho hgr hnil; have HO6 := hide ho; have HGR := hide hgr; clear ho hgr hnil)
          go_roundw
          case rel => exact ⟨k + 1, D ++ [TotM.mk yc ys yv yr yi yo], some ⟨g3, 0, none⟩, c3', hlt, HDN.out.symm, by go_num, by simp, by rw [List.length_append, List.length_singleton, flat_snoc]; exact HO6.out, BA.out.grown HGR.out BA.out.size (fun j h => (OA.out.lt j h).1)⟩
          case measure => simp [intOf]; omega
        · have hk1 : (L.length : Int) < keep := HTEST.out.resolve_left hk0
          clear happ
          obtain rfl : k = 0 := by omega
          simp only [Nat.zero_mul, Nat.zero_add] at y0 y1 y2 y3 y4 y5
          go_wp2_with (at_builtin; refine wpList_append_own2 _ rfl _ _ 30 rfl w4.heap.size 29 i0 (.agg #[.int .i64 0, .int .i64 0, .int .i64 0, .int .i64 0, .int .i64 0, .int .i64 0]) 6 48 Try.underlying30 HI.out HZ0.out HZ1.out HZ2.out rfl (by decide) (.slice ag D.length cg) D.length (D.flatMap totC) rfl OA.out ⟨wr.heap.size, 0, none⟩ 1 1 (by decide) [.int .i64 yc, .int .i64 ys, .int .i64 yv, .int .i64 yr, .int .i64 yi, .int .i64 yo] rfl rfl HNEW.out (totC_one ⟨yc, ys, yv, yr, yi, yo⟩) (by unfold maxLen; omega) (by omega) HW5.out ?_; intro g3 c3' w' ho hgr hnil; have HO6 := hide ho; have HGR := hide hgr; clear ho hgr hnil)
          go_roundw
          case rel => exact ⟨0 + 1, D ++ [TotM.mk yc ys yv yr yi yo], some ⟨g3, 0, none⟩, c3', hlt, HDN.out.symm, by go_num, by simp, by rw [List.length_append, List.length_singleton, flat_snoc]; exact HO6.out, BA.out.grown HGR.out BA.out.size (fun j h => (OA.out.lt j h).1)⟩
          case measure => simp [intOf]; omega
      · have hk0 : ¬ 0 < (k : Int) := by omega
        have hk1 : ¬ (L.length : Int) < keep := fun h => happ (.inr (hdl.2 h))
        have HKZ := hide (show k = 0 by omega)
        have HDZ := hide (show d = 1 by omega)
        clear happ
        go_wp2_with fail
        go_roundw
        case rel => exact ⟨k + 1, D, ag, cg, hlt, by rw [HDD.out, HKZ.out, HDZ.out]; exact (drop_none L).symm, by go_num, rfl, OW.out, BW.out⟩
        case measure => simp [intOf]; omega
    · obtain rfl : k = L.length := by omega
      have HDL := hide (show (L ++ [TotM.mk xc xs xv xr xi xo]).drop d = L.drop d ++ [TotM.mk xc xs xv xr xi xo] from List.drop_append_of_le_length (by omega))
      rw [HDL.out] at HEM
      rw [List.take_length] at HDD
      have hll : D.length ≤ 64 := by rw [HDD.out, List.length_drop]; omega
      rw [← HDD.out] at HEM
      have XRW := hide ((BW.out.block _ (heap_lt XR.out)).trans XR.out)
      have XTW := hide ((BW.out.block _ (heap_lt XT.out)).trans XT.out)
      have BT := hide (BB.out.trans (BW.out.mono BB.out.size))
      clear c0 c9
      obtain ⟨⟨c0, c1, c2, c3, c4, c5, c6, c7, c8, c9⟩, ⟨f0, f1, f2, f3, f4, f5, f6, f7, f8, f9⟩⟩ := sh_facts XBW.out
      clear f0 f1 f2 f3 f4 f5 f6 f7 f8 f9
      have hA := (Below.refl wr.heap.size wr).alloc (Nat.le_refl _) (.cells #[.int .i64 xc, .int .i64 xs, .int .i64 xv, .int .i64 xr, .int .i64 xi, .int .i64 xo] 29)
      have OA := hide (owns_below OW.out hA)
      have BA := hide (BW.out.trans (hA.mono BW.out.size))
      have HNEW := hide (six_at (heap_new wr (.cells #[.int .i64 xc, .int .i64 xs, .int .i64 xv, .int .i64 xr, .int .i64 xi, .int .i64 xo] 29)))
      have HW5 := hide (show w4.heap.size ≤ (wr.alloc (.cells #[.int .i64 xc, .int .i64 xs, .int .i64 xv, .int .i64 xr, .int .i64 xi, .int .i64 xo] 29)).heap.size from BA.out.size)
      clear hA
      have HLTS := hide (show bb < w4.heap.size ∧ rb < w4.heap.size ∧ tb < w4.heap.size from ⟨heap_lt XB.out, heap_lt XR.out, heap_lt XT.out⟩)
      have XBA := hide (((Below.refl wr.heap.size wr).alloc (Nat.le_refl _) (.cells #[.int .i64 xc, .int .i64 xs, .int .i64 xv, .int .i64 xr, .int .i64 xi, .int .i64 xo] 29)).block _ (heap_lt XBW.out) |>.trans XBW.out)
      have XRA := hide (((Below.refl wr.heap.size wr).alloc (Nat.le_refl _) (.cells #[.int .i64 xc, .int .i64 xs, .int .i64 xv, .int .i64 xr, .int .i64 xi, .int .i64 xo] 29)).block _ (heap_lt XRW.out) |>.trans XRW.out)
      have XTA := hide (((Below.refl wr.heap.size wr).alloc (Nat.le_refl _) (.cells #[.int .i64 xc, .int .i64 xs, .int .i64 xv, .int .i64 xr, .int .i64 xi, .int .i64 xo] 29)).block _ (heap_lt XTW.out) |>.trans XTW.out)
      go_wp2_with (at_builtin; refine wpList_append_own2 _ rfl _ _ 30 rfl w4.heap.size 29 i0 (.agg #[.int .i64 0, .int .i64 0, .int .i64 0, .int .i64 0, .int .i64 0, .int .i64 0]) 6 48 Try.underlying30 HI.out HZ0.out HZ1.out HZ2.out rfl (by decide) (.slice ag D.length cg) D.length (D.flatMap totC) rfl OA.out ⟨wr.heap.size, 0, none⟩ 1 1 (by decide) [.int .i64 xc, .int .i64 xs, .int .i64 xv, .int .i64 xr, .int .i64 xi, .int .i64 xo] rfl rfl HNEW.out (totC_one ⟨xc, xs, xv, xr, xi, xo⟩) (by unfold maxLen; omega) (by omega) HW5.out ?_; intro g c3' w' ho hgr hnil; have HO6 := hide ho; have HGR := hide hgr; have HGE := hide hnil; clear ho hgr hnil c0 c1 c2 c3 c4 c5 c6 c7 c8 c9; have XBG := hide (grown_stays OA.out HGR.out XBA.out (by decide)); have c9 := cell_of_block XBG.out 9; have f9 := frozen_of_block XBG.out 9; have c2 := cell_of_block XBG.out 2; have f2 := frozen_of_block XBG.out 2)
      obtain ⟨R, hR⟩ : ∃ R, R = D ++ [TotM.mk xc xs xv xr xi xo] := ⟨_, rfl⟩
      have hRl : R.length = D.length + 1 := by rw [hR, List.length_append, List.length_singleton]
      rw [← hR] at HEM
      have HOR := hide (show w'.ownsRow w4.heap.size 29 6 (.slice (some ⟨g, 0, none⟩) R.length c3') R.length (R.flatMap totC) from by rw [hRl, hR, flat_snoc]; exact HO6.out)
      have HCG := hide (show R.length ≤ c3' from by
        rcases HOR.out.2 with ⟨h1, -⟩ | ⟨g', cap', cur, hv, -, -, h5, -⟩
        · cases h1
        · simp only [Value.slice.injEq] at hv
          obtain ⟨-, -, rfl⟩ := hv
          exact h5)
      have hgb : w4.heap.size ≤ g := by
        rcases HGE.out with h | h
        · exact (OA.out.lt g h).1
        · have := HW5.out; omega
      have HGG := hide (show (Value.slice (some ⟨g, 0, none⟩) R.length c3').ownBlock ≠ some bb ∧ (Value.slice (some ⟨g, 0, none⟩) R.length c3').ownBlock ≠ some rb ∧ (Value.slice (some ⟨g, 0, none⟩) R.length c3').ownBlock ≠ some tb from by
        have h := HLTS.out
        refine ⟨fun e => ?_, fun e => ?_, fun e => ?_⟩ <;> (have e2 : g = _ := Option.some.inj e; omega))
      have XRG := hide ((HGR.out.block rb (heap_lt XRA.out) (fun e => by have h1 := (OA.out.lt _ e.symm).1; have := HLTS.out; omega)).trans XRA.out)
      have XTG := hide ((HGR.out.block tb (heap_lt XTA.out) (fun e => by have h1 := (OA.out.lt _ e.symm).1; have := HLTS.out; omega)).trans XTA.out)
      have BG := hide ((BT.out.alloc BT.out.size (.cells #[.int .i64 xc, .int .i64 xs, .int .i64 xv, .int .i64 xr, .int .i64 xi, .int .i64 xo] 29)).grown HGR.out (Nat.le_trans BT.out.size (by simp)) (fun j h => Nat.le_trans BB.out.size (OA.out.lt j h).1))
      rw [← hRl]
      have HRR := hide hR
      clear hR hRl
      have XB1 := hide (block_setCell XBG.out 9 (.slice (some ⟨g, 0, none⟩) R.length c3'))
      have XB0 := hide (show ((w'.setCell ⟨bb, 9, none⟩ (.slice (some ⟨g, 0, none⟩) R.length c3')).setCell ⟨bb, 2, none⟩ (.bool false)).drew.heap[bb]? = some (.cells #[.int .i64 keep, .int .i64 next, .bool false, .int .i64 xc, .int .i64 xs, .int .i64 xv, .int .i64 xr, .int .i64 xi, .int .i64 xo, .slice (some ⟨g, 0, none⟩) R.length c3'] 32 (0, 0)) from block_setCell XB1.out 2 (.bool false))
      have XR0 := hide (show ((w'.setCell ⟨bb, 9, none⟩ (.slice (some ⟨g, 0, none⟩) R.length c3')).setCell ⟨bb, 2, none⟩ (.bool false)).drew.heap[rb]? = _ from (block_setCell_other HNB.out.1 2 (.bool false)).trans ((block_setCell_other HNB.out.1 9 (.slice (some ⟨g, 0, none⟩) R.length c3')).trans XRG.out))
      have XT0 := hide (show ((w'.setCell ⟨bb, 9, none⟩ (.slice (some ⟨g, 0, none⟩) R.length c3')).setCell ⟨bb, 2, none⟩ (.bool false)).drew.heap[tb]? = _ from (block_setCell_other HNB.out.2 2 (.bool false)).trans ((block_setCell_other HNB.out.2 9 (.slice (some ⟨g, 0, none⟩) R.length c3')).trans XTG.out))
      have OW0 := hide (show ((w'.setCell ⟨bb, 9, none⟩ (.slice (some ⟨g, 0, none⟩) R.length c3')).setCell ⟨bb, 2, none⟩ (.bool false)).drew.ownsRow w4.heap.size 29 6 (.slice (some ⟨g, 0, none⟩) R.length c3') R.length (R.flatMap totC) from ownsRow_setCell_other (ownsRow_setCell_other HOR.out HGG.out.1 _) HGG.out.1 _)
      have BB0 := hide (((BG.out.setCell (p := ⟨bb, 9, none⟩) HBbb.out (.slice (some ⟨g, 0, none⟩) R.length c3')).setCell (p := ⟨bb, 2, none⟩) HBbb.out (.bool false)).drew)
      clear XBG XRG XTG XB1 HOR HO6 XBA XRA XTA HGR HGE OA BA BG BT hgb c9 f9 c2 f2
      generalize (w'.setCell ⟨bb, 9, none⟩ (.slice (some ⟨g, 0, none⟩) R.length c3')).setCell ⟨bb, 2, none⟩ (.bool false) = wk1 at *
      refine wp_region_held_drew (S := (fun W => W.heap[bb]? = some (.cells #[.int .i64 keep, .int .i64 next, .bool false, .int .i64 xc, .int .i64 xs, .int .i64 xv, .int .i64 xr, .int .i64 xi, .int .i64 xo, .slice (some ⟨g, 0, none⟩) R.length c3'] 32 (0, 0)))) (by kernel_rfl) (XB0.out) (fun hHeld => ?_)
      generalize wk1.drew = u0 at *
      refine wpAnyH_take (i := 0) (oi := { dst := some 47, op := Op.load 32 (Operand.tmp 1), type := 32, pos := "ref.go:102", after := #[], guard := none }) (v := ?_) rfl (by kernel_rfl) (by kernel_rfl) (by kernel_rfl) (fun _ _ _ h => h) (Or.inl ⟨by kernel_rfl, ?_⟩) hHeld ?_
      rotate_left
      · (intro w hSw; (try dsimp only at hSw); have e0 := cell_of_block hSw 0; have e1 := cell_of_block hSw 1; have e2 := cell_of_block hSw 2; have e3 := cell_of_block hSw 3; have e4 := cell_of_block hSw 4; have e5 := cell_of_block hSw 5; have e6 := cell_of_block hSw 6; have e7 := cell_of_block hSw 7; have e8 := cell_of_block hSw 8; have e9 := cell_of_block hSw 9; go_simp); try with_reducible rfl
      try simp only [Act.put, List.setIfInBounds_toArray, List.set_cons_zero, List.set_cons_succ]
      refine wpAnyH_take (i := 1) (oi := { dst := some 48, op := Op.fieldAddr 32 (Operand.tmp 1) 1, type := 0, pos := "ref.go:102", after := #[{ on := 6, ground := Ground.gcOnly Departure.lateStores }], guard := none }) (v := ?_) rfl (by kernel_rfl) (by kernel_rfl) (by kernel_rfl) (fun _ _ _ h => h) (Or.inl ⟨by kernel_rfl, ?_⟩) hHeld ?_
      rotate_left
      · (intro w hSw; (try dsimp only at hSw); have e0 := cell_of_block hSw 0; have e1 := cell_of_block hSw 1; have e2 := cell_of_block hSw 2; have e3 := cell_of_block hSw 3; have e4 := cell_of_block hSw 4; have e5 := cell_of_block hSw 5; have e6 := cell_of_block hSw 6; have e7 := cell_of_block hSw 7; have e8 := cell_of_block hSw 8; have e9 := cell_of_block hSw 9; go_simp); try with_reducible rfl
      try simp only [Act.put, List.setIfInBounds_toArray, List.set_cons_zero, List.set_cons_succ]
      refine wpAnyH_take (i := 2) (oi := { dst := some 49, op := Op.load 3 (Operand.tmp 48), type := 3, pos := "ref.go:102", after := #[{ on := 1, ground := Ground.data }, { on := 6, ground := Ground.gcOnly Departure.lateStores }], guard := none }) (v := ?_) rfl (by kernel_rfl) (by kernel_rfl) (by kernel_rfl) (fun _ _ _ h => h) (Or.inl ⟨by kernel_rfl, ?_⟩) hHeld ?_
      rotate_left
      · (intro w hSw; (try dsimp only at hSw); have e0 := cell_of_block hSw 0; have e1 := cell_of_block hSw 1; have e2 := cell_of_block hSw 2; have e3 := cell_of_block hSw 3; have e4 := cell_of_block hSw 4; have e5 := cell_of_block hSw 5; have e6 := cell_of_block hSw 6; have e7 := cell_of_block hSw 7; have e8 := cell_of_block hSw 8; have e9 := cell_of_block hSw 9; go_simp); try with_reducible rfl
      try simp only [Act.put, List.setIfInBounds_toArray, List.set_cons_zero, List.set_cons_succ]
      refine wpAnyH_take (i := 3) (oi := { dst := some 50, op := Op.binOp BinOp.sub 3 (Operand.tmp 49) (Operand.const (Value.int IntKind.i64 1)) 3, type := 3, pos := "ref.go:102", after := #[{ on := 2, ground := Ground.data }, { on := 6, ground := Ground.gcOnly Departure.lateStores }], guard := none }) (v := ?_) rfl (by kernel_rfl) (by kernel_rfl) (by kernel_rfl) (fun _ _ _ h => h) (Or.inl ⟨by kernel_rfl, ?_⟩) hHeld ?_
      rotate_left
      · (intro w hSw; (try dsimp only at hSw); have e0 := cell_of_block hSw 0; have e1 := cell_of_block hSw 1; have e2 := cell_of_block hSw 2; have e3 := cell_of_block hSw 3; have e4 := cell_of_block hSw 4; have e5 := cell_of_block hSw 5; have e6 := cell_of_block hSw 6; have e7 := cell_of_block hSw 7; have e8 := cell_of_block hSw 8; have e9 := cell_of_block hSw 9; go_simp); try with_reducible rfl
      try simp only [Act.put, List.setIfInBounds_toArray, List.set_cons_zero, List.set_cons_succ]
      refine wpAnyH_take (i := 4) (oi := { dst := some 51, op := Op.fieldAddr 32 (Operand.tmp 1) 3, type := 0, pos := "ref.go:102", after := #[{ on := 7, ground := Ground.gcOnly Departure.lateStores }], guard := none }) (v := ?_) rfl (by kernel_rfl) (by kernel_rfl) (by kernel_rfl) (fun _ _ _ h => h) (Or.inl ⟨by kernel_rfl, ?_⟩) hHeld ?_
      rotate_left
      · (intro w hSw; (try dsimp only at hSw); have e0 := cell_of_block hSw 0; have e1 := cell_of_block hSw 1; have e2 := cell_of_block hSw 2; have e3 := cell_of_block hSw 3; have e4 := cell_of_block hSw 4; have e5 := cell_of_block hSw 5; have e6 := cell_of_block hSw 6; have e7 := cell_of_block hSw 7; have e8 := cell_of_block hSw 8; have e9 := cell_of_block hSw 9; go_simp); try with_reducible rfl
      try simp only [Act.put, List.setIfInBounds_toArray, List.set_cons_zero, List.set_cons_succ]
      refine wpAnyH_take (i := 5) (oi := { dst := some 52, op := Op.load 29 (Operand.tmp 51), type := 29, pos := "ref.go:102", after := #[{ on := 4, ground := Ground.data }, { on := 7, ground := Ground.gcOnly Departure.lateStores }], guard := none }) (v := ?_) rfl (by kernel_rfl) (by kernel_rfl) (by kernel_rfl) (fun _ _ _ h => h) (Or.inl ⟨by kernel_rfl, ?_⟩) hHeld ?_
      rotate_left
      · (intro w hSw; (try dsimp only at hSw); have e0 := cell_of_block hSw 0; have e1 := cell_of_block hSw 1; have e2 := cell_of_block hSw 2; have e3 := cell_of_block hSw 3; have e4 := cell_of_block hSw 4; have e5 := cell_of_block hSw 5; have e6 := cell_of_block hSw 6; have e7 := cell_of_block hSw 7; have e8 := cell_of_block hSw 8; have e9 := cell_of_block hSw 9; go_simp); try with_reducible rfl
      try simp only [Act.put, List.setIfInBounds_toArray, List.set_cons_zero, List.set_cons_succ]
      refine wpAnyH_ready (rs := [6]) (by kernel_rfl) (by simp) (AllReadyH.cons (o := { dst := none, op := Op.store 32 (Operand.tmp 2) (Operand.tmp 47), type := 0, pos := "ref.go:102", after := #[{ on := 0, ground := Ground.data }, { on := 0, ground := Ground.phase }, { on := 1, ground := Ground.textOnly Departure.lateStores }, { on := 2, ground := Ground.textOnly Departure.lateStores }, { on := 3, ground := Ground.textOnly Departure.lateStores }, { on := 4, ground := Ground.textOnly Departure.lateStores }, { on := 5, ground := Ground.textOnly Departure.lateStores }], guard := none }) rfl (fun K hK => ?_) AllReadyH.nil)
      have hOld := hide hHeld
      clear hHeld
      obtain ⟨⟨d0, d1, d2, d3, d4, d5, d6, d7, d8, d9⟩, ⟨e0, e1, e2, e3, e4, e5, e6, e7, e8, e9⟩⟩ := sh_facts XR0.out
      go_simp
      clear d0 d1 d2 d3 d4 d5 d6 d7 d8 d9 e0 e1 e2 e3 e4 e5 e6 e7 e8 e9
      have Hr0 := hide (show (u0.setCell ⟨rb, 0, none⟩ (.int .i64 keep)).heap[rb]? = some (.cells #[.int .i64 keep, .int .i64 0, .bool false, .int .i64 0, .int .i64 0, .int .i64 0, .int .i64 0, .int .i64 0, .int .i64 0, .slice none 0 0] 32 (0, 0)) from block_setCell XR0.out 0 (.int .i64 keep))
      have Br0 := hide (BB0.out.setCell (p := ⟨rb, 0, none⟩) HBrb.out (.int .i64 keep))
      have XBr0 := hide ((block_setCell_other HNB.out.1.symm 0 (.int .i64 keep)).trans XB0.out)
      have XTr0 := hide ((block_setCell_other HNR.out.1 0 (.int .i64 keep)).trans XT0.out)
      have OWr0 := hide (owns_setCellOther OW0.out HGG.out.2.1 0 (.int .i64 keep))
      generalize u0.setCell ⟨rb, 0, none⟩ (.int .i64 keep) = wr0 at *
      have Hr1 := hide (show (wr0.setCell ⟨rb, 1, none⟩ (.int .i64 next)).heap[rb]? = some (.cells #[.int .i64 keep, .int .i64 next, .bool false, .int .i64 0, .int .i64 0, .int .i64 0, .int .i64 0, .int .i64 0, .int .i64 0, .slice none 0 0] 32 (0, 0)) from block_setCell Hr0.out 1 (.int .i64 next))
      have Br1 := hide (Br0.out.setCell (p := ⟨rb, 1, none⟩) HBrb.out (.int .i64 next))
      have XBr1 := hide ((block_setCell_other HNB.out.1.symm 1 (.int .i64 next)).trans XBr0.out)
      have XTr1 := hide ((block_setCell_other HNR.out.1 1 (.int .i64 next)).trans XTr0.out)
      have OWr1 := hide (owns_setCellOther OWr0.out HGG.out.2.1 1 (.int .i64 next))
      generalize wr0.setCell ⟨rb, 1, none⟩ (.int .i64 next) = wr1 at *
      have Hr2 := hide (show (wr1.setCell ⟨rb, 2, none⟩ (.bool false)).heap[rb]? = some (.cells #[.int .i64 keep, .int .i64 next, .bool false, .int .i64 0, .int .i64 0, .int .i64 0, .int .i64 0, .int .i64 0, .int .i64 0, .slice none 0 0] 32 (0, 0)) from block_setCell Hr1.out 2 (.bool false))
      have Br2 := hide (Br1.out.setCell (p := ⟨rb, 2, none⟩) HBrb.out (.bool false))
      have XBr2 := hide ((block_setCell_other HNB.out.1.symm 2 (.bool false)).trans XBr1.out)
      have XTr2 := hide ((block_setCell_other HNR.out.1 2 (.bool false)).trans XTr1.out)
      have OWr2 := hide (owns_setCellOther OWr1.out HGG.out.2.1 2 (.bool false))
      generalize wr1.setCell ⟨rb, 2, none⟩ (.bool false) = wr2 at *
      have Hr3 := hide (show (wr2.setCell ⟨rb, 3, none⟩ (.int .i64 xc)).heap[rb]? = some (.cells #[.int .i64 keep, .int .i64 next, .bool false, .int .i64 xc, .int .i64 0, .int .i64 0, .int .i64 0, .int .i64 0, .int .i64 0, .slice none 0 0] 32 (0, 0)) from block_setCell Hr2.out 3 (.int .i64 xc))
      have Br3 := hide (Br2.out.setCell (p := ⟨rb, 3, none⟩) HBrb.out (.int .i64 xc))
      have XBr3 := hide ((block_setCell_other HNB.out.1.symm 3 (.int .i64 xc)).trans XBr2.out)
      have XTr3 := hide ((block_setCell_other HNR.out.1 3 (.int .i64 xc)).trans XTr2.out)
      have OWr3 := hide (owns_setCellOther OWr2.out HGG.out.2.1 3 (.int .i64 xc))
      generalize wr2.setCell ⟨rb, 3, none⟩ (.int .i64 xc) = wr3 at *
      have Hr4 := hide (show (wr3.setCell ⟨rb, 4, none⟩ (.int .i64 xs)).heap[rb]? = some (.cells #[.int .i64 keep, .int .i64 next, .bool false, .int .i64 xc, .int .i64 xs, .int .i64 0, .int .i64 0, .int .i64 0, .int .i64 0, .slice none 0 0] 32 (0, 0)) from block_setCell Hr3.out 4 (.int .i64 xs))
      have Br4 := hide (Br3.out.setCell (p := ⟨rb, 4, none⟩) HBrb.out (.int .i64 xs))
      have XBr4 := hide ((block_setCell_other HNB.out.1.symm 4 (.int .i64 xs)).trans XBr3.out)
      have XTr4 := hide ((block_setCell_other HNR.out.1 4 (.int .i64 xs)).trans XTr3.out)
      have OWr4 := hide (owns_setCellOther OWr3.out HGG.out.2.1 4 (.int .i64 xs))
      generalize wr3.setCell ⟨rb, 4, none⟩ (.int .i64 xs) = wr4 at *
      have Hr5 := hide (show (wr4.setCell ⟨rb, 5, none⟩ (.int .i64 xv)).heap[rb]? = some (.cells #[.int .i64 keep, .int .i64 next, .bool false, .int .i64 xc, .int .i64 xs, .int .i64 xv, .int .i64 0, .int .i64 0, .int .i64 0, .slice none 0 0] 32 (0, 0)) from block_setCell Hr4.out 5 (.int .i64 xv))
      have Br5 := hide (Br4.out.setCell (p := ⟨rb, 5, none⟩) HBrb.out (.int .i64 xv))
      have XBr5 := hide ((block_setCell_other HNB.out.1.symm 5 (.int .i64 xv)).trans XBr4.out)
      have XTr5 := hide ((block_setCell_other HNR.out.1 5 (.int .i64 xv)).trans XTr4.out)
      have OWr5 := hide (owns_setCellOther OWr4.out HGG.out.2.1 5 (.int .i64 xv))
      generalize wr4.setCell ⟨rb, 5, none⟩ (.int .i64 xv) = wr5 at *
      have Hr6 := hide (show (wr5.setCell ⟨rb, 6, none⟩ (.int .i64 xr)).heap[rb]? = some (.cells #[.int .i64 keep, .int .i64 next, .bool false, .int .i64 xc, .int .i64 xs, .int .i64 xv, .int .i64 xr, .int .i64 0, .int .i64 0, .slice none 0 0] 32 (0, 0)) from block_setCell Hr5.out 6 (.int .i64 xr))
      have Br6 := hide (Br5.out.setCell (p := ⟨rb, 6, none⟩) HBrb.out (.int .i64 xr))
      have XBr6 := hide ((block_setCell_other HNB.out.1.symm 6 (.int .i64 xr)).trans XBr5.out)
      have XTr6 := hide ((block_setCell_other HNR.out.1 6 (.int .i64 xr)).trans XTr5.out)
      have OWr6 := hide (owns_setCellOther OWr5.out HGG.out.2.1 6 (.int .i64 xr))
      generalize wr5.setCell ⟨rb, 6, none⟩ (.int .i64 xr) = wr6 at *
      have Hr7 := hide (show (wr6.setCell ⟨rb, 7, none⟩ (.int .i64 xi)).heap[rb]? = some (.cells #[.int .i64 keep, .int .i64 next, .bool false, .int .i64 xc, .int .i64 xs, .int .i64 xv, .int .i64 xr, .int .i64 xi, .int .i64 0, .slice none 0 0] 32 (0, 0)) from block_setCell Hr6.out 7 (.int .i64 xi))
      have Br7 := hide (Br6.out.setCell (p := ⟨rb, 7, none⟩) HBrb.out (.int .i64 xi))
      have XBr7 := hide ((block_setCell_other HNB.out.1.symm 7 (.int .i64 xi)).trans XBr6.out)
      have XTr7 := hide ((block_setCell_other HNR.out.1 7 (.int .i64 xi)).trans XTr6.out)
      have OWr7 := hide (owns_setCellOther OWr6.out HGG.out.2.1 7 (.int .i64 xi))
      generalize wr6.setCell ⟨rb, 7, none⟩ (.int .i64 xi) = wr7 at *
      have Hr8 := hide (show (wr7.setCell ⟨rb, 8, none⟩ (.int .i64 xo)).heap[rb]? = some (.cells #[.int .i64 keep, .int .i64 next, .bool false, .int .i64 xc, .int .i64 xs, .int .i64 xv, .int .i64 xr, .int .i64 xi, .int .i64 xo, .slice none 0 0] 32 (0, 0)) from block_setCell Hr7.out 8 (.int .i64 xo))
      have Br8 := hide (Br7.out.setCell (p := ⟨rb, 8, none⟩) HBrb.out (.int .i64 xo))
      have XBr8 := hide ((block_setCell_other HNB.out.1.symm 8 (.int .i64 xo)).trans XBr7.out)
      have XTr8 := hide ((block_setCell_other HNR.out.1 8 (.int .i64 xo)).trans XTr7.out)
      have OWr8 := hide (owns_setCellOther OWr7.out HGG.out.2.1 8 (.int .i64 xo))
      generalize wr7.setCell ⟨rb, 8, none⟩ (.int .i64 xo) = wr8 at *
      have Hr9 := hide (show (wr8.setCell ⟨rb, 9, none⟩ (.slice (some ⟨g, 0, none⟩) R.length c3')).heap[rb]? = some (.cells #[.int .i64 keep, .int .i64 next, .bool false, .int .i64 xc, .int .i64 xs, .int .i64 xv, .int .i64 xr, .int .i64 xi, .int .i64 xo, .slice (some ⟨g, 0, none⟩) R.length c3'] 32 (0, 0)) from block_setCell Hr8.out 9 (.slice (some ⟨g, 0, none⟩) R.length c3'))
      have Br9 := hide (Br8.out.setCell (p := ⟨rb, 9, none⟩) HBrb.out (.slice (some ⟨g, 0, none⟩) R.length c3'))
      have XBr9 := hide ((block_setCell_other HNB.out.1.symm 9 (.slice (some ⟨g, 0, none⟩) R.length c3')).trans XBr8.out)
      have XTr9 := hide ((block_setCell_other HNR.out.1 9 (.slice (some ⟨g, 0, none⟩) R.length c3')).trans XTr8.out)
      have OWr9 := hide (owns_setCellOther OWr8.out HGG.out.2.1 9 (.slice (some ⟨g, 0, none⟩) R.length c3'))
      generalize wr8.setCell ⟨rb, 9, none⟩ (.slice (some ⟨g, 0, none⟩) R.length c3') = wr9 at *
      refine hK.out _ _ (XBr9.out) (fun hHeld => ?_)
      clear hK K hOld
      try simp only [Act.put, List.setIfInBounds_toArray, List.set_cons_zero, List.set_cons_succ]
      refine wpAnyH_take (i := 7) (oi := { dst := some 3, op := Op.assign (Operand.tmp 50), type := 3, pos := "ref.go:102", after := #[{ on := 3, ground := Ground.data }, { on := 6, ground := Ground.chain }, { on := 0, ground := Ground.phase }, { on := 1, ground := Ground.phase }, { on := 2, ground := Ground.phase }, { on := 3, ground := Ground.phase }, { on := 4, ground := Ground.textOnly Departure.lateStores }, { on := 5, ground := Ground.textOnly Departure.lateStores }, { on := 6, ground := Ground.phase }], guard := none }) (v := ?_) rfl (by kernel_rfl) (by kernel_rfl) (by kernel_rfl) (fun _ _ _ h => h) (Or.inl ⟨by kernel_rfl, ?_⟩) hHeld ?_
      rotate_left
      · (intro w hSw; (try dsimp only at hSw); have e0 := cell_of_block hSw 0; have e1 := cell_of_block hSw 1; have e2 := cell_of_block hSw 2; have e3 := cell_of_block hSw 3; have e4 := cell_of_block hSw 4; have e5 := cell_of_block hSw 5; have e6 := cell_of_block hSw 6; have e7 := cell_of_block hSw 7; have e8 := cell_of_block hSw 8; have e9 := cell_of_block hSw 9; go_simp); try with_reducible rfl
      try simp only [Act.put, List.setIfInBounds_toArray, List.set_cons_zero, List.set_cons_succ]
      refine wpAnyH_ready (rs := [8]) (by kernel_rfl) (by simp) (AllReadyH.cons (o := { dst := none, op := Op.store 29 (Operand.tmp 4) (Operand.tmp 52), type := 0, pos := "ref.go:102", after := #[{ on := 5, ground := Ground.data }, { on := 7, ground := Ground.chain }, { on := 0, ground := Ground.phase }, { on := 1, ground := Ground.phase }, { on := 2, ground := Ground.phase }, { on := 3, ground := Ground.phase }, { on := 4, ground := Ground.phase }, { on := 5, ground := Ground.phase }, { on := 6, ground := Ground.phase }, { on := 7, ground := Ground.phase }], guard := none }) rfl (fun K hK => ?_) AllReadyH.nil)
      have hOld := hide hHeld
      clear hHeld
      obtain ⟨⟨g0, g1, g2, g3, g4, g5⟩, ⟨q0, q1, q2, q3, q4, q5⟩⟩ := six_facts XTr9.out
      go_simp
      clear g0 g1 g2 g3 g4 g5 q0 q1 q2 q3 q4 q5
      have Ht0 := hide (show (wr9.setCell ⟨tb, 0, none⟩ (.int .i64 xc)).heap[tb]? = some (.cells #[.int .i64 xc, .int .i64 0, .int .i64 0, .int .i64 0, .int .i64 0, .int .i64 0] 29 (0, 0)) from block_setCell XTr9.out 0 (.int .i64 xc))
      have Bt0 := hide (Br9.out.setCell (p := ⟨tb, 0, none⟩) HBtb.out (.int .i64 xc))
      have XRt0 := hide ((block_setCell_other HNR.out.1.symm 0 (.int .i64 xc)).trans Hr9.out)
      have XBt0 := hide ((block_setCell_other HNB.out.2.symm 0 (.int .i64 xc)).trans XBr9.out)
      have OWt0 := hide (owns_setCellOther OWr9.out HGG.out.2.2 0 (.int .i64 xc))
      generalize wr9.setCell ⟨tb, 0, none⟩ (.int .i64 xc) = wt0 at *
      have Ht1 := hide (show (wt0.setCell ⟨tb, 1, none⟩ (.int .i64 xs)).heap[tb]? = some (.cells #[.int .i64 xc, .int .i64 xs, .int .i64 0, .int .i64 0, .int .i64 0, .int .i64 0] 29 (0, 0)) from block_setCell Ht0.out 1 (.int .i64 xs))
      have Bt1 := hide (Bt0.out.setCell (p := ⟨tb, 1, none⟩) HBtb.out (.int .i64 xs))
      have XRt1 := hide ((block_setCell_other HNR.out.1.symm 1 (.int .i64 xs)).trans XRt0.out)
      have XBt1 := hide ((block_setCell_other HNB.out.2.symm 1 (.int .i64 xs)).trans XBt0.out)
      have OWt1 := hide (owns_setCellOther OWt0.out HGG.out.2.2 1 (.int .i64 xs))
      generalize wt0.setCell ⟨tb, 1, none⟩ (.int .i64 xs) = wt1 at *
      have Ht2 := hide (show (wt1.setCell ⟨tb, 2, none⟩ (.int .i64 xv)).heap[tb]? = some (.cells #[.int .i64 xc, .int .i64 xs, .int .i64 xv, .int .i64 0, .int .i64 0, .int .i64 0] 29 (0, 0)) from block_setCell Ht1.out 2 (.int .i64 xv))
      have Bt2 := hide (Bt1.out.setCell (p := ⟨tb, 2, none⟩) HBtb.out (.int .i64 xv))
      have XRt2 := hide ((block_setCell_other HNR.out.1.symm 2 (.int .i64 xv)).trans XRt1.out)
      have XBt2 := hide ((block_setCell_other HNB.out.2.symm 2 (.int .i64 xv)).trans XBt1.out)
      have OWt2 := hide (owns_setCellOther OWt1.out HGG.out.2.2 2 (.int .i64 xv))
      generalize wt1.setCell ⟨tb, 2, none⟩ (.int .i64 xv) = wt2 at *
      have Ht3 := hide (show (wt2.setCell ⟨tb, 3, none⟩ (.int .i64 xr)).heap[tb]? = some (.cells #[.int .i64 xc, .int .i64 xs, .int .i64 xv, .int .i64 xr, .int .i64 0, .int .i64 0] 29 (0, 0)) from block_setCell Ht2.out 3 (.int .i64 xr))
      have Bt3 := hide (Bt2.out.setCell (p := ⟨tb, 3, none⟩) HBtb.out (.int .i64 xr))
      have XRt3 := hide ((block_setCell_other HNR.out.1.symm 3 (.int .i64 xr)).trans XRt2.out)
      have XBt3 := hide ((block_setCell_other HNB.out.2.symm 3 (.int .i64 xr)).trans XBt2.out)
      have OWt3 := hide (owns_setCellOther OWt2.out HGG.out.2.2 3 (.int .i64 xr))
      generalize wt2.setCell ⟨tb, 3, none⟩ (.int .i64 xr) = wt3 at *
      have Ht4 := hide (show (wt3.setCell ⟨tb, 4, none⟩ (.int .i64 xi)).heap[tb]? = some (.cells #[.int .i64 xc, .int .i64 xs, .int .i64 xv, .int .i64 xr, .int .i64 xi, .int .i64 0] 29 (0, 0)) from block_setCell Ht3.out 4 (.int .i64 xi))
      have Bt4 := hide (Bt3.out.setCell (p := ⟨tb, 4, none⟩) HBtb.out (.int .i64 xi))
      have XRt4 := hide ((block_setCell_other HNR.out.1.symm 4 (.int .i64 xi)).trans XRt3.out)
      have XBt4 := hide ((block_setCell_other HNB.out.2.symm 4 (.int .i64 xi)).trans XBt3.out)
      have OWt4 := hide (owns_setCellOther OWt3.out HGG.out.2.2 4 (.int .i64 xi))
      generalize wt3.setCell ⟨tb, 4, none⟩ (.int .i64 xi) = wt4 at *
      have Ht5 := hide (show (wt4.setCell ⟨tb, 5, none⟩ (.int .i64 xo)).heap[tb]? = some (.cells #[.int .i64 xc, .int .i64 xs, .int .i64 xv, .int .i64 xr, .int .i64 xi, .int .i64 xo] 29 (0, 0)) from block_setCell Ht4.out 5 (.int .i64 xo))
      have Bt5 := hide (Bt4.out.setCell (p := ⟨tb, 5, none⟩) HBtb.out (.int .i64 xo))
      have XRt5 := hide ((block_setCell_other HNR.out.1.symm 5 (.int .i64 xo)).trans XRt4.out)
      have XBt5 := hide ((block_setCell_other HNB.out.2.symm 5 (.int .i64 xo)).trans XBt4.out)
      have OWt5 := hide (owns_setCellOther OWt4.out HGG.out.2.2 5 (.int .i64 xo))
      generalize wt4.setCell ⟨tb, 5, none⟩ (.int .i64 xo) = wt5 at *
      refine hK.out _ _ (XBt5.out) (fun hHeld => ?_)
      clear hK K hOld
      try simp only [Act.put, List.setIfInBounds_toArray, List.set_cons_zero, List.set_cons_succ]
      refine wpAnyH_take (i := 9) (oi := { dst := some 5, op := Op.assign (Operand.const (Value.int IntKind.i64 0)), type := 3, pos := "ref.go:102", after := #[{ on := 8, ground := Ground.chain }, { on := 0, ground := Ground.phase }, { on := 1, ground := Ground.phase }, { on := 2, ground := Ground.phase }, { on := 3, ground := Ground.phase }, { on := 4, ground := Ground.phase }, { on := 5, ground := Ground.phase }, { on := 6, ground := Ground.phase }, { on := 7, ground := Ground.phase }, { on := 8, ground := Ground.phase }], guard := none }) (v := ?_) rfl (by kernel_rfl) (by kernel_rfl) (by kernel_rfl) (fun _ _ _ h => h) (Or.inl ⟨by kernel_rfl, ?_⟩) hHeld ?_
      rotate_left
      · (intro w hSw; (try dsimp only at hSw); have e0 := cell_of_block hSw 0; have e1 := cell_of_block hSw 1; have e2 := cell_of_block hSw 2; have e3 := cell_of_block hSw 3; have e4 := cell_of_block hSw 4; have e5 := cell_of_block hSw 5; have e6 := cell_of_block hSw 6; have e7 := cell_of_block hSw 7; have e8 := cell_of_block hSw 8; have e9 := cell_of_block hSw 9; go_simp); try with_reducible rfl
      try simp only [Act.put, List.setIfInBounds_toArray, List.set_cons_zero, List.set_cons_succ]
      refine wpAnyH_done (by kernel_rfl) ?_ _
      clear hHeld
      go_wp2_with fail
      (try simp only [Exit.inBlock, Exit.then])
      refine bodyPost_ret (res_ctct (P := Try.prog) rfl _ wt5 rb tb 32 29 #[.int .i64 keep, .int .i64 next, .bool false, .int .i64 xc, .int .i64 xs, .int .i64 xv, .int .i64 xr, .int .i64 xi, .int .i64 xo, .slice (some ⟨g, 0, none⟩) R.length c3'] #[.int .i64 xc, .int .i64 xs, .int .i64 xv, .int .i64 xr, .int .i64 xi, .int .i64 xo] _ _ rfl rfl XRt5.out Ht5.out Try.underlying32 Try.underlying29 rfl rfl (by kernel_rfl) (by kernel_rfl)) rfl ?_
      refine ⟨⟨xc, xs, xv, xr, xi, xo⟩, some ⟨g, 0, none⟩, c3', ?_, ?_, Bt5.out⟩
      · rw [HEM.out, HEN.out]
        rfl
      · rw [HEM.out]
        exact ⟨owns_mono OWt5.out (Nat.zero_le _), fun h => by cases h⟩
theorem rsend_any (M : ShM) (nw : TotM) (a : Option Addr) (cp : Nat) (w : World) (hok : ShOk M) (hin : RsIs w M nw a cp) : Calls Try.prog 13 #[rsV M nw a cp] w (REndIs M w) := by
  obtain ⟨keep, next, op, ⟨zc, zs, zv, zr, zi, zo⟩, L⟩ := M
  obtain ⟨xc, xs, xv, xr, xi, xo⟩ := nw
  cases op with
  | false => exact rsend_closed keep next xc xs xv xr xi xo _ L a cp w hin
  | true =>
    have h5 : (⟨xc, xs, xv, xr, xi, xo⟩ : TotM) = ⟨zc, zs, zv, zr, zi, zo⟩ := hin.now rfl
    cases h5
    exact rsend_open keep next zc zs zv zr zi zo L a cp w hok hin
end Go.Proofs.Ytfdgfeohmkdnoaa

/-
  Layer 26: the law's same: are the shifts the document's?
-/
--import Derived.Test.Zdbg
namespace Go.Proofs.Ytfdgfeohmkdnoaa
set_option linter.unusedSimpArgs false
set_option linter.unusedVariables false
open Go.RowKit Go.WideShapes Go.ChangeShapes Go.ChangeAt Go.Deep

set_option maxRecDepth 100000 in
theorem arr5_self (b c d e f : Int) (w : World) : (Op.equalIn 9999 27 (.agg #[.int .i64 b, .int .i64 c, .int .i64 d, .int .i64 e, .int .i64 f]) (.agg #[.int .i64 b, .int .i64 c, .int .i64 d, .int .i64 e, .int .i64 f])).run Try.prog w = .ok true w := by
  obtain ⟨i0, hi, hz0, hz1, hz2⟩ := info_parts (show (Try.prog.info? 2).map (fun i => (i.zero, i.size, i.bytes)) = some (some (.int .i64 0), 1, 8) by kernel_rfl)
  have hc : Try.prog.cellsOf 2 = 1 := by kernel_rfl
  have p0 : (part 2 #[.int .i64 b, .int .i64 c, .int .i64 d, .int .i64 e, .int .i64 f] 0).run Try.prog w = .ok (.int .i64 b) w := by kernel_rfl
  have p1 : (part 2 #[.int .i64 b, .int .i64 c, .int .i64 d, .int .i64 e, .int .i64 f] 1).run Try.prog w = .ok (.int .i64 c) w := by kernel_rfl
  have p2 : (part 2 #[.int .i64 b, .int .i64 c, .int .i64 d, .int .i64 e, .int .i64 f] 2).run Try.prog w = .ok (.int .i64 d) w := by kernel_rfl
  have p3 : (part 2 #[.int .i64 b, .int .i64 c, .int .i64 d, .int .i64 e, .int .i64 f] 3).run Try.prog w = .ok (.int .i64 e) w := by kernel_rfl
  have p4 : (part 2 #[.int .i64 b, .int .i64 c, .int .i64 d, .int .i64 e, .int .i64 f] 4).run Try.prog w = .ok (.int .i64 f) w := by kernel_rfl
  rw [run_equalIn_array w 9998 _ _ Try.underlying27 hi, hc, show List.range 5 = [0, 1, 2, 3, 4] from rfl]
  simp only [Op.eqItems, Sem.run_bind, Nat.mul_one, Nat.zero_mul, p0, p1, p2, p3, p4, Result.andThen_ok, run_equalIn_int w 9997 2 .i64 .i64 _ _ Try.underlying2, beq_self_eq_true, Bool.not_true, Bool.false_eq_true, if_false, Sem.run_pure]
theorem fieldsRT : fdesc (Try.prog.fieldsOf 29).toList = [("Count", 3, 0), ("Sum", 27, 1)] := by kernel_rfl
theorem eq_cells (a b c d e f : Int) (w : World) : (Op.equalIn 10000 29 (.agg #[.int .i64 a, .int .i64 b, .int .i64 c, .int .i64 d, .int .i64 e, .int .i64 f]) (.agg #[.int .i64 a, .int .i64 b, .int .i64 c, .int .i64 d, .int .i64 e, .int .i64 f])).run Try.prog w = .ok (a == a && (true && true)) w := by
  rw [run_equalIn_agg w 9999 29 _ _ (by kernel_rfl) (by kernel_rfl)]
  exact eqF_cons w _ _ _ fieldsRT (by decide) (by kernel_rfl) (by kernel_rfl) (run_equalIn_int w 9998 3 .i64 .i64 _ _ Try.underlying3) fun l h =>
    eqF_cons w _ _ _ h (by decide) (by kernel_rfl) (by kernel_rfl) (arr5_self b c d e f w) fun l h => eqF_nil w _ _ _ h
theorem rneq_self (a b c d e f : Int) (w : World) : (binOp .neq 29 (.agg #[.int .i64 a, .int .i64 b, .int .i64 c, .int .i64 d, .int .i64 e, .int .i64 f]) (.agg #[.int .i64 a, .int .i64 b, .int .i64 c, .int .i64 d, .int .i64 e, .int .i64 f])).run Try.prog w = .ok (.bool false) w := by
  rw [run_neq_struct, eq_cells]
  simp
theorem rguard_tot (x y : Operand) (a b : Array Value) (w : World) : (eqGuard .neq 29 x y (.agg a) (.agg b)).run Try.prog w = .ok () w := run_eqGuard_agg w .neq 29 x y a b (by kernel_rfl)
theorem sneq_self (a b c d e f : Int) (w : World) : (binOp .neq 43 (.agg #[.int .i64 a, .int .i64 b, .int .i64 c, .int .i64 d, .int .i64 e, .int .i64 f]) (.agg #[.int .i64 a, .int .i64 b, .int .i64 c, .int .i64 d, .int .i64 e, .int .i64 f])).run Try.prog w = .ok (.bool false) w := by
  rw [run_neq_struct]
  have := eqF_six a b c d e f a b c d e f w
  unfold totA at this
  rw [this]
  simp
theorem sguard_tot (x y : Operand) (a b : Array Value) (w : World) : (eqGuard .neq 43 x y (.agg a) (.agg b)).run Try.prog w = .ok () w := run_eqGuard_agg w .neq 43 x y a b (by kernel_rfl)
set_option maxRecDepth 100000 in
theorem lof_any (c s v r i o : Int) (w : World) : Calls Try.prog 14 #[.agg (totA c s v r i o)] w fun e w' => e = .returned (.agg (totA c s v r i o)) ∧ Below w.heap.size w w' := by
  unfold totA
  go_enter Try.func14, Try.ntmps14
  go_wp2_with fail
  exact bodyPost_ret (results_cell_row (P := Try.prog) rfl _ _ (w.heap.size + 1) 29 #[.int .i64 c, .int .i64 s, .int .i64 v, .int .i64 r, .int .i64 i, .int .i64 o] (0, 0) _ rfl (by exact heap_alloc2_new w _ _) Try.underlying29 rfl (by kernel_rfl)) rfl ⟨rfl, by go_grown⟩
theorem both_below {w : World} {B p : Nat} {M : ShM} {V : Value} {nw : TotM} {a : Option Addr} {cp : Nat} (h : ShIs w B p M V ∧ RsIs w M nw a cp) {w' : World} (hb : Below w.heap.size w w') : ShIs w' B p M V ∧ RsIs w' M nw a cp := ⟨h.1.below hb, h.2.below hb⟩
set_option maxRecDepth 100000 in
set_option maxHeartbeats 4000000 in
theorem same26_any (B p : Nat) (M : ShM) (V : Value) (nw : TotM) (a : Option Addr) (cp : Nat) (w : World) (h : ShIs w B p M V) (hr : RsIs w M nw a cp) :
    Calls Try.prog 17 #[.pointer (some ⟨p, 0, none⟩), rsV M nw a cp] w fun e w' => e = .returned (.bool true) ∧ Below w.heap.size w w' := by
  obtain ⟨keep, next, op, now, L⟩ := M
  have hnx : 1 ≤ next ∧ next ≤ 4294967296 := h.ok.nx
  have HOK := hide h.ok
  have XM := hide (And.intro h hr)
  have HOP := hide (fun W (hW : ShIs W B p ⟨keep, next, op, now, L⟩ V) => shopen_any B p _ V W hW)
  obtain ⟨xc, xs, xv, xr, xi, xo⟩ := nw
  have hw1 : IntKind.i64.wrap (next - 12) = next - 12 := by rw [IntKind.wrap_i64]; omega
  have hw2 : IntKind.i64.wrap (next + 2) = next + 2 := by rw [IntKind.wrap_i64]; omega
  have hw3 : IntKind.i64.wrap (next - 1) = next - 1 := by rw [IntKind.wrap_i64]; omega
  have HSO := hide (show shOpen ⟨keep, next, op, now, L⟩ = if op = true then next - 1 else 0 from rfl)
  unfold rsV
  dsimp only
  clear h hr
  obtain ⟨ob, hob⟩ : ∃ ob, ob = (Obj.cells #[.int .i64 keep, .int .i64 next, .bool op, .int .i64 xc, .int .i64 xs, .int .i64 xv, .int .i64 xr, .int .i64 xi, .int .i64 xo, .slice a L.length cp] 32) := ⟨_, rfl⟩
  have hal := (Below.refl w.heap.size w).alloc (Nat.le_refl _) ob
  have XX := hide (show (w.alloc ob).heap[w.heap.size]? = some (.cells #[.int .i64 keep, .int .i64 next, .bool op, .int .i64 xc, .int .i64 xs, .int .i64 xv, .int .i64 xr, .int .i64 xi, .int .i64 xo, .slice a L.length cp] 32 (0, 0)) by rw [heap_new, hob])
  have XM1 := hide (both_below XM.out hal)
  have BB := hide hal
  clear hal XM
  go_enter Try.func17, Try.ntmps17
  go_upto_region 1 with (fail)
  rw [← hob]
  generalize w.alloc ob = w1 at *
  obtain ⟨xb, hxb⟩ : ∃ k, w.heap.size = k := ⟨_, rfl⟩
  rw [hxb] at XX ⊢
  clear hob ob
  have HXB := hide (show w.heap.size ≤ xb ∧ xb < w1.heap.size from ⟨by omega, heap_lt XX.out⟩)
  have HX := hide hxb
  clear hxb
  have c1 := cell_of_block XX.out 1
  have c2 := cell_of_block XX.out 2
  go_upto_if 12 with (fail)
  go_cut [5] from 13 to 15 (fun s5 W => s5 = .int .i64 (shOpen ⟨keep, next, op, now, L⟩) ∧ W = w1)
  case first =>
    cases op with
    | true =>
      have HE := hide (HSO.out.trans (if_pos rfl))
      go_wp2_with fail
      go_meet
      exact ⟨by rw [HE.out], rfl⟩
    | false =>
      have HE := hide (HSO.out.trans (if_neg (by decide)))
      go_wp2_with fail
      go_meet
      exact ⟨by rw [HE.out], rfl⟩
  case rest =>
    obtain ⟨rfl, rfl⟩ := hcut
    go_wp2_with fail
    refine (HOP.out _ XM1.out.1).mono ?_
    rintro e w2 ⟨rfl, rfl⟩
    generalize shOpen ⟨keep, next, op, now, L⟩ = on at *
    go_wp2_with fail
    go_loopw [6] (fun i W => ∃ k : Nat, k ≤ 14 ∧ i = .int .i64 (next - 12 + k) ∧ (ShIs W B p ⟨keep, next, op, now, L⟩ V ∧ RsIs W ⟨keep, next, op, now, L⟩ ⟨xc, xs, xv, xr, xi, xo⟩ a cp) ∧ W.heap[xb]? = some (.cells #[.int .i64 keep, .int .i64 next, .bool op, .int .i64 xc, .int .i64 xs, .int .i64 xv, .int .i64 xr, .int .i64 xi, .int .i64 xo, .slice a L.length cp] 32 (0, 0)) ∧ Below w.heap.size w W) (fun i _ => (next + 2 - intOf i).toNat)
    case atStart => exact ⟨0, by omega, by simp, XM1.out, XX.out, BB.out⟩
    case round =>
      obtain ⟨k, hk, rfl, hm, hx, hb⟩ := hrel
      have XM := hide hm
      have XW := hide hx
      have BW := hide hb
      clear hm hx hb XM1 XX BB
      have c1 := cell_of_block XW.out 1
      by_cases hlt : k < 14
      · have hl1 : next - 12 + (k : Int) < next + 2 := by omega
        have HNR := hide (show inR (next - 12 + (k : Int)) by unfold inR; omega)
        have hwk : IntKind.i64.wrap (next - 12 + (k : Int) + 1) = next - 12 + (k : Int) + 1 := by rw [IntKind.wrap_i64]; omega
        have hwk2 : wrap64 (next - 12 + (k : Int) + 1) = next - 12 + (k : Int) + 1 := by unfold wrap64; omega
        obtain ⟨n, hn⟩ : ∃ n, next - 12 + (k : Int) = n := ⟨_, rfl⟩
        rw [hn] at HNR hl1 hwk hwk2
        have HN := hide hn
        simp only [hn]
        clear hn
        go_wp2_with fail
        refine (shtot_any n HNR.out B p _ V _ XM.out.1).mono ?_
        rintro e w3 ⟨rfl, hb⟩
        have XM3 := hide (both_below XM.out hb)
        have XW3 := hide ((hb.block _ (heap_lt XW.out)).trans XW.out)
        have BW3 := hide (BW.out.trans (hb.mono BW.out.size))
        clear hb XM XW BW c1
        have HROF := hide (fun W (h2 : RsIs W ⟨keep, next, op, now, L⟩ ⟨xc, xs, xv, xr, xi, xo⟩ a cp) => rsof_any n HNR.out ⟨keep, next, op, now, L⟩ ⟨xc, xs, xv, xr, xi, xo⟩ a cp W HOK.out h2)
        have HOF2 := HROF
        unfold rsV at HOF2
        dsimp only at HOF2
        clear HROF
        cases ho : shTot ⟨keep, next, op, now, L⟩ n with
        | some t =>
          obtain ⟨yc, ys, yv, yr, yi, yo⟩ := t
          have HTO := hide ho
          have HOF := hide (fun W => lof_any yc ys yv yr yi yo W)
          unfold totA at HOF
          clear ho
          try rw [HTO.out]
          simp only [Option.getD_some, Option.isSome_some]
          unfold totV
          go_upto_region 10 with (fail)
          obtain ⟨oz, hoz⟩ : ∃ oz, oz = Obj.cells #[.int .i64 yc, .int .i64 ys, .int .i64 yv, .int .i64 yr, .int .i64 yi, .int .i64 yo] 43 := ⟨_, rfl⟩
          rw [← hoz]
          have hal := (Below.refl w3.heap.size w3).alloc (Nat.le_refl _) oz
          have XA := hide (heap_new w3 oz)
          have XM := hide (both_below XM3.out hal)
          have XW := hide ((hal.block _ (heap_lt XW3.out)).trans XW3.out)
          have BW := hide (BW3.out.trans (hal.mono BW3.out.size))
          clear hal XM3 XW3 BW3
          generalize w3.alloc oz = w4 at *
          generalize w3.heap.size = ta at *
          rw [hoz] at XA
          clear hoz oz
          obtain ⟨⟨c0, c1, c2, c3, c4, c5, c6, c7, c8, c9⟩, ⟨f0, f1, f2, f3, f4, f5, f6, f7, f8, f9⟩⟩ := sh_facts XW.out
          go_wp2_with fail
          refine (HOF2.out w4 XM.out.2).mono ?_
          rintro e w5 ⟨rfl, hb⟩
          have XA5 := hide ((hb.block _ (heap_lt XA.out)).trans XA.out)
          have XM5 := hide (both_below XM.out hb)
          have XW5 := hide ((hb.block _ (heap_lt XW.out)).trans XW.out)
          have BW5 := hide (BW.out.trans (hb.mono BW.out.size))
          clear hb XA XM XW BW c0 c1 c2 c3 c4 c5 c6 c7 c8 c9 f0 f1 f2 f3 f4 f5 f6 f7 f8 f9
          try rw [HTO.out]
          simp only [Option.getD_some, Option.isSome_some]
          unfold totV
          go_upto_region 11 with (fail)
          obtain ⟨oz, hoz⟩ : ∃ oz, oz = Obj.cells #[.int .i64 yc, .int .i64 ys, .int .i64 yv, .int .i64 yr, .int .i64 yi, .int .i64 yo] 29 := ⟨_, rfl⟩
          rw [← hoz]
          have hal := (Below.refl w5.heap.size w5).alloc (Nat.le_refl _) oz
          have XB := hide (heap_new w5 oz)
          have XA6 := hide ((hal.block _ (heap_lt XA5.out)).trans XA5.out)
          have XM6 := hide (both_below XM5.out hal)
          have XW6 := hide ((hal.block _ (heap_lt XW5.out)).trans XW5.out)
          have BW6 := hide (BW5.out.trans (hal.mono BW5.out.size))
          clear hal XA5 XM5 XW5 BW5
          generalize w5.alloc oz = w6 at *
          generalize w5.heap.size = tb at *
          rw [hoz] at XB
          clear hoz oz
          have XA0 := hide (show w6.drew.heap[ta]? = _ from XA6.out)
          have XB0 := hide (show w6.drew.heap[tb]? = _ from XB.out)
          have XM := hide (show ShIs w6.drew B p ⟨keep, next, op, now, L⟩ V ∧ RsIs w6.drew ⟨keep, next, op, now, L⟩ ⟨xc, xs, xv, xr, xi, xo⟩ a cp from ⟨XM6.out.1.drew, ⟨XM6.out.2.row, XM6.out.2.now⟩⟩)
          have XW0 := hide (show w6.drew.heap[xb]? = _ from XW6.out)
          have BB0 := hide BW6.out.drew
          clear XA6 XB XM6 XW6 BW6
          have hrg := rguard_tot
          have hrn := rneq_self
          have hsg := sguard_tot
          have hsn := sneq_self
          refine wp_region_held_drew (S := (fun W => W.heap[ta]? = some (.cells #[.int .i64 yc, .int .i64 ys, .int .i64 yv, .int .i64 yr, .int .i64 yi, .int .i64 yo] 43 (0, 0)) ∧ W.heap[tb]? = some (.cells #[.int .i64 yc, .int .i64 ys, .int .i64 yv, .int .i64 yr, .int .i64 yi, .int .i64 yo] 29 (0, 0)))) (by kernel_rfl) (⟨XA0.out, XB0.out⟩) (fun hHeld => ?_)
          generalize w6.drew = u0 at *
          refine wpAnyH_take (i := 0) (oi := { dst := some 42, op := Op.move (Operand.tmp 8), type := 4, pos := "law.go:50", after := #[], guard := none }) (v := ?_) rfl (by kernel_rfl) (by kernel_rfl) (by kernel_rfl) (fun _ _ _ h => h) (Or.inl ⟨by kernel_rfl, ?_⟩) hHeld ?_
          rotate_left
          · (intro w hSw; (try dsimp only at hSw); have e0 := cell_of_block hSw.1 0; have e1 := cell_of_block hSw.1 1; have e2 := cell_of_block hSw.1 2; have e3 := cell_of_block hSw.1 3; have e4 := cell_of_block hSw.1 4; have e5 := cell_of_block hSw.1 5; have g0 := cell_of_block hSw.2 0; have g1 := cell_of_block hSw.2 1; have g2 := cell_of_block hSw.2 2; have g3 := cell_of_block hSw.2 3; have g4 := cell_of_block hSw.2 4; have g5 := cell_of_block hSw.2 5; go_simp); try with_reducible rfl
          try simp only [Act.put, List.setIfInBounds_toArray, List.set_cons_zero, List.set_cons_succ]
          refine wpAnyH_take (i := 1) (oi := { dst := some 43, op := Op.move (Operand.tmp 10), type := 4, pos := "law.go:50", after := #[], guard := none }) (v := ?_) rfl (by kernel_rfl) (by kernel_rfl) (by kernel_rfl) (fun _ _ _ h => h) (Or.inl ⟨by kernel_rfl, ?_⟩) hHeld ?_
          rotate_left
          · (intro w hSw; (try dsimp only at hSw); have e0 := cell_of_block hSw.1 0; have e1 := cell_of_block hSw.1 1; have e2 := cell_of_block hSw.1 2; have e3 := cell_of_block hSw.1 3; have e4 := cell_of_block hSw.1 4; have e5 := cell_of_block hSw.1 5; have g0 := cell_of_block hSw.2 0; have g1 := cell_of_block hSw.2 1; have g2 := cell_of_block hSw.2 2; have g3 := cell_of_block hSw.2 3; have g4 := cell_of_block hSw.2 4; have g5 := cell_of_block hSw.2 5; go_simp); try with_reducible rfl
          try simp only [Act.put, List.setIfInBounds_toArray, List.set_cons_zero, List.set_cons_succ]
          refine wpAnyH_take (i := 2) (oi := { dst := some 44, op := Op.binOp BinOp.neq 4 (Operand.tmp 42) (Operand.tmp 43) 4, type := 4, pos := "law.go:50", after := #[{ on := 0, ground := Ground.data }, { on := 1, ground := Ground.data }], guard := none }) (v := ?_) rfl (by kernel_rfl) (by kernel_rfl) (by kernel_rfl) (fun _ _ _ h => h) (Or.inl ⟨by kernel_rfl, ?_⟩) hHeld ?_
          rotate_left
          · (intro w hSw; (try dsimp only at hSw); have e0 := cell_of_block hSw.1 0; have e1 := cell_of_block hSw.1 1; have e2 := cell_of_block hSw.1 2; have e3 := cell_of_block hSw.1 3; have e4 := cell_of_block hSw.1 4; have e5 := cell_of_block hSw.1 5; have g0 := cell_of_block hSw.2 0; have g1 := cell_of_block hSw.2 1; have g2 := cell_of_block hSw.2 2; have g3 := cell_of_block hSw.2 3; have g4 := cell_of_block hSw.2 4; have g5 := cell_of_block hSw.2 5; go_simp); try with_reducible rfl
          try simp only [Act.put, List.setIfInBounds_toArray, List.set_cons_zero, List.set_cons_succ]
          refine wpAnyH_take (i := 3) (oi := { dst := some 45, op := Op.move (Operand.tmp 44), type := 4, pos := "law.go:50", after := #[{ on := 2, ground := Ground.data }], guard := none }) (v := ?_) rfl (by kernel_rfl) (by kernel_rfl) (by kernel_rfl) (fun _ _ _ h => h) (Or.inl ⟨by kernel_rfl, ?_⟩) hHeld ?_
          rotate_left
          · (intro w hSw; (try dsimp only at hSw); have e0 := cell_of_block hSw.1 0; have e1 := cell_of_block hSw.1 1; have e2 := cell_of_block hSw.1 2; have e3 := cell_of_block hSw.1 3; have e4 := cell_of_block hSw.1 4; have e5 := cell_of_block hSw.1 5; have g0 := cell_of_block hSw.2 0; have g1 := cell_of_block hSw.2 1; have g2 := cell_of_block hSw.2 2; have g3 := cell_of_block hSw.2 3; have g4 := cell_of_block hSw.2 4; have g5 := cell_of_block hSw.2 5; go_simp); try with_reducible rfl
          try simp only [Act.put, List.setIfInBounds_toArray, List.set_cons_zero, List.set_cons_succ]
          refine wpAnyH_take (i := 4) (oi := { dst := some 46, op := Op.move (Operand.tmp 8), type := 4, pos := "law.go:50", after := #[{ on := 3, ground := Ground.guard }], guard := some (3, false) }) (v := ?_) rfl (by kernel_rfl) (by kernel_rfl) (by kernel_rfl) (fun _ _ _ h => h) (Or.inl ⟨by kernel_rfl, ?_⟩) hHeld ?_
          rotate_left
          · (intro w hSw; (try dsimp only at hSw); have e0 := cell_of_block hSw.1 0; have e1 := cell_of_block hSw.1 1; have e2 := cell_of_block hSw.1 2; have e3 := cell_of_block hSw.1 3; have e4 := cell_of_block hSw.1 4; have e5 := cell_of_block hSw.1 5; have g0 := cell_of_block hSw.2 0; have g1 := cell_of_block hSw.2 1; have g2 := cell_of_block hSw.2 2; have g3 := cell_of_block hSw.2 3; have g4 := cell_of_block hSw.2 4; have g5 := cell_of_block hSw.2 5; go_simp); try with_reducible rfl
          try simp only [Act.put, List.setIfInBounds_toArray, List.set_cons_zero, List.set_cons_succ]
          refine wpAnyH_take (i := 5) (oi := { dst := some 47, op := Op.move (Operand.tmp 46), type := 4, pos := "law.go:50", after := #[{ on := 4, ground := Ground.data }, { on := 3, ground := Ground.chain }, { on := 3, ground := Ground.guard }], guard := some (3, false) }) (v := ?_) rfl (by kernel_rfl) (by kernel_rfl) (by kernel_rfl) (fun _ _ _ h => h) (Or.inl ⟨by kernel_rfl, ?_⟩) hHeld ?_
          rotate_left
          · (intro w hSw; (try dsimp only at hSw); have e0 := cell_of_block hSw.1 0; have e1 := cell_of_block hSw.1 1; have e2 := cell_of_block hSw.1 2; have e3 := cell_of_block hSw.1 3; have e4 := cell_of_block hSw.1 4; have e5 := cell_of_block hSw.1 5; have g0 := cell_of_block hSw.2 0; have g1 := cell_of_block hSw.2 1; have g2 := cell_of_block hSw.2 2; have g3 := cell_of_block hSw.2 3; have g4 := cell_of_block hSw.2 4; have g5 := cell_of_block hSw.2 5; go_simp); try with_reducible rfl
          try simp only [Act.put, List.setIfInBounds_toArray, List.set_cons_zero, List.set_cons_succ]
          refine wpAnyH_take (i := 6) (oi := { dst := some 48, op := Op.load 43 (Operand.tmp 7), type := 43, pos := "law.go:50", after := #[{ on := 5, ground := Ground.guard }], guard := some (5, true) }) (v := ?_) rfl (by kernel_rfl) (by kernel_rfl) (by kernel_rfl) (fun _ _ _ h => h) (Or.inl ⟨by kernel_rfl, ?_⟩) hHeld ?_
          rotate_left
          · (intro w hSw; (try dsimp only at hSw); have e0 := cell_of_block hSw.1 0; have e1 := cell_of_block hSw.1 1; have e2 := cell_of_block hSw.1 2; have e3 := cell_of_block hSw.1 3; have e4 := cell_of_block hSw.1 4; have e5 := cell_of_block hSw.1 5; have g0 := cell_of_block hSw.2 0; have g1 := cell_of_block hSw.2 1; have g2 := cell_of_block hSw.2 2; have g3 := cell_of_block hSw.2 3; have g4 := cell_of_block hSw.2 4; have g5 := cell_of_block hSw.2 5; go_simp); try with_reducible rfl
          try simp only [Act.put, List.setIfInBounds_toArray, List.set_cons_zero, List.set_cons_succ]
          refine wpAnyH_take (i := 8) (oi := { dst := some 50, op := Op.load 29 (Operand.tmp 9), type := 29, pos := "law.go:50", after := #[{ on := 5, ground := Ground.guard }], guard := some (5, true) }) (v := ?_) rfl (by kernel_rfl) (by kernel_rfl) (by kernel_rfl) (fun _ _ _ h => h) (Or.inl ⟨by kernel_rfl, ?_⟩) hHeld ?_
          rotate_left
          · (intro w hSw; (try dsimp only at hSw); have e0 := cell_of_block hSw.1 0; have e1 := cell_of_block hSw.1 1; have e2 := cell_of_block hSw.1 2; have e3 := cell_of_block hSw.1 3; have e4 := cell_of_block hSw.1 4; have e5 := cell_of_block hSw.1 5; have g0 := cell_of_block hSw.2 0; have g1 := cell_of_block hSw.2 1; have g2 := cell_of_block hSw.2 2; have g3 := cell_of_block hSw.2 3; have g4 := cell_of_block hSw.2 4; have g5 := cell_of_block hSw.2 5; go_simp); try with_reducible rfl
          try simp only [Act.put, List.setIfInBounds_toArray, List.set_cons_zero, List.set_cons_succ]
          refine wpAnyH_ready (rs := [7]) (by kernel_rfl) (by simp) (AllReadyH.cons (o := { dst := some 49, op := Op.call { callee := Callee.value (Operand.func 14), args := #[Operand.tmp 48], argTypes := #[43] }, type := 29, pos := "law.go:50", after := #[{ on := 6, ground := Ground.data }, { on := 5, ground := Ground.chain }, { on := 5, ground := Ground.guard }], guard := some (5, true) }) rfl (fun K hK => ?_) AllReadyH.nil)
          have hOld := hide hHeld
          clear hHeld
          go_simp
          refine (HOF.out _).mono ?_
          rintro e u7 ⟨rfl, hb⟩
          have XA7 := hide ((hb.block _ (heap_lt XA0.out)).trans XA0.out)
          have XB7 := hide ((hb.block _ (heap_lt XB0.out)).trans XB0.out)
          have BB7 := hide (BB0.out.trans (hb.mono BB0.out.size))
          have XM7 := hide (both_below XM.out hb)
          have XW7 := hide ((hb.block _ (heap_lt XW0.out)).trans XW0.out)
          clear hb
          try unfold totA
          (try go_wp2_with fail)
          refine hK.out _ _ (⟨XA7.out, XB7.out⟩) (fun hHeld => ?_)
          clear hK K hOld
          try simp only [Act.put, List.setIfInBounds_toArray, List.set_cons_zero, List.set_cons_succ]
          refine wpAnyH_take (i := 9) (oi := { dst := some 51, op := Op.binOp BinOp.neq 29 (Operand.tmp 49) (Operand.tmp 50) 29, type := 4, pos := "law.go:50", after := #[{ on := 7, ground := Ground.data }, { on := 8, ground := Ground.data }, { on := 5, ground := Ground.guard }], guard := some (5, true) }) (v := ?_) rfl (by kernel_rfl) (by kernel_rfl) (by kernel_rfl) (fun _ _ _ h => h) (Or.inl ⟨by kernel_rfl, ?_⟩) hHeld ?_
          rotate_left
          · (intro w hSw; (try dsimp only at hSw); have e0 := cell_of_block hSw.1 0; have e1 := cell_of_block hSw.1 1; have e2 := cell_of_block hSw.1 2; have e3 := cell_of_block hSw.1 3; have e4 := cell_of_block hSw.1 4; have e5 := cell_of_block hSw.1 5; have g0 := cell_of_block hSw.2 0; have g1 := cell_of_block hSw.2 1; have g2 := cell_of_block hSw.2 2; have g3 := cell_of_block hSw.2 3; have g4 := cell_of_block hSw.2 4; have g5 := cell_of_block hSw.2 5; go_simp); try with_reducible rfl
          try simp only [Act.put, List.setIfInBounds_toArray, List.set_cons_zero, List.set_cons_succ]
          refine wpAnyH_take (i := 10) (oi := { dst := some 52, op := Op.pick (Operand.tmp 47) (Operand.tmp 51) (Operand.const (Value.bool false)), type := 4, pos := "law.go:50", after := #[{ on := 5, ground := Ground.data }, { on := 9, ground := Ground.data }, { on := 3, ground := Ground.guard }], guard := some (3, false) }) (v := ?_) rfl (by kernel_rfl) (by kernel_rfl) (by kernel_rfl) (fun _ _ _ h => h) (Or.inl ⟨by kernel_rfl, ?_⟩) hHeld ?_
          rotate_left
          · (intro w hSw; (try dsimp only at hSw); have e0 := cell_of_block hSw.1 0; have e1 := cell_of_block hSw.1 1; have e2 := cell_of_block hSw.1 2; have e3 := cell_of_block hSw.1 3; have e4 := cell_of_block hSw.1 4; have e5 := cell_of_block hSw.1 5; have g0 := cell_of_block hSw.2 0; have g1 := cell_of_block hSw.2 1; have g2 := cell_of_block hSw.2 2; have g3 := cell_of_block hSw.2 3; have g4 := cell_of_block hSw.2 4; have g5 := cell_of_block hSw.2 5; go_simp); try with_reducible rfl
          try simp only [Act.put, List.setIfInBounds_toArray, List.set_cons_zero, List.set_cons_succ]
          refine wpAnyH_take (i := 11) (oi := { dst := some 53, op := Op.pick (Operand.tmp 45) (Operand.const (Value.bool true)) (Operand.tmp 52), type := 4, pos := "law.go:50", after := #[{ on := 3, ground := Ground.data }, { on := 10, ground := Ground.data }], guard := none }) (v := ?_) rfl (by kernel_rfl) (by kernel_rfl) (by kernel_rfl) (fun _ _ _ h => h) (Or.inl ⟨by kernel_rfl, ?_⟩) hHeld ?_
          rotate_left
          · (intro w hSw; (try dsimp only at hSw); have e0 := cell_of_block hSw.1 0; have e1 := cell_of_block hSw.1 1; have e2 := cell_of_block hSw.1 2; have e3 := cell_of_block hSw.1 3; have e4 := cell_of_block hSw.1 4; have e5 := cell_of_block hSw.1 5; have g0 := cell_of_block hSw.2 0; have g1 := cell_of_block hSw.2 1; have g2 := cell_of_block hSw.2 2; have g3 := cell_of_block hSw.2 3; have g4 := cell_of_block hSw.2 4; have g5 := cell_of_block hSw.2 5; go_simp); try with_reducible rfl
          try simp only [Act.put, List.setIfInBounds_toArray, List.set_cons_zero, List.set_cons_succ]
          refine wpAnyH_take (i := 12) (oi := { dst := some 54, op := Op.move (Operand.tmp 53), type := 4, pos := "law.go:50", after := #[{ on := 11, ground := Ground.data }, { on := 7, ground := Ground.chain }], guard := none }) (v := ?_) rfl (by kernel_rfl) (by kernel_rfl) (by kernel_rfl) (fun _ _ _ h => h) (Or.inl ⟨by kernel_rfl, ?_⟩) hHeld ?_
          rotate_left
          · (intro w hSw; (try dsimp only at hSw); have e0 := cell_of_block hSw.1 0; have e1 := cell_of_block hSw.1 1; have e2 := cell_of_block hSw.1 2; have e3 := cell_of_block hSw.1 3; have e4 := cell_of_block hSw.1 4; have e5 := cell_of_block hSw.1 5; have g0 := cell_of_block hSw.2 0; have g1 := cell_of_block hSw.2 1; have g2 := cell_of_block hSw.2 2; have g3 := cell_of_block hSw.2 3; have g4 := cell_of_block hSw.2 4; have g5 := cell_of_block hSw.2 5; go_simp); try with_reducible rfl
          try simp only [Act.put, List.setIfInBounds_toArray, List.set_cons_zero, List.set_cons_succ]
          refine wpAnyH_take (i := 13) (oi := { dst := some 55, op := Op.move (Operand.tmp 8), type := 4, pos := "law.go:50", after := #[{ on := 12, ground := Ground.guard }], guard := some (12, false) }) (v := ?_) rfl (by kernel_rfl) (by kernel_rfl) (by kernel_rfl) (fun _ _ _ h => h) (Or.inl ⟨by kernel_rfl, ?_⟩) hHeld ?_
          rotate_left
          · (intro w hSw; (try dsimp only at hSw); have e0 := cell_of_block hSw.1 0; have e1 := cell_of_block hSw.1 1; have e2 := cell_of_block hSw.1 2; have e3 := cell_of_block hSw.1 3; have e4 := cell_of_block hSw.1 4; have e5 := cell_of_block hSw.1 5; have g0 := cell_of_block hSw.2 0; have g1 := cell_of_block hSw.2 1; have g2 := cell_of_block hSw.2 2; have g3 := cell_of_block hSw.2 3; have g4 := cell_of_block hSw.2 4; have g5 := cell_of_block hSw.2 5; go_simp); try with_reducible rfl
          try simp only [Act.put, List.setIfInBounds_toArray, List.set_cons_zero, List.set_cons_succ]
          refine wpAnyH_take (i := 14) (oi := { dst := some 56, op := Op.unOp UnOp.not 4 (Operand.tmp 55), type := 4, pos := "law.go:50", after := #[{ on := 13, ground := Ground.data }, { on := 12, ground := Ground.guard }], guard := some (12, false) }) (v := ?_) rfl (by kernel_rfl) (by kernel_rfl) (by kernel_rfl) (fun _ _ _ h => h) (Or.inl ⟨by kernel_rfl, ?_⟩) hHeld ?_
          rotate_left
          · (intro w hSw; (try dsimp only at hSw); have e0 := cell_of_block hSw.1 0; have e1 := cell_of_block hSw.1 1; have e2 := cell_of_block hSw.1 2; have e3 := cell_of_block hSw.1 3; have e4 := cell_of_block hSw.1 4; have e5 := cell_of_block hSw.1 5; have g0 := cell_of_block hSw.2 0; have g1 := cell_of_block hSw.2 1; have g2 := cell_of_block hSw.2 2; have g3 := cell_of_block hSw.2 3; have g4 := cell_of_block hSw.2 4; have g5 := cell_of_block hSw.2 5; go_simp); try with_reducible rfl
          try simp only [Act.put, List.setIfInBounds_toArray, List.set_cons_zero, List.set_cons_succ]
          refine wpAnyH_take (i := 15) (oi := { dst := some 57, op := Op.move (Operand.tmp 56), type := 4, pos := "law.go:50", after := #[{ on := 14, ground := Ground.data }, { on := 12, ground := Ground.chain }, { on := 12, ground := Ground.guard }], guard := some (12, false) }) (v := ?_) rfl (by kernel_rfl) (by kernel_rfl) (by kernel_rfl) (fun _ _ _ h => h) (Or.inl ⟨by kernel_rfl, ?_⟩) hHeld ?_
          rotate_left
          · (intro w hSw; (try dsimp only at hSw); have e0 := cell_of_block hSw.1 0; have e1 := cell_of_block hSw.1 1; have e2 := cell_of_block hSw.1 2; have e3 := cell_of_block hSw.1 3; have e4 := cell_of_block hSw.1 4; have e5 := cell_of_block hSw.1 5; have g0 := cell_of_block hSw.2 0; have g1 := cell_of_block hSw.2 1; have g2 := cell_of_block hSw.2 2; have g3 := cell_of_block hSw.2 3; have g4 := cell_of_block hSw.2 4; have g5 := cell_of_block hSw.2 5; go_simp); try with_reducible rfl
          try simp only [Act.put, List.setIfInBounds_toArray, List.set_cons_zero, List.set_cons_succ]
          refine wpAnyH_take (i := 16) (oi := { dst := some 58, op := Op.load 43 (Operand.tmp 7), type := 43, pos := "law.go:50", after := #[{ on := 15, ground := Ground.guard }], guard := some (15, true) }) (v := undef) rfl (by kernel_rfl) (by kernel_rfl) (by kernel_rfl) (fun _ _ _ h => h) (Or.inr ⟨by kernel_rfl, rfl⟩) hHeld ?_
          try simp only [Act.put, List.setIfInBounds_toArray, List.set_cons_zero, List.set_cons_succ]
          refine wpAnyH_take (i := 17) (oi := { dst := some 59, op := Op.build 43 #[], type := 43, pos := "law.go:50", after := #[{ on := 15, ground := Ground.guard }], guard := some (15, true) }) (v := undef) rfl (by kernel_rfl) (by kernel_rfl) (by kernel_rfl) (fun _ _ _ h => h) (Or.inr ⟨by kernel_rfl, rfl⟩) hHeld ?_
          try simp only [Act.put, List.setIfInBounds_toArray, List.set_cons_zero, List.set_cons_succ]
          refine wpAnyH_take (i := 18) (oi := { dst := some 60, op := Op.binOp BinOp.neq 43 (Operand.tmp 58) (Operand.tmp 59) 43, type := 4, pos := "law.go:50", after := #[{ on := 16, ground := Ground.data }, { on := 17, ground := Ground.data }, { on := 15, ground := Ground.guard }], guard := some (15, true) }) (v := undef) rfl (by kernel_rfl) (by kernel_rfl) (by kernel_rfl) (fun _ _ _ h => h) (Or.inr ⟨by kernel_rfl, rfl⟩) hHeld ?_
          try simp only [Act.put, List.setIfInBounds_toArray, List.set_cons_zero, List.set_cons_succ]
          refine wpAnyH_take (i := 19) (oi := { dst := some 61, op := Op.pick (Operand.tmp 57) (Operand.tmp 60) (Operand.const (Value.bool false)), type := 4, pos := "law.go:50", after := #[{ on := 15, ground := Ground.data }, { on := 18, ground := Ground.data }, { on := 12, ground := Ground.guard }], guard := some (12, false) }) (v := ?_) rfl (by kernel_rfl) (by kernel_rfl) (by kernel_rfl) (fun _ _ _ h => h) (Or.inl ⟨by kernel_rfl, ?_⟩) hHeld ?_
          rotate_left
          · (intro w hSw; (try dsimp only at hSw); have e0 := cell_of_block hSw.1 0; have e1 := cell_of_block hSw.1 1; have e2 := cell_of_block hSw.1 2; have e3 := cell_of_block hSw.1 3; have e4 := cell_of_block hSw.1 4; have e5 := cell_of_block hSw.1 5; have g0 := cell_of_block hSw.2 0; have g1 := cell_of_block hSw.2 1; have g2 := cell_of_block hSw.2 2; have g3 := cell_of_block hSw.2 3; have g4 := cell_of_block hSw.2 4; have g5 := cell_of_block hSw.2 5; go_simp); try with_reducible rfl
          try simp only [Act.put, List.setIfInBounds_toArray, List.set_cons_zero, List.set_cons_succ]
          refine wpAnyH_take (i := 20) (oi := { dst := some 62, op := Op.pick (Operand.tmp 54) (Operand.const (Value.bool true)) (Operand.tmp 61), type := 4, pos := "law.go:50", after := #[{ on := 12, ground := Ground.data }, { on := 19, ground := Ground.data }], guard := none }) (v := ?_) rfl (by kernel_rfl) (by kernel_rfl) (by kernel_rfl) (fun _ _ _ h => h) (Or.inl ⟨by kernel_rfl, ?_⟩) hHeld ?_
          rotate_left
          · (intro w hSw; (try dsimp only at hSw); have e0 := cell_of_block hSw.1 0; have e1 := cell_of_block hSw.1 1; have e2 := cell_of_block hSw.1 2; have e3 := cell_of_block hSw.1 3; have e4 := cell_of_block hSw.1 4; have e5 := cell_of_block hSw.1 5; have g0 := cell_of_block hSw.2 0; have g1 := cell_of_block hSw.2 1; have g2 := cell_of_block hSw.2 2; have g3 := cell_of_block hSw.2 3; have g4 := cell_of_block hSw.2 4; have g5 := cell_of_block hSw.2 5; go_simp); try with_reducible rfl
          try simp only [Act.put, List.setIfInBounds_toArray, List.set_cons_zero, List.set_cons_succ]
          refine wpAnyH_done (by kernel_rfl) ?_ _
          clear hHeld
          go_wp2_with fail
          go_roundw
          case rel => exact ⟨k + 1, by omega, by rw [← HN.out]; go_num <;> omega, XM7.out, XW7.out, BB7.out⟩
          case measure => have := HN.out; simp [intOf]; omega
        | none =>
          have HTO := hide ho
          clear ho
          try rw [HTO.out]
          simp only [Option.getD_none, Option.isSome_none, tot0]
          unfold totV
          go_upto_region 10 with (fail)
          obtain ⟨oz, hoz⟩ : ∃ oz, oz = Obj.cells #[.int .i64 0, .int .i64 0, .int .i64 0, .int .i64 0, .int .i64 0, .int .i64 0] 43 := ⟨_, rfl⟩
          rw [← hoz]
          have hal := (Below.refl w3.heap.size w3).alloc (Nat.le_refl _) oz
          have XA := hide (heap_new w3 oz)
          have XM := hide (both_below XM3.out hal)
          have XW := hide ((hal.block _ (heap_lt XW3.out)).trans XW3.out)
          have BW := hide (BW3.out.trans (hal.mono BW3.out.size))
          clear hal XM3 XW3 BW3
          generalize w3.alloc oz = w4 at *
          generalize w3.heap.size = ta at *
          rw [hoz] at XA
          clear hoz oz
          obtain ⟨⟨c0, c1, c2, c3, c4, c5, c6, c7, c8, c9⟩, ⟨f0, f1, f2, f3, f4, f5, f6, f7, f8, f9⟩⟩ := sh_facts XW.out
          go_wp2_with fail
          refine (HOF2.out w4 XM.out.2).mono ?_
          rintro e w5 ⟨rfl, hb⟩
          have XA5 := hide ((hb.block _ (heap_lt XA.out)).trans XA.out)
          have XM5 := hide (both_below XM.out hb)
          have XW5 := hide ((hb.block _ (heap_lt XW.out)).trans XW.out)
          have BW5 := hide (BW.out.trans (hb.mono BW.out.size))
          clear hb XA XM XW BW c0 c1 c2 c3 c4 c5 c6 c7 c8 c9 f0 f1 f2 f3 f4 f5 f6 f7 f8 f9
          try rw [HTO.out]
          simp only [Option.getD_none, Option.isSome_none, tot0]
          unfold totV
          go_upto_region 11 with (fail)
          obtain ⟨oz, hoz⟩ : ∃ oz, oz = Obj.cells #[.int .i64 0, .int .i64 0, .int .i64 0, .int .i64 0, .int .i64 0, .int .i64 0] 29 := ⟨_, rfl⟩
          rw [← hoz]
          have hal := (Below.refl w5.heap.size w5).alloc (Nat.le_refl _) oz
          have XB := hide (heap_new w5 oz)
          have XA6 := hide ((hal.block _ (heap_lt XA5.out)).trans XA5.out)
          have XM6 := hide (both_below XM5.out hal)
          have XW6 := hide ((hal.block _ (heap_lt XW5.out)).trans XW5.out)
          have BW6 := hide (BW5.out.trans (hal.mono BW5.out.size))
          clear hal XA5 XM5 XW5 BW5
          generalize w5.alloc oz = w6 at *
          generalize w5.heap.size = tb at *
          rw [hoz] at XB
          clear hoz oz
          have XA0 := hide (show w6.drew.heap[ta]? = _ from XA6.out)
          have XB0 := hide (show w6.drew.heap[tb]? = _ from XB.out)
          have XM := hide (show ShIs w6.drew B p ⟨keep, next, op, now, L⟩ V ∧ RsIs w6.drew ⟨keep, next, op, now, L⟩ ⟨xc, xs, xv, xr, xi, xo⟩ a cp from ⟨XM6.out.1.drew, ⟨XM6.out.2.row, XM6.out.2.now⟩⟩)
          have XW0 := hide (show w6.drew.heap[xb]? = _ from XW6.out)
          have BB0 := hide BW6.out.drew
          clear XA6 XB XM6 XW6 BW6
          have hrg := rguard_tot
          have hrn := rneq_self
          have hsg := sguard_tot
          have hsn := sneq_self
          refine wp_region_held_drew (S := (fun W => W.heap[ta]? = some (.cells #[.int .i64 0, .int .i64 0, .int .i64 0, .int .i64 0, .int .i64 0, .int .i64 0] 43 (0, 0)) ∧ W.heap[tb]? = some (.cells #[.int .i64 0, .int .i64 0, .int .i64 0, .int .i64 0, .int .i64 0, .int .i64 0] 29 (0, 0)))) (by kernel_rfl) (⟨XA0.out, XB0.out⟩) (fun hHeld => ?_)
          generalize w6.drew = u0 at *
          refine wpAnyH_take (i := 0) (oi := { dst := some 42, op := Op.move (Operand.tmp 8), type := 4, pos := "law.go:50", after := #[], guard := none }) (v := ?_) rfl (by kernel_rfl) (by kernel_rfl) (by kernel_rfl) (fun _ _ _ h => h) (Or.inl ⟨by kernel_rfl, ?_⟩) hHeld ?_
          rotate_left
          · (intro w hSw; (try dsimp only at hSw); have e0 := cell_of_block hSw.1 0; have e1 := cell_of_block hSw.1 1; have e2 := cell_of_block hSw.1 2; have e3 := cell_of_block hSw.1 3; have e4 := cell_of_block hSw.1 4; have e5 := cell_of_block hSw.1 5; have g0 := cell_of_block hSw.2 0; have g1 := cell_of_block hSw.2 1; have g2 := cell_of_block hSw.2 2; have g3 := cell_of_block hSw.2 3; have g4 := cell_of_block hSw.2 4; have g5 := cell_of_block hSw.2 5; go_simp); try with_reducible rfl
          try simp only [Act.put, List.setIfInBounds_toArray, List.set_cons_zero, List.set_cons_succ]
          refine wpAnyH_take (i := 1) (oi := { dst := some 43, op := Op.move (Operand.tmp 10), type := 4, pos := "law.go:50", after := #[], guard := none }) (v := ?_) rfl (by kernel_rfl) (by kernel_rfl) (by kernel_rfl) (fun _ _ _ h => h) (Or.inl ⟨by kernel_rfl, ?_⟩) hHeld ?_
          rotate_left
          · (intro w hSw; (try dsimp only at hSw); have e0 := cell_of_block hSw.1 0; have e1 := cell_of_block hSw.1 1; have e2 := cell_of_block hSw.1 2; have e3 := cell_of_block hSw.1 3; have e4 := cell_of_block hSw.1 4; have e5 := cell_of_block hSw.1 5; have g0 := cell_of_block hSw.2 0; have g1 := cell_of_block hSw.2 1; have g2 := cell_of_block hSw.2 2; have g3 := cell_of_block hSw.2 3; have g4 := cell_of_block hSw.2 4; have g5 := cell_of_block hSw.2 5; go_simp); try with_reducible rfl
          try simp only [Act.put, List.setIfInBounds_toArray, List.set_cons_zero, List.set_cons_succ]
          refine wpAnyH_take (i := 2) (oi := { dst := some 44, op := Op.binOp BinOp.neq 4 (Operand.tmp 42) (Operand.tmp 43) 4, type := 4, pos := "law.go:50", after := #[{ on := 0, ground := Ground.data }, { on := 1, ground := Ground.data }], guard := none }) (v := ?_) rfl (by kernel_rfl) (by kernel_rfl) (by kernel_rfl) (fun _ _ _ h => h) (Or.inl ⟨by kernel_rfl, ?_⟩) hHeld ?_
          rotate_left
          · (intro w hSw; (try dsimp only at hSw); have e0 := cell_of_block hSw.1 0; have e1 := cell_of_block hSw.1 1; have e2 := cell_of_block hSw.1 2; have e3 := cell_of_block hSw.1 3; have e4 := cell_of_block hSw.1 4; have e5 := cell_of_block hSw.1 5; have g0 := cell_of_block hSw.2 0; have g1 := cell_of_block hSw.2 1; have g2 := cell_of_block hSw.2 2; have g3 := cell_of_block hSw.2 3; have g4 := cell_of_block hSw.2 4; have g5 := cell_of_block hSw.2 5; go_simp); try with_reducible rfl
          try simp only [Act.put, List.setIfInBounds_toArray, List.set_cons_zero, List.set_cons_succ]
          refine wpAnyH_take (i := 3) (oi := { dst := some 45, op := Op.move (Operand.tmp 44), type := 4, pos := "law.go:50", after := #[{ on := 2, ground := Ground.data }], guard := none }) (v := ?_) rfl (by kernel_rfl) (by kernel_rfl) (by kernel_rfl) (fun _ _ _ h => h) (Or.inl ⟨by kernel_rfl, ?_⟩) hHeld ?_
          rotate_left
          · (intro w hSw; (try dsimp only at hSw); have e0 := cell_of_block hSw.1 0; have e1 := cell_of_block hSw.1 1; have e2 := cell_of_block hSw.1 2; have e3 := cell_of_block hSw.1 3; have e4 := cell_of_block hSw.1 4; have e5 := cell_of_block hSw.1 5; have g0 := cell_of_block hSw.2 0; have g1 := cell_of_block hSw.2 1; have g2 := cell_of_block hSw.2 2; have g3 := cell_of_block hSw.2 3; have g4 := cell_of_block hSw.2 4; have g5 := cell_of_block hSw.2 5; go_simp); try with_reducible rfl
          try simp only [Act.put, List.setIfInBounds_toArray, List.set_cons_zero, List.set_cons_succ]
          refine wpAnyH_take (i := 4) (oi := { dst := some 46, op := Op.move (Operand.tmp 8), type := 4, pos := "law.go:50", after := #[{ on := 3, ground := Ground.guard }], guard := some (3, false) }) (v := ?_) rfl (by kernel_rfl) (by kernel_rfl) (by kernel_rfl) (fun _ _ _ h => h) (Or.inl ⟨by kernel_rfl, ?_⟩) hHeld ?_
          rotate_left
          · (intro w hSw; (try dsimp only at hSw); have e0 := cell_of_block hSw.1 0; have e1 := cell_of_block hSw.1 1; have e2 := cell_of_block hSw.1 2; have e3 := cell_of_block hSw.1 3; have e4 := cell_of_block hSw.1 4; have e5 := cell_of_block hSw.1 5; have g0 := cell_of_block hSw.2 0; have g1 := cell_of_block hSw.2 1; have g2 := cell_of_block hSw.2 2; have g3 := cell_of_block hSw.2 3; have g4 := cell_of_block hSw.2 4; have g5 := cell_of_block hSw.2 5; go_simp); try with_reducible rfl
          try simp only [Act.put, List.setIfInBounds_toArray, List.set_cons_zero, List.set_cons_succ]
          refine wpAnyH_take (i := 5) (oi := { dst := some 47, op := Op.move (Operand.tmp 46), type := 4, pos := "law.go:50", after := #[{ on := 4, ground := Ground.data }, { on := 3, ground := Ground.chain }, { on := 3, ground := Ground.guard }], guard := some (3, false) }) (v := ?_) rfl (by kernel_rfl) (by kernel_rfl) (by kernel_rfl) (fun _ _ _ h => h) (Or.inl ⟨by kernel_rfl, ?_⟩) hHeld ?_
          rotate_left
          · (intro w hSw; (try dsimp only at hSw); have e0 := cell_of_block hSw.1 0; have e1 := cell_of_block hSw.1 1; have e2 := cell_of_block hSw.1 2; have e3 := cell_of_block hSw.1 3; have e4 := cell_of_block hSw.1 4; have e5 := cell_of_block hSw.1 5; have g0 := cell_of_block hSw.2 0; have g1 := cell_of_block hSw.2 1; have g2 := cell_of_block hSw.2 2; have g3 := cell_of_block hSw.2 3; have g4 := cell_of_block hSw.2 4; have g5 := cell_of_block hSw.2 5; go_simp); try with_reducible rfl
          try simp only [Act.put, List.setIfInBounds_toArray, List.set_cons_zero, List.set_cons_succ]
          refine wpAnyH_take (i := 6) (oi := { dst := some 48, op := Op.load 43 (Operand.tmp 7), type := 43, pos := "law.go:50", after := #[{ on := 5, ground := Ground.guard }], guard := some (5, true) }) (v := undef) rfl (by kernel_rfl) (by kernel_rfl) (by kernel_rfl) (fun _ _ _ h => h) (Or.inr ⟨by kernel_rfl, rfl⟩) hHeld ?_
          try simp only [Act.put, List.setIfInBounds_toArray, List.set_cons_zero, List.set_cons_succ]
          refine wpAnyH_take (i := 7) (oi := { dst := some 49, op := Op.call { callee := Callee.value (Operand.func 14), args := #[Operand.tmp 48], argTypes := #[43] }, type := 29, pos := "law.go:50", after := #[{ on := 6, ground := Ground.data }, { on := 5, ground := Ground.chain }, { on := 5, ground := Ground.guard }], guard := some (5, true) }) (v := undef) rfl (by kernel_rfl) (by kernel_rfl) (by kernel_rfl) (fun _ _ _ h => h) (Or.inr ⟨by kernel_rfl, rfl⟩) hHeld ?_
          try simp only [Act.put, List.setIfInBounds_toArray, List.set_cons_zero, List.set_cons_succ]
          refine wpAnyH_take (i := 8) (oi := { dst := some 50, op := Op.load 29 (Operand.tmp 9), type := 29, pos := "law.go:50", after := #[{ on := 5, ground := Ground.guard }], guard := some (5, true) }) (v := undef) rfl (by kernel_rfl) (by kernel_rfl) (by kernel_rfl) (fun _ _ _ h => h) (Or.inr ⟨by kernel_rfl, rfl⟩) hHeld ?_
          try simp only [Act.put, List.setIfInBounds_toArray, List.set_cons_zero, List.set_cons_succ]
          refine wpAnyH_take (i := 9) (oi := { dst := some 51, op := Op.binOp BinOp.neq 29 (Operand.tmp 49) (Operand.tmp 50) 29, type := 4, pos := "law.go:50", after := #[{ on := 7, ground := Ground.data }, { on := 8, ground := Ground.data }, { on := 5, ground := Ground.guard }], guard := some (5, true) }) (v := undef) rfl (by kernel_rfl) (by kernel_rfl) (by kernel_rfl) (fun _ _ _ h => h) (Or.inr ⟨by kernel_rfl, rfl⟩) hHeld ?_
          try simp only [Act.put, List.setIfInBounds_toArray, List.set_cons_zero, List.set_cons_succ]
          refine wpAnyH_take (i := 10) (oi := { dst := some 52, op := Op.pick (Operand.tmp 47) (Operand.tmp 51) (Operand.const (Value.bool false)), type := 4, pos := "law.go:50", after := #[{ on := 5, ground := Ground.data }, { on := 9, ground := Ground.data }, { on := 3, ground := Ground.guard }], guard := some (3, false) }) (v := ?_) rfl (by kernel_rfl) (by kernel_rfl) (by kernel_rfl) (fun _ _ _ h => h) (Or.inl ⟨by kernel_rfl, ?_⟩) hHeld ?_
          rotate_left
          · (intro w hSw; (try dsimp only at hSw); have e0 := cell_of_block hSw.1 0; have e1 := cell_of_block hSw.1 1; have e2 := cell_of_block hSw.1 2; have e3 := cell_of_block hSw.1 3; have e4 := cell_of_block hSw.1 4; have e5 := cell_of_block hSw.1 5; have g0 := cell_of_block hSw.2 0; have g1 := cell_of_block hSw.2 1; have g2 := cell_of_block hSw.2 2; have g3 := cell_of_block hSw.2 3; have g4 := cell_of_block hSw.2 4; have g5 := cell_of_block hSw.2 5; go_simp); try with_reducible rfl
          try simp only [Act.put, List.setIfInBounds_toArray, List.set_cons_zero, List.set_cons_succ]
          refine wpAnyH_take (i := 11) (oi := { dst := some 53, op := Op.pick (Operand.tmp 45) (Operand.const (Value.bool true)) (Operand.tmp 52), type := 4, pos := "law.go:50", after := #[{ on := 3, ground := Ground.data }, { on := 10, ground := Ground.data }], guard := none }) (v := ?_) rfl (by kernel_rfl) (by kernel_rfl) (by kernel_rfl) (fun _ _ _ h => h) (Or.inl ⟨by kernel_rfl, ?_⟩) hHeld ?_
          rotate_left
          · (intro w hSw; (try dsimp only at hSw); have e0 := cell_of_block hSw.1 0; have e1 := cell_of_block hSw.1 1; have e2 := cell_of_block hSw.1 2; have e3 := cell_of_block hSw.1 3; have e4 := cell_of_block hSw.1 4; have e5 := cell_of_block hSw.1 5; have g0 := cell_of_block hSw.2 0; have g1 := cell_of_block hSw.2 1; have g2 := cell_of_block hSw.2 2; have g3 := cell_of_block hSw.2 3; have g4 := cell_of_block hSw.2 4; have g5 := cell_of_block hSw.2 5; go_simp); try with_reducible rfl
          try simp only [Act.put, List.setIfInBounds_toArray, List.set_cons_zero, List.set_cons_succ]
          refine wpAnyH_take (i := 12) (oi := { dst := some 54, op := Op.move (Operand.tmp 53), type := 4, pos := "law.go:50", after := #[{ on := 11, ground := Ground.data }, { on := 7, ground := Ground.chain }], guard := none }) (v := ?_) rfl (by kernel_rfl) (by kernel_rfl) (by kernel_rfl) (fun _ _ _ h => h) (Or.inl ⟨by kernel_rfl, ?_⟩) hHeld ?_
          rotate_left
          · (intro w hSw; (try dsimp only at hSw); have e0 := cell_of_block hSw.1 0; have e1 := cell_of_block hSw.1 1; have e2 := cell_of_block hSw.1 2; have e3 := cell_of_block hSw.1 3; have e4 := cell_of_block hSw.1 4; have e5 := cell_of_block hSw.1 5; have g0 := cell_of_block hSw.2 0; have g1 := cell_of_block hSw.2 1; have g2 := cell_of_block hSw.2 2; have g3 := cell_of_block hSw.2 3; have g4 := cell_of_block hSw.2 4; have g5 := cell_of_block hSw.2 5; go_simp); try with_reducible rfl
          try simp only [Act.put, List.setIfInBounds_toArray, List.set_cons_zero, List.set_cons_succ]
          refine wpAnyH_take (i := 13) (oi := { dst := some 55, op := Op.move (Operand.tmp 8), type := 4, pos := "law.go:50", after := #[{ on := 12, ground := Ground.guard }], guard := some (12, false) }) (v := ?_) rfl (by kernel_rfl) (by kernel_rfl) (by kernel_rfl) (fun _ _ _ h => h) (Or.inl ⟨by kernel_rfl, ?_⟩) hHeld ?_
          rotate_left
          · (intro w hSw; (try dsimp only at hSw); have e0 := cell_of_block hSw.1 0; have e1 := cell_of_block hSw.1 1; have e2 := cell_of_block hSw.1 2; have e3 := cell_of_block hSw.1 3; have e4 := cell_of_block hSw.1 4; have e5 := cell_of_block hSw.1 5; have g0 := cell_of_block hSw.2 0; have g1 := cell_of_block hSw.2 1; have g2 := cell_of_block hSw.2 2; have g3 := cell_of_block hSw.2 3; have g4 := cell_of_block hSw.2 4; have g5 := cell_of_block hSw.2 5; go_simp); try with_reducible rfl
          try simp only [Act.put, List.setIfInBounds_toArray, List.set_cons_zero, List.set_cons_succ]
          refine wpAnyH_take (i := 14) (oi := { dst := some 56, op := Op.unOp UnOp.not 4 (Operand.tmp 55), type := 4, pos := "law.go:50", after := #[{ on := 13, ground := Ground.data }, { on := 12, ground := Ground.guard }], guard := some (12, false) }) (v := ?_) rfl (by kernel_rfl) (by kernel_rfl) (by kernel_rfl) (fun _ _ _ h => h) (Or.inl ⟨by kernel_rfl, ?_⟩) hHeld ?_
          rotate_left
          · (intro w hSw; (try dsimp only at hSw); have e0 := cell_of_block hSw.1 0; have e1 := cell_of_block hSw.1 1; have e2 := cell_of_block hSw.1 2; have e3 := cell_of_block hSw.1 3; have e4 := cell_of_block hSw.1 4; have e5 := cell_of_block hSw.1 5; have g0 := cell_of_block hSw.2 0; have g1 := cell_of_block hSw.2 1; have g2 := cell_of_block hSw.2 2; have g3 := cell_of_block hSw.2 3; have g4 := cell_of_block hSw.2 4; have g5 := cell_of_block hSw.2 5; go_simp); try with_reducible rfl
          try simp only [Act.put, List.setIfInBounds_toArray, List.set_cons_zero, List.set_cons_succ]
          refine wpAnyH_take (i := 15) (oi := { dst := some 57, op := Op.move (Operand.tmp 56), type := 4, pos := "law.go:50", after := #[{ on := 14, ground := Ground.data }, { on := 12, ground := Ground.chain }, { on := 12, ground := Ground.guard }], guard := some (12, false) }) (v := ?_) rfl (by kernel_rfl) (by kernel_rfl) (by kernel_rfl) (fun _ _ _ h => h) (Or.inl ⟨by kernel_rfl, ?_⟩) hHeld ?_
          rotate_left
          · (intro w hSw; (try dsimp only at hSw); have e0 := cell_of_block hSw.1 0; have e1 := cell_of_block hSw.1 1; have e2 := cell_of_block hSw.1 2; have e3 := cell_of_block hSw.1 3; have e4 := cell_of_block hSw.1 4; have e5 := cell_of_block hSw.1 5; have g0 := cell_of_block hSw.2 0; have g1 := cell_of_block hSw.2 1; have g2 := cell_of_block hSw.2 2; have g3 := cell_of_block hSw.2 3; have g4 := cell_of_block hSw.2 4; have g5 := cell_of_block hSw.2 5; go_simp); try with_reducible rfl
          try simp only [Act.put, List.setIfInBounds_toArray, List.set_cons_zero, List.set_cons_succ]
          refine wpAnyH_take (i := 16) (oi := { dst := some 58, op := Op.load 43 (Operand.tmp 7), type := 43, pos := "law.go:50", after := #[{ on := 15, ground := Ground.guard }], guard := some (15, true) }) (v := ?_) rfl (by kernel_rfl) (by kernel_rfl) (by kernel_rfl) (fun _ _ _ h => h) (Or.inl ⟨by kernel_rfl, ?_⟩) hHeld ?_
          rotate_left
          · (intro w hSw; (try dsimp only at hSw); have e0 := cell_of_block hSw.1 0; have e1 := cell_of_block hSw.1 1; have e2 := cell_of_block hSw.1 2; have e3 := cell_of_block hSw.1 3; have e4 := cell_of_block hSw.1 4; have e5 := cell_of_block hSw.1 5; have g0 := cell_of_block hSw.2 0; have g1 := cell_of_block hSw.2 1; have g2 := cell_of_block hSw.2 2; have g3 := cell_of_block hSw.2 3; have g4 := cell_of_block hSw.2 4; have g5 := cell_of_block hSw.2 5; go_simp); try with_reducible rfl
          try simp only [Act.put, List.setIfInBounds_toArray, List.set_cons_zero, List.set_cons_succ]
          refine wpAnyH_take (i := 17) (oi := { dst := some 59, op := Op.build 43 #[], type := 43, pos := "law.go:50", after := #[{ on := 15, ground := Ground.guard }], guard := some (15, true) }) (v := ?_) rfl (by kernel_rfl) (by kernel_rfl) (by kernel_rfl) (fun _ _ _ h => h) (Or.inl ⟨by kernel_rfl, ?_⟩) hHeld ?_
          rotate_left
          · (intro w hSw; (try dsimp only at hSw); have e0 := cell_of_block hSw.1 0; have e1 := cell_of_block hSw.1 1; have e2 := cell_of_block hSw.1 2; have e3 := cell_of_block hSw.1 3; have e4 := cell_of_block hSw.1 4; have e5 := cell_of_block hSw.1 5; have g0 := cell_of_block hSw.2 0; have g1 := cell_of_block hSw.2 1; have g2 := cell_of_block hSw.2 2; have g3 := cell_of_block hSw.2 3; have g4 := cell_of_block hSw.2 4; have g5 := cell_of_block hSw.2 5; go_simp); try with_reducible rfl
          try simp only [Act.put, List.setIfInBounds_toArray, List.set_cons_zero, List.set_cons_succ]
          refine wpAnyH_take (i := 18) (oi := { dst := some 60, op := Op.binOp BinOp.neq 43 (Operand.tmp 58) (Operand.tmp 59) 43, type := 4, pos := "law.go:50", after := #[{ on := 16, ground := Ground.data }, { on := 17, ground := Ground.data }, { on := 15, ground := Ground.guard }], guard := some (15, true) }) (v := ?_) rfl (by kernel_rfl) (by kernel_rfl) (by kernel_rfl) (fun _ _ _ h => h) (Or.inl ⟨by kernel_rfl, ?_⟩) hHeld ?_
          rotate_left
          · (intro w hSw; (try dsimp only at hSw); have e0 := cell_of_block hSw.1 0; have e1 := cell_of_block hSw.1 1; have e2 := cell_of_block hSw.1 2; have e3 := cell_of_block hSw.1 3; have e4 := cell_of_block hSw.1 4; have e5 := cell_of_block hSw.1 5; have g0 := cell_of_block hSw.2 0; have g1 := cell_of_block hSw.2 1; have g2 := cell_of_block hSw.2 2; have g3 := cell_of_block hSw.2 3; have g4 := cell_of_block hSw.2 4; have g5 := cell_of_block hSw.2 5; go_simp); try with_reducible rfl
          try simp only [Act.put, List.setIfInBounds_toArray, List.set_cons_zero, List.set_cons_succ]
          refine wpAnyH_take (i := 19) (oi := { dst := some 61, op := Op.pick (Operand.tmp 57) (Operand.tmp 60) (Operand.const (Value.bool false)), type := 4, pos := "law.go:50", after := #[{ on := 15, ground := Ground.data }, { on := 18, ground := Ground.data }, { on := 12, ground := Ground.guard }], guard := some (12, false) }) (v := ?_) rfl (by kernel_rfl) (by kernel_rfl) (by kernel_rfl) (fun _ _ _ h => h) (Or.inl ⟨by kernel_rfl, ?_⟩) hHeld ?_
          rotate_left
          · (intro w hSw; (try dsimp only at hSw); have e0 := cell_of_block hSw.1 0; have e1 := cell_of_block hSw.1 1; have e2 := cell_of_block hSw.1 2; have e3 := cell_of_block hSw.1 3; have e4 := cell_of_block hSw.1 4; have e5 := cell_of_block hSw.1 5; have g0 := cell_of_block hSw.2 0; have g1 := cell_of_block hSw.2 1; have g2 := cell_of_block hSw.2 2; have g3 := cell_of_block hSw.2 3; have g4 := cell_of_block hSw.2 4; have g5 := cell_of_block hSw.2 5; go_simp); try with_reducible rfl
          try simp only [Act.put, List.setIfInBounds_toArray, List.set_cons_zero, List.set_cons_succ]
          refine wpAnyH_take (i := 20) (oi := { dst := some 62, op := Op.pick (Operand.tmp 54) (Operand.const (Value.bool true)) (Operand.tmp 61), type := 4, pos := "law.go:50", after := #[{ on := 12, ground := Ground.data }, { on := 19, ground := Ground.data }], guard := none }) (v := ?_) rfl (by kernel_rfl) (by kernel_rfl) (by kernel_rfl) (fun _ _ _ h => h) (Or.inl ⟨by kernel_rfl, ?_⟩) hHeld ?_
          rotate_left
          · (intro w hSw; (try dsimp only at hSw); have e0 := cell_of_block hSw.1 0; have e1 := cell_of_block hSw.1 1; have e2 := cell_of_block hSw.1 2; have e3 := cell_of_block hSw.1 3; have e4 := cell_of_block hSw.1 4; have e5 := cell_of_block hSw.1 5; have g0 := cell_of_block hSw.2 0; have g1 := cell_of_block hSw.2 1; have g2 := cell_of_block hSw.2 2; have g3 := cell_of_block hSw.2 3; have g4 := cell_of_block hSw.2 4; have g5 := cell_of_block hSw.2 5; go_simp); try with_reducible rfl
          try simp only [Act.put, List.setIfInBounds_toArray, List.set_cons_zero, List.set_cons_succ]
          refine wpAnyH_done (by kernel_rfl) ?_ _
          clear hHeld
          go_wp2_with fail
          go_roundw
          case rel => exact ⟨k + 1, by omega, by rw [← HN.out]; go_num <;> omega, XM.out, XW0.out, BB0.out⟩
          case measure => have := HN.out; simp [intOf]; omega
      · obtain rfl : k = 14 := by omega
        have hl1 : ¬ next - 12 + ((14 : Nat) : Int) < next + 2 := by omega
        go_wp2_with fail
        go_ret
        exact ⟨rfl, BW.out⟩
end Go.Proofs.Ytfdgfeohmkdnoaa

/-
  Layer 26: the document's total, Text by contract.
-/
--import Derived.Test.Zdbg
namespace Go.Proofs.Ytfdgfeohmkdnoaa
set_option linter.unusedSimpArgs false
set_option linter.unusedVariables false
open Go.RowKit Go.WideShapes Go.ChangeShapes Go.ChangeAt Go.Deep

set_option maxRecDepth 100000 in
set_option maxHeartbeats 4000000 in
theorem rtotF_any (xc xs xv xr xi xo : Int) (hc : 0 ≤ xc ∧ xc ≤ 4294967295) (w : World) :
    Calls Try.prog 38 #[totV ⟨xc, xs, xv, xr, xi, xo⟩] w fun e w' => ∃ g c, e = .returned (.slice (some ⟨g, 0, none⟩) 6 c) ∧ w'.ownsRow w.heap.size 98 4 (.slice (some ⟨g, 0, none⟩) 6 c) 6 ((totF ⟨xc, xs, xv, xr, xi, xo⟩).flatMap fc) ∧ Below w.heap.size w w' := by
  obtain ⟨i0, hi, hz0, hz1, hz2⟩ := info_parts (show (Try.prog.info? 98).map (fun i => (i.zero, i.size, i.bytes)) = some (some (.agg #[.int .i64 0, .int .i64 0, .int .u64 0, .string ⟨#[]⟩]), 4, 40) by kernel_rfl)
  have HI := hide hi
  have HZ0 := hide hz0
  have HZ1 := hide hz1
  have HZ2 := hide hz2
  clear hi hz0 hz1 hz2
  have hu : IntKind.u64.wrap xc = xc := by rw [IntKind.wrap_u64]; omega
  unfold totV
  dsimp only
  go_enter Try.func38, Try.ntmps38
  go_upto_region 2 with (fail)
  clear hu
  obtain ⟨w2, hw2⟩ : ∃ w2, w2 = (w.alloc (.cells #[.int .i64 xc, .int .i64 xs, .int .i64 xv, .int .i64 xr, .int .i64 xi, .int .i64 xo] 29)).alloc (.cells #[.int .i64 0, .int .i64 4, .int .u64 xc, .string ⟨#[]⟩] 98) := ⟨_, rfl⟩
  rw [← hw2]
  have EB := hide (show w2.heap[w.heap.size]? = some (.cells #[.int .i64 xc, .int .i64 xs, .int .i64 xv, .int .i64 xr, .int .i64 xi, .int .i64 xo] 29 (0, 0)) by rw [hw2, heap_old _ _ _ (by simp), heap_new])
  have XF := hide (show w2.heap[w.heap.size + 1]? = some (.cells #[.int .i64 0, .int .i64 4, .int .u64 xc, .string ⟨#[]⟩] 98 (0, 0)) by rw [hw2]; exact heap_alloc2_new w _ _)
  have BB := hide (show Below w.heap.size w w2 by rw [hw2]; exact ((Below.refl w.heap.size w).alloc (Nat.le_refl _) _).alloc (by simp) _)
  clear hw2
  obtain ⟨eb, heb⟩ : ∃ k, w.heap.size = k := ⟨_, rfl⟩
  obtain ⟨fb, hfb⟩ : ∃ k, eb + 1 = k := ⟨_, rfl⟩
  rw [heb] at EB XF ⊢
  rw [hfb] at XF ⊢
  have HFB := hide (show w.heap.size ≤ fb by omega)
  clear heb hfb
  have OW0 := hide (show w2.ownsRow w.heap.size 98 4 (.slice (some ⟨fb, 0, none⟩) 1 1) 1 ((totFk ⟨xc, xs, xv, xr, xi, xo⟩ 0).flatMap fc) from ⟨rfl, .inr ⟨fb, 1, _, rfl, HFB.out, XF.out, Nat.le_refl _, by decide, rfl, rfl⟩⟩)
  clear XF
  go_wp2_with fail
  go_loopw [3, 4] (fun l i W => ∃ (k g c4 : Nat), k ≤ 5 ∧ l = .slice (some ⟨g, 0, none⟩) (k + 1) c4 ∧ i = .int .i64 k ∧ W.heap[eb]? = some (.cells #[.int .i64 xc, .int .i64 xs, .int .i64 xv, .int .i64 xr, .int .i64 xi, .int .i64 xo] 29 (0, 0)) ∧ W.ownsRow w.heap.size 98 4 (.slice (some ⟨g, 0, none⟩) (k + 1) c4) (k + 1) ((totFk ⟨xc, xs, xv, xr, xi, xo⟩ k).flatMap fc) ∧ Below w.heap.size w W) (fun _ i _ => 5 - (intOf i).toNat)
  case atStart => exact ⟨0, fb, 1, by omega, rfl, rfl, EB.out, OW0.out, BB.out⟩
  case round =>
    obtain ⟨k, g, c4, hk, rfl, rfl, he, ho, hb⟩ := hrel
    have EBR := hide he
    have OW := hide ho
    have BR := hide hb
    clear he ho hb EB OW0 BB
    obtain rfl | rfl | rfl | rfl | rfl | rfl : k = 0 ∨ k = 1 ∨ k = 2 ∨ k = 3 ∨ k = 4 ∨ k = 5 := by omega
    · have e1 := cell_of_block EBR.out 1
      have hal := (Below.refl wr.heap.size wr).alloc (Nat.le_refl _) (.cells #[.int .i64 1, .int .i64 0, .int .u64 (IntKind.u64.wrap xs), .string ⟨#[]⟩] 98)
      have XN := hide (cells_new (heap_new wr (.cells ([.int .i64 1, .int .i64 0, .int .u64 (IntKind.u64.wrap xs), .string ⟨#[]⟩] : List Value).toArray 98)))
      have OA := hide (owns_below OW.out hal)
      have BA := hide (BR.out.trans (hal.mono BR.out.size))
      have hsz9 : w.heap.size ≤ (wr.alloc (.cells #[.int .i64 1, .int .i64 0, .int .u64 (IntKind.u64.wrap xs), .string ⟨#[]⟩] 98)).heap.size := BA.out.size
      have EBA := hide ((hal.block _ (heap_lt EBR.out)).trans EBR.out)
      clear hal
      go_wp2_with (at_builtin; refine wpList_append_own2 _ rfl _ _ 99 rfl w.heap.size 98 i0 (.agg #[.int .i64 0, .int .i64 0, .int .u64 0, .string ⟨#[]⟩]) 4 40 Try.underlying99 HI.out HZ0.out HZ1.out HZ2.out rfl (by decide) (.slice (some ⟨g, 0, none⟩) 1 c4) 1 ((totFk ⟨xc, xs, xv, xr, xi, xo⟩ 0).flatMap fc) rfl OA.out ⟨wr.heap.size, 0, none⟩ 1 1 (by decide) [.int .i64 1, .int .i64 0, .int .u64 (IntKind.u64.wrap xs), .string ⟨#[]⟩] rfl rfl XN.out (by simp [Value.oneCell']) (by unfold maxLen; omega) (by omega) hsz9 ?_; intro g3 c3' w' ho hgr hnil; have HO6 := hide ho; have HGR := hide hgr; clear ho hgr hnil)
      have EBW := hide (grown_stays OA.out HGR.out EBA.out (by decide))
      have BW := hide (BA.out.grown HGR.out hsz9 (fun jj hj => (OA.out.lt jj hj).1))
      clear hsz9
      go_roundw
      case rel => exact ⟨1, g3, c3', by omega, rfl, by go_num, EBW.out, HO6.out, BW.out⟩
      case measure => simp [intOf]
    · have e2 := cell_of_block EBR.out 2
      have hal := (Below.refl wr.heap.size wr).alloc (Nat.le_refl _) (.cells #[.int .i64 1, .int .i64 0, .int .u64 (IntKind.u64.wrap xv), .string ⟨#[]⟩] 98)
      have XN := hide (cells_new (heap_new wr (.cells ([.int .i64 1, .int .i64 0, .int .u64 (IntKind.u64.wrap xv), .string ⟨#[]⟩] : List Value).toArray 98)))
      have OA := hide (owns_below OW.out hal)
      have BA := hide (BR.out.trans (hal.mono BR.out.size))
      have hsz9 : w.heap.size ≤ (wr.alloc (.cells #[.int .i64 1, .int .i64 0, .int .u64 (IntKind.u64.wrap xv), .string ⟨#[]⟩] 98)).heap.size := BA.out.size
      have EBA := hide ((hal.block _ (heap_lt EBR.out)).trans EBR.out)
      clear hal
      go_wp2_with (at_builtin; refine wpList_append_own2 _ rfl _ _ 99 rfl w.heap.size 98 i0 (.agg #[.int .i64 0, .int .i64 0, .int .u64 0, .string ⟨#[]⟩]) 4 40 Try.underlying99 HI.out HZ0.out HZ1.out HZ2.out rfl (by decide) (.slice (some ⟨g, 0, none⟩) 2 c4) 2 ((totFk ⟨xc, xs, xv, xr, xi, xo⟩ 1).flatMap fc) rfl OA.out ⟨wr.heap.size, 0, none⟩ 1 1 (by decide) [.int .i64 1, .int .i64 0, .int .u64 (IntKind.u64.wrap xv), .string ⟨#[]⟩] rfl rfl XN.out (by simp [Value.oneCell']) (by unfold maxLen; omega) (by omega) hsz9 ?_; intro g3 c3' w' ho hgr hnil; have HO6 := hide ho; have HGR := hide hgr; clear ho hgr hnil)
      have EBW := hide (grown_stays OA.out HGR.out EBA.out (by decide))
      have BW := hide (BA.out.grown HGR.out hsz9 (fun jj hj => (OA.out.lt jj hj).1))
      clear hsz9
      go_roundw
      case rel => exact ⟨2, g3, c3', by omega, rfl, by go_num, EBW.out, HO6.out, BW.out⟩
      case measure => simp [intOf]
    · have e3 := cell_of_block EBR.out 3
      have hal := (Below.refl wr.heap.size wr).alloc (Nat.le_refl _) (.cells #[.int .i64 1, .int .i64 0, .int .u64 (IntKind.u64.wrap xr), .string ⟨#[]⟩] 98)
      have XN := hide (cells_new (heap_new wr (.cells ([.int .i64 1, .int .i64 0, .int .u64 (IntKind.u64.wrap xr), .string ⟨#[]⟩] : List Value).toArray 98)))
      have OA := hide (owns_below OW.out hal)
      have BA := hide (BR.out.trans (hal.mono BR.out.size))
      have hsz9 : w.heap.size ≤ (wr.alloc (.cells #[.int .i64 1, .int .i64 0, .int .u64 (IntKind.u64.wrap xr), .string ⟨#[]⟩] 98)).heap.size := BA.out.size
      have EBA := hide ((hal.block _ (heap_lt EBR.out)).trans EBR.out)
      clear hal
      go_wp2_with (at_builtin; refine wpList_append_own2 _ rfl _ _ 99 rfl w.heap.size 98 i0 (.agg #[.int .i64 0, .int .i64 0, .int .u64 0, .string ⟨#[]⟩]) 4 40 Try.underlying99 HI.out HZ0.out HZ1.out HZ2.out rfl (by decide) (.slice (some ⟨g, 0, none⟩) 3 c4) 3 ((totFk ⟨xc, xs, xv, xr, xi, xo⟩ 2).flatMap fc) rfl OA.out ⟨wr.heap.size, 0, none⟩ 1 1 (by decide) [.int .i64 1, .int .i64 0, .int .u64 (IntKind.u64.wrap xr), .string ⟨#[]⟩] rfl rfl XN.out (by simp [Value.oneCell']) (by unfold maxLen; omega) (by omega) hsz9 ?_; intro g3 c3' w' ho hgr hnil; have HO6 := hide ho; have HGR := hide hgr; clear ho hgr hnil)
      have EBW := hide (grown_stays OA.out HGR.out EBA.out (by decide))
      have BW := hide (BA.out.grown HGR.out hsz9 (fun jj hj => (OA.out.lt jj hj).1))
      clear hsz9
      go_roundw
      case rel => exact ⟨3, g3, c3', by omega, rfl, by go_num, EBW.out, HO6.out, BW.out⟩
      case measure => simp [intOf]
    · have e4 := cell_of_block EBR.out 4
      have hal := (Below.refl wr.heap.size wr).alloc (Nat.le_refl _) (.cells #[.int .i64 1, .int .i64 0, .int .u64 (IntKind.u64.wrap xi), .string ⟨#[]⟩] 98)
      have XN := hide (cells_new (heap_new wr (.cells ([.int .i64 1, .int .i64 0, .int .u64 (IntKind.u64.wrap xi), .string ⟨#[]⟩] : List Value).toArray 98)))
      have OA := hide (owns_below OW.out hal)
      have BA := hide (BR.out.trans (hal.mono BR.out.size))
      have hsz9 : w.heap.size ≤ (wr.alloc (.cells #[.int .i64 1, .int .i64 0, .int .u64 (IntKind.u64.wrap xi), .string ⟨#[]⟩] 98)).heap.size := BA.out.size
      have EBA := hide ((hal.block _ (heap_lt EBR.out)).trans EBR.out)
      clear hal
      go_wp2_with (at_builtin; refine wpList_append_own2 _ rfl _ _ 99 rfl w.heap.size 98 i0 (.agg #[.int .i64 0, .int .i64 0, .int .u64 0, .string ⟨#[]⟩]) 4 40 Try.underlying99 HI.out HZ0.out HZ1.out HZ2.out rfl (by decide) (.slice (some ⟨g, 0, none⟩) 4 c4) 4 ((totFk ⟨xc, xs, xv, xr, xi, xo⟩ 3).flatMap fc) rfl OA.out ⟨wr.heap.size, 0, none⟩ 1 1 (by decide) [.int .i64 1, .int .i64 0, .int .u64 (IntKind.u64.wrap xi), .string ⟨#[]⟩] rfl rfl XN.out (by simp [Value.oneCell']) (by unfold maxLen; omega) (by omega) hsz9 ?_; intro g3 c3' w' ho hgr hnil; have HO6 := hide ho; have HGR := hide hgr; clear ho hgr hnil)
      have EBW := hide (grown_stays OA.out HGR.out EBA.out (by decide))
      have BW := hide (BA.out.grown HGR.out hsz9 (fun jj hj => (OA.out.lt jj hj).1))
      clear hsz9
      go_roundw
      case rel => exact ⟨4, g3, c3', by omega, rfl, by go_num, EBW.out, HO6.out, BW.out⟩
      case measure => simp [intOf]
    · have e5 := cell_of_block EBR.out 5
      have hal := (Below.refl wr.heap.size wr).alloc (Nat.le_refl _) (.cells #[.int .i64 1, .int .i64 0, .int .u64 (IntKind.u64.wrap xo), .string ⟨#[]⟩] 98)
      have XN := hide (cells_new (heap_new wr (.cells ([.int .i64 1, .int .i64 0, .int .u64 (IntKind.u64.wrap xo), .string ⟨#[]⟩] : List Value).toArray 98)))
      have OA := hide (owns_below OW.out hal)
      have BA := hide (BR.out.trans (hal.mono BR.out.size))
      have hsz9 : w.heap.size ≤ (wr.alloc (.cells #[.int .i64 1, .int .i64 0, .int .u64 (IntKind.u64.wrap xo), .string ⟨#[]⟩] 98)).heap.size := BA.out.size
      have EBA := hide ((hal.block _ (heap_lt EBR.out)).trans EBR.out)
      clear hal
      go_wp2_with (at_builtin; refine wpList_append_own2 _ rfl _ _ 99 rfl w.heap.size 98 i0 (.agg #[.int .i64 0, .int .i64 0, .int .u64 0, .string ⟨#[]⟩]) 4 40 Try.underlying99 HI.out HZ0.out HZ1.out HZ2.out rfl (by decide) (.slice (some ⟨g, 0, none⟩) 5 c4) 5 ((totFk ⟨xc, xs, xv, xr, xi, xo⟩ 4).flatMap fc) rfl OA.out ⟨wr.heap.size, 0, none⟩ 1 1 (by decide) [.int .i64 1, .int .i64 0, .int .u64 (IntKind.u64.wrap xo), .string ⟨#[]⟩] rfl rfl XN.out (by simp [Value.oneCell']) (by unfold maxLen; omega) (by omega) hsz9 ?_; intro g3 c3' w' ho hgr hnil; have HO6 := hide ho; have HGR := hide hgr; clear ho hgr hnil)
      have EBW := hide (grown_stays OA.out HGR.out EBA.out (by decide))
      have BW := hide (BA.out.grown HGR.out hsz9 (fun jj hj => (OA.out.lt jj hj).1))
      clear hsz9
      go_roundw
      case rel => exact ⟨5, g3, c3', by omega, rfl, by go_num, EBW.out, HO6.out, BW.out⟩
      case measure => simp [intOf]
    · go_wp2_with fail
      go_ret
      exact ⟨g, c4, rfl, OW.out, BR.out⟩
end Go.Proofs.Ytfdgfeohmkdnoaa

/-
  Layer 26: the document's Text by contract.
-/
--import Derived.Test.Zdbg
namespace Go.Proofs.Ytfdgfeohmkdnoaa
set_option linter.unusedSimpArgs false
set_option linter.unusedVariables false
open Go.RowKit Go.WideShapes Go.ChangeShapes Go.ChangeAt Go.Deep

theorem fcs_one (L : List Fld) : ∀ u ∈ L.flatMap fc, u.oneCell' = true := by
  intro u hu
  obtain ⟨x, -, h⟩ := List.mem_flatMap.1 hu
  exact fc_one x u h
set_option maxRecDepth 100000 in
set_option maxHeartbeats 4000000 in
theorem rshtext (M : ShM) (hok : ShOk M) (nw : TotM) (a : Option Addr) (cp : Nat) (w : World) (hin : RsIs w M nw a cp) :
    Calls Try.prog 22 #[rsV M nw a cp] w fun e w' => e = .returned (.string (refS (shF M))) ∧ Below w.heap.size w w' := by
  obtain ⟨i0, hi, hz0, hz1, hz2⟩ := info_parts (show (Try.prog.info? 98).map (fun i => (i.zero, i.size, i.bytes)) = some (some (.agg #[.int .i64 0, .int .i64 0, .int .u64 0, .string ⟨#[]⟩]), 4, 40) by kernel_rfl)
  have HI := hide hi
  have HZ0 := hide hz0
  have HZ1 := hide hz1
  have HZ2 := hide hz2
  clear hi hz0 hz1 hz2
  have HM := hide (fun m (h : m < M.L.length) => shFk_next M m h)
  have HFL := hide (fun m (h : m ≤ M.L.length) (h64 : M.L.length ≤ 64) => shFk_len M m h h64)
  have HALL := hide (shFk_all M)
  have HZR := hide (shFk_zero M)
  have HWR := hide (fun a cap W hF => refWrite_any (shF M) (Nat.le_trans (shF_len M (by have := hok.few; have := hok.kp; omega)) (by omega)) (shF_good hok) a cap W hF)
  obtain ⟨keep, next, op, ⟨zc, zs, zv, zr, zi, zo⟩, L⟩ := M
  obtain ⟨xc, xs, xv, xr, xi, xo⟩ := nw
  have hnx : 1 ≤ next ∧ next ≤ 4294967296 := hok.nx
  have hkp : 1 ≤ keep ∧ keep ≤ 64 := hok.kp
  have hfw : (L.length : Int) ≤ keep := hok.few
  have hcI : (L.length : Int) ≤ (cp : Int) := by have h5 : L.length ≤ cp := hin.cap; omega
  have HNOW := hide (show op = true → (⟨xc, xs, xv, xr, xi, xo⟩ : TotM) = ⟨zc, zs, zv, zr, zi, zo⟩ from hin.now)
  have HNO := hide (show TotOk ⟨zc, zs, zv, zr, zi, zo⟩ from hok.now)
  have HLO := hide (show ∀ t ∈ L, TotOk t from hok.L)
  have HIN := hide (show TsIn w a L from hin.ts)
  have hu1 : IntKind.u64.wrap next = next := by rw [IntKind.wrap_u64]; omega
  have hu2 : IntKind.u64.wrap (L.length : Int) = (L.length : Int) := by rw [IntKind.wrap_u64]; omega
  obtain ⟨ov, hov, hov2⟩ : ∃ ov : Int, (if op = true then (1 : Int) else 0) = ov ∧ (ov = 0 ∨ ov = 1) := ⟨_, rfl, by cases op <;> simp⟩
  have HOV := hide hov
  clear hin hok hov hov2
  obtain ⟨fk, hfk⟩ : ∃ f, shFk ⟨keep, next, op, ⟨zc, zs, zv, zr, zi, zo⟩, L⟩ = f := ⟨_, rfl⟩
  (try dsimp only at HM)
  (try dsimp only at HFL)
  (try dsimp only at HALL)
  rw [hfk] at HM HFL HALL HZR
  clear hfk
  unfold rsV
  dsimp only
  obtain ⟨ob, hob⟩ : ∃ ob, ob = (Obj.cells #[.int .i64 keep, .int .i64 next, .bool op, .int .i64 xc, .int .i64 xs, .int .i64 xv, .int .i64 xr, .int .i64 xi, .int .i64 xo, .slice a L.length cp] 32) := ⟨_, rfl⟩
  have hal := (Below.refl w.heap.size w).alloc (Nat.le_refl _) ob
  have XX := hide (show (w.alloc ob).heap[w.heap.size]? = some (.cells #[.int .i64 keep, .int .i64 next, .bool op, .int .i64 xc, .int .i64 xs, .int .i64 xv, .int .i64 xr, .int .i64 xi, .int .i64 xo, .slice a L.length cp] 32 (0, 0)) by rw [heap_new, hob])
  have BB := hide hal
  clear hal
  go_enter Try.func22, Try.ntmps22
  go_upto_region 1 with (fail)
  rw [← hob]
  generalize w.alloc ob = w1 at *
  obtain ⟨xb, hxb⟩ : ∃ k, w.heap.size = k := ⟨_, rfl⟩
  rw [hxb] at XX ⊢
  clear hob ob
  have HXB := hide hxb
  clear hxb
  have c2 := cell_of_block XX.out 2
  go_upto_if 11 with (fail)
  go_cut [3] from 12 to 53 (fun s3 W => s3 = .int .u64 ov ∧ W = w1)
  case first =>
    cases op with
    | true =>
      have := HOV.out
      rw [if_pos rfl] at this
      go_wp2_with fail
      go_meet
      exact ⟨by rw [← this], rfl⟩
    | false =>
      have := HOV.out
      rw [if_neg (by decide)] at this
      go_wp2_with fail
      go_meet
      exact ⟨by rw [← this], rfl⟩
  case rest =>
  obtain ⟨rfl, rfl⟩ := hcut
  clear c2
  have c1 := cell_of_block XX.out 1
  have c9 := cell_of_block XX.out 9
  go_upto_region 5 with (fail)
  clear c1 c9 hu1 hu2
  have H3 := hide (show (fk 0).flatMap fc = [.int .i64 0, .int .i64 5, .int .u64 next, .string ⟨#[]⟩, .int .i64 0, .int .i64 1, .int .u64 ov, .string ⟨#[]⟩, .int .i64 0, .int .i64 1, .int .u64 (L.length : Int), .string ⟨#[]⟩] ∧ (fk 0).length = 3 from by
    rw [HZR.out]
    unfold shH
    dsimp only
    rw [HOV.out]
    exact ⟨rfl, rfl⟩)
  obtain ⟨of, hof⟩ : ∃ ob, ob = (Obj.cells #[.int .i64 0, .int .i64 5, .int .u64 next, .string ⟨#[]⟩, .int .i64 0, .int .i64 1, .int .u64 ov, .string ⟨#[]⟩, .int .i64 0, .int .i64 1, .int .u64 (L.length : Int), .string ⟨#[]⟩] 98) := ⟨_, rfl⟩
  rw [← hof]
  have hal := (Below.refl wc.heap.size wc).alloc (Nat.le_refl _) of
  have XF := hide (heap_new wc of)
  have BB2 := hide (BB.out.trans (hal.mono BB.out.size))
  have XX2 := hide ((hal.block _ (heap_lt XX.out)).trans XX.out)
  have HFB := hide (show w.heap.size ≤ wc.heap.size from BB.out.size)
  clear hal XX BB
  generalize wc.alloc of = w2 at *
  generalize wc.heap.size = fb at *
  rw [hof] at XF
  clear hof of
  have OW0 := hide (show w2.ownsRow w.heap.size 98 4 (.slice (some ⟨fb, 0, none⟩) (fk 0).length 3) (fk 0).length ((fk 0).flatMap fc) from by
    rw [H3.out.1, H3.out.2]
    exact ⟨rfl, .inr ⟨fb, 3, _, rfl, HFB.out, XF.out, Nat.le_refl _, by decide, rfl, rfl⟩⟩)
  have H30 := hide H3.out.2
  clear XF H3
  go_wp2_with fail
  go_loopw [4, 5] (fun l i W => ∃ (m g c4 : Nat), m ≤ L.length ∧ l = .slice (some ⟨g, 0, none⟩) (fk m).length c4 ∧ i = .int .i64 m ∧ W.heap[xb]? = some (.cells #[.int .i64 keep, .int .i64 next, .bool op, .int .i64 xc, .int .i64 xs, .int .i64 xv, .int .i64 xr, .int .i64 xi, .int .i64 xo, .slice a L.length cp] 32 (0, 0)) ∧ W.ownsRow w.heap.size 98 4 (.slice (some ⟨g, 0, none⟩) (fk m).length c4) (fk m).length ((fk m).flatMap fc) ∧ Below w.heap.size w W) (fun _ i _ => L.length - (intOf i).toNat)
  case atStart => exact ⟨0, fb, 3, by omega, by rw [H30.out], rfl, XX2.out, OW0.out, BB2.out⟩
  case round =>
    obtain ⟨m, g, c4, hm, rfl, rfl, hx, ho, hb⟩ := hrel
    have XW := hide hx
    have OW := hide ho
    have BW := hide hb
    have TW := hide (HIN.out.below hb)
    clear hx ho hb XX2 OW0 BB2
    have hfl := HFL.out m hm (by omega)
    have c9 := cell_of_block XW.out 9
    by_cases hlt : m < L.length
    · obtain ⟨gg, rfl, hgl, hcell⟩ := TW.out m hlt
      have HT := hide (HLO.out (L.getD m tot0) (by simp [List.getD, hlt]))
      have HNX := hide (HM.out m hlt)
      have y0 := hcell 0 (by decide)
      have y1 := hcell 1 (by decide)
      have y2 := hcell 2 (by decide)
      have y3 := hcell 3 (by decide)
      have y4 := hcell 4 (by decide)
      have y5 := hcell 5 (by decide)
      generalize L.getD m tot0 = yy at *
      obtain ⟨yc, ys, yv, yr, yi, yo⟩ := yy
      simp only [totC, List.getElem?_cons_zero, List.getElem?_cons_succ, Nat.add_zero] at y0 y1 y2 y3 y4 y5
      clear hcell
      have HTF := hide (fun W => rtotF_any yc ys yv yr yi yo HT.out.c W)
      unfold totV at HTF
      dsimp only at HTF
      generalize fk m = sm at *
      go_wp2_with fail
      refine (HTF.out _).mono ?_
      rintro e w3 ⟨tg, tc, rfl, ho, hb⟩
      have XW3 := hide ((hb.block _ (heap_lt XW.out)).trans XW.out)
      have OW3 := hide (owns_below OW.out hb)
      have BW3 := hide (BW.out.trans (hb.mono BW.out.size))
      have HNC := hide (fun j u (hu : ((totF ⟨yc, ys, yv, yr, yi, yo⟩).flatMap fc)[j]? = some u) => show w3.cell? ((⟨tg, 0, none⟩ : Addr).add j) = some u from by
        have hc := ho.cells (g := tg) rfl j u hu
        rw [Go.WideShapes.add_plain, Nat.zero_add] at hc ⊢
        exact hc)
      have hsz9 : w.heap.size ≤ w3.heap.size := BW3.out.size
      clear hb ho y0 y1 y2 y3 y4 y5 c9
      go_wp2_with (at_builtin; refine wpList_append_own2 _ rfl _ _ 99 rfl w.heap.size 98 i0 (.agg #[.int .i64 0, .int .i64 0, .int .u64 0, .string ⟨#[]⟩]) 4 40 Try.underlying99 HI.out HZ0.out HZ1.out HZ2.out rfl (by decide) (.slice (some ⟨g, 0, none⟩) sm.length c4) sm.length (sm.flatMap fc) rfl OW3.out ⟨tg, 0, none⟩ 6 tc (by decide) ((totF ⟨yc, ys, yv, yr, yi, yo⟩).flatMap fc) rfl rfl HNC.out (fcs_one _) (by unfold maxLen; omega) (by omega) hsz9 ?_; intro g3 c3' w' ho hgr hnil; have HO6 := hide ho; have HGR := hide hgr; clear ho hgr hnil)
      have XW4 := hide (grown_stays OW3.out HGR.out XW3.out (by decide))
      have BW4 := hide (BW3.out.grown HGR.out hsz9 (fun jj hj => (OW3.out.lt jj hj).1))
      clear hsz9
      go_roundw
      case rel => exact ⟨m + 1, g3, c3', hlt, by rw [HNX.out, List.length_append, totF_len], by go_num, XW4.out, by rw [HNX.out, List.length_append, totF_len, List.flatMap_append]; exact HO6.out, BW4.out⟩
      case measure => simp [intOf]; omega
    · obtain rfl : m = L.length := by omega
      rw [HALL.out] at OW hfl ⊢
      have c2 := cell_of_block XW.out 2
      obtain ⟨hd, hhd⟩ : ∃ hd, shH ⟨keep, next, op, ⟨zc, zs, zv, zr, zi, zo⟩, L⟩ ++ L.flatMap totF = hd := ⟨_, rfl⟩
      rw [hhd] at OW hfl ⊢
      cases op with
      | true =>
        have e0 := HNOW.out rfl
        cases e0
        have HFIN := hide (shF_open (M := ⟨keep, next, true, ⟨zc, zs, zv, zr, zi, zo⟩, L⟩) rfl)
        (try dsimp only at HFIN)
        rw [hhd] at HFIN
        clear hhd
        have HTF := hide (fun W => rtotF_any zc zs zv zr zi zo HNO.out.c W)
        unfold totV at HTF
        dsimp only at HTF
        obtain ⟨⟨c0, c1, c2, c3, c4, c5, c6, c7, c8, c9⟩, ⟨f0, f1, f2, f3, f4, f5, f6, f7, f8, f9⟩⟩ := sh_facts XW.out
        clear f0 f1 f2 f3 f4 f5 f6 f7 f8 f9
        go_wp2_with fail
        refine (HTF.out _).mono ?_
        rintro e w3 ⟨tg, tc, rfl, ho, hb⟩
        have OW3 := hide (owns_below OW.out hb)
        have BW3 := hide (BW.out.trans (hb.mono BW.out.size))
        have HNC := hide (fun j u (hu : ((totF ⟨zc, zs, zv, zr, zi, zo⟩).flatMap fc)[j]? = some u) => show w3.cell? ((⟨tg, 0, none⟩ : Addr).add j) = some u from by
          have hc := ho.cells (g := tg) rfl j u hu
          rw [Go.WideShapes.add_plain, Nat.zero_add] at hc ⊢
          exact hc)
        have hsz9 : w.heap.size ≤ w3.heap.size := BW3.out.size
        clear hb ho c0 c1 c2 c3 c4 c5 c6 c7 c8 c9
        go_wp2_with (at_builtin; refine wpList_append_own2 _ rfl _ _ 99 rfl w.heap.size 98 i0 (.agg #[.int .i64 0, .int .i64 0, .int .u64 0, .string ⟨#[]⟩]) 4 40 Try.underlying99 HI.out HZ0.out HZ1.out HZ2.out rfl (by decide) (.slice (some ⟨g, 0, none⟩) hd.length c4) hd.length (hd.flatMap fc) rfl OW3.out ⟨tg, 0, none⟩ 6 tc (by decide) ((totF ⟨zc, zs, zv, zr, zi, zo⟩).flatMap fc) rfl rfl HNC.out (fcs_one _) (by unfold maxLen; omega) (by omega) hsz9 ?_; intro g3 c3' w' ho hgr hnil; have HO6 := hide ho; have HGR := hide hgr; clear ho hgr hnil)
        have BW4 := hide (BW3.out.grown HGR.out hsz9 (fun jj hj => (OW3.out.lt jj hj).1))
        have OW4 := hide (show w'.ownsRow w.heap.size 98 4 (.slice (some ⟨g3, 0, none⟩) (shF ⟨keep, next, true, ⟨zc, zs, zv, zr, zi, zo⟩, L⟩).length c3') (shF ⟨keep, next, true, ⟨zc, zs, zv, zr, zi, zo⟩, L⟩).length ((shF ⟨keep, next, true, ⟨zc, zs, zv, zr, zi, zo⟩, L⟩).flatMap fc) from by
          rw [HFIN.out, List.length_append, totF_len, List.flatMap_append]
          exact HO6.out)
        have HLF := hide (show hd.length + 6 = (shF ⟨keep, next, true, ⟨zc, zs, zv, zr, zi, zo⟩, L⟩).length from by rw [HFIN.out, List.length_append, totF_len])
        rw [HLF.out]
        clear hsz9
        obtain ⟨fl, hflq⟩ : ∃ fl, shF ⟨keep, next, true, ⟨zc, zs, zv, zr, zi, zo⟩, L⟩ = fl := ⟨_, rfl⟩
        rw [hflq] at HWR OW4 ⊢
        have HFQ := hide hflq
        clear hflq
        refine (HWR.out (some ⟨g3, 0, none⟩) c3' _ (flds_of_owns OW4.out)).mono ?_
        rintro e w9 ⟨rfl, hb⟩
        have B9 := hide (BW4.out.trans (hb.mono BW4.out.size))
        clear hb
        go_wp2_with fail
        go_ret
        exact ⟨by rw [HFQ.out]; rfl, by first | exact B9.out | (rw [← HXB.out]; exact B9.out)⟩
      | false =>
        have HFIN := hide (shF_shut (M := ⟨keep, next, false, ⟨zc, zs, zv, zr, zi, zo⟩, L⟩) rfl)
        (try dsimp only at HFIN)
        rw [hhd] at HFIN
        clear hhd
        rw [← HFIN.out] at OW ⊢
        obtain ⟨fl, hflq⟩ : ∃ fl, shF ⟨keep, next, false, ⟨zc, zs, zv, zr, zi, zo⟩, L⟩ = fl := ⟨_, rfl⟩
        rw [hflq] at HWR OW ⊢
        have HFQ := hide hflq
        clear hflq
        go_wp2_with fail
        refine (HWR.out (some ⟨g, 0, none⟩) c4 _ (flds_of_owns OW.out)).mono ?_
        rintro e w9 ⟨rfl, hb⟩
        have B9 := hide (BW.out.trans (hb.mono BW.out.size))
        clear hb
        go_wp2_with fail
        go_ret
        exact ⟨by rw [HFQ.out]; rfl, by first | exact B9.out | (rw [← HXB.out]; exact B9.out)⟩
end Go.Proofs.Ytfdgfeohmkdnoaa

/-
  Layer 26: what a play of shifts keeps in memory.
-/
--import Derived.Test.Zdbg
namespace Go.Proofs.Ytfdgfeohmkdnoaa
set_option linter.unusedSimpArgs false
set_option linter.unusedVariables false
open Go.RowKit Go.WideShapes Go.ChangeShapes Go.ChangeAt Go.Deep

theorem only_keeps {Ts : List TypeId} {b : Nat} {w w' : World} {c : Array Value} {t : TypeId} {fz : Nat × Nat} (h : w.heap[b]? = some (.cells c t fz)) (ht : t ∈ Ts) (ho : Only b w w') : KeepsT Ts w w' := fun k o hk hn => by
  by_cases e : k = b
  · subst e
    rw [h] at hk
    exact absurd ht (hn _ _ _ (Option.some.inj hk).symm)
  · exact (ho.block k (heap_lt hk) e).trans hk
set_option maxHeartbeats 1000000 in
theorem ten_set {w : World} {b : Nat} {T : TypeId} {c0 c1 c2 c3 c4 c5 c6 c7 c8 c9 : Value} (v0 v1 v2 v3 v4 v5 v6 v7 v8 v9 : Value) (h : w.heap[b]? = some (.cells #[c0, c1, c2, c3, c4, c5, c6, c7, c8, c9] T (0, 0))) :
    ((((((((((w.setCell ⟨b, 0, none⟩ (v0)).setCell ⟨b, 1, none⟩ (v1)).setCell ⟨b, 2, none⟩ (v2)).setCell ⟨b, 3, none⟩ (v3)).setCell ⟨b, 4, none⟩ (v4)).setCell ⟨b, 5, none⟩ (v5)).setCell ⟨b, 6, none⟩ (v6)).setCell ⟨b, 7, none⟩ (v7)).setCell ⟨b, 8, none⟩ (v8)).setCell ⟨b, 9, none⟩ (v9)).heap[b]? = some (.cells #[v0, v1, v2, v3, v4, v5, v6, v7, v8, v9] T (0, 0)) ∧ Only b w ((((((((((w.setCell ⟨b, 0, none⟩ (v0)).setCell ⟨b, 1, none⟩ (v1)).setCell ⟨b, 2, none⟩ (v2)).setCell ⟨b, 3, none⟩ (v3)).setCell ⟨b, 4, none⟩ (v4)).setCell ⟨b, 5, none⟩ (v5)).setCell ⟨b, 6, none⟩ (v6)).setCell ⟨b, 7, none⟩ (v7)).setCell ⟨b, 8, none⟩ (v8)).setCell ⟨b, 9, none⟩ (v9)) := by
  refine ⟨?_, ?_⟩
  · have h0 := h
    have h1 : (w.setCell ⟨b, 0, none⟩ (v0)).heap[b]? = some (.cells #[v0, c1, c2, c3, c4, c5, c6, c7, c8, c9] T (0, 0)) := block_setCell h0 0 v0
    clear h0
    have h2 : ((w.setCell ⟨b, 0, none⟩ (v0)).setCell ⟨b, 1, none⟩ (v1)).heap[b]? = some (.cells #[v0, v1, c2, c3, c4, c5, c6, c7, c8, c9] T (0, 0)) := block_setCell h1 1 v1
    clear h1
    have h3 : (((w.setCell ⟨b, 0, none⟩ (v0)).setCell ⟨b, 1, none⟩ (v1)).setCell ⟨b, 2, none⟩ (v2)).heap[b]? = some (.cells #[v0, v1, v2, c3, c4, c5, c6, c7, c8, c9] T (0, 0)) := block_setCell h2 2 v2
    clear h2
    have h4 : ((((w.setCell ⟨b, 0, none⟩ (v0)).setCell ⟨b, 1, none⟩ (v1)).setCell ⟨b, 2, none⟩ (v2)).setCell ⟨b, 3, none⟩ (v3)).heap[b]? = some (.cells #[v0, v1, v2, v3, c4, c5, c6, c7, c8, c9] T (0, 0)) := block_setCell h3 3 v3
    clear h3
    have h5 : (((((w.setCell ⟨b, 0, none⟩ (v0)).setCell ⟨b, 1, none⟩ (v1)).setCell ⟨b, 2, none⟩ (v2)).setCell ⟨b, 3, none⟩ (v3)).setCell ⟨b, 4, none⟩ (v4)).heap[b]? = some (.cells #[v0, v1, v2, v3, v4, c5, c6, c7, c8, c9] T (0, 0)) := block_setCell h4 4 v4
    clear h4
    have h6 : ((((((w.setCell ⟨b, 0, none⟩ (v0)).setCell ⟨b, 1, none⟩ (v1)).setCell ⟨b, 2, none⟩ (v2)).setCell ⟨b, 3, none⟩ (v3)).setCell ⟨b, 4, none⟩ (v4)).setCell ⟨b, 5, none⟩ (v5)).heap[b]? = some (.cells #[v0, v1, v2, v3, v4, v5, c6, c7, c8, c9] T (0, 0)) := block_setCell h5 5 v5
    clear h5
    have h7 : (((((((w.setCell ⟨b, 0, none⟩ (v0)).setCell ⟨b, 1, none⟩ (v1)).setCell ⟨b, 2, none⟩ (v2)).setCell ⟨b, 3, none⟩ (v3)).setCell ⟨b, 4, none⟩ (v4)).setCell ⟨b, 5, none⟩ (v5)).setCell ⟨b, 6, none⟩ (v6)).heap[b]? = some (.cells #[v0, v1, v2, v3, v4, v5, v6, c7, c8, c9] T (0, 0)) := block_setCell h6 6 v6
    clear h6
    have h8 : ((((((((w.setCell ⟨b, 0, none⟩ (v0)).setCell ⟨b, 1, none⟩ (v1)).setCell ⟨b, 2, none⟩ (v2)).setCell ⟨b, 3, none⟩ (v3)).setCell ⟨b, 4, none⟩ (v4)).setCell ⟨b, 5, none⟩ (v5)).setCell ⟨b, 6, none⟩ (v6)).setCell ⟨b, 7, none⟩ (v7)).heap[b]? = some (.cells #[v0, v1, v2, v3, v4, v5, v6, v7, c8, c9] T (0, 0)) := block_setCell h7 7 v7
    clear h7
    have h9 : (((((((((w.setCell ⟨b, 0, none⟩ (v0)).setCell ⟨b, 1, none⟩ (v1)).setCell ⟨b, 2, none⟩ (v2)).setCell ⟨b, 3, none⟩ (v3)).setCell ⟨b, 4, none⟩ (v4)).setCell ⟨b, 5, none⟩ (v5)).setCell ⟨b, 6, none⟩ (v6)).setCell ⟨b, 7, none⟩ (v7)).setCell ⟨b, 8, none⟩ (v8)).heap[b]? = some (.cells #[v0, v1, v2, v3, v4, v5, v6, v7, v8, c9] T (0, 0)) := block_setCell h8 8 v8
    clear h8
    have h10 : ((((((((((w.setCell ⟨b, 0, none⟩ (v0)).setCell ⟨b, 1, none⟩ (v1)).setCell ⟨b, 2, none⟩ (v2)).setCell ⟨b, 3, none⟩ (v3)).setCell ⟨b, 4, none⟩ (v4)).setCell ⟨b, 5, none⟩ (v5)).setCell ⟨b, 6, none⟩ (v6)).setCell ⟨b, 7, none⟩ (v7)).setCell ⟨b, 8, none⟩ (v8)).setCell ⟨b, 9, none⟩ (v9)).heap[b]? = some (.cells #[v0, v1, v2, v3, v4, v5, v6, v7, v8, v9] T (0, 0)) := block_setCell h9 9 v9
    clear h9
    exact h10
  · have o := Only.refl b w
    have o := o.trans (Only.setCell b 0 v0)
    have o := o.trans (Only.setCell b 1 v1)
    have o := o.trans (Only.setCell b 2 v2)
    have o := o.trans (Only.setCell b 3 v3)
    have o := o.trans (Only.setCell b 4 v4)
    have o := o.trans (Only.setCell b 5 v5)
    have o := o.trans (Only.setCell b 6 v6)
    have o := o.trans (Only.setCell b 7 v7)
    have o := o.trans (Only.setCell b 8 v8)
    have o := o.trans (Only.setCell b 9 v9)
    exact o
theorem ShIs.keepsT {Ts : List TypeId} {w w' : World} {B p : Nat} {M : ShM} {v : Value} (h : ShIs w B p M v) (hk : KeepsT Ts w w') (h1 : 86 ∉ Ts) (h2 : 43 ∉ Ts) : ShIs w' B p M v := ⟨hk.cells h.head h1, hk.owns h.row h2, h.low, h.ok⟩
/-- the document's shifts in a block -/
def MdAt (w : World) (mb : Nat) (M : ShM) (nw : TotM) (a : Option Addr) (cp : Nat) : Prop := w.heap[mb]? = some (.cells #[.int .i64 M.keep, .int .i64 M.next, .bool M.op, .int .i64 nw.c, .int .i64 nw.s, .int .i64 nw.v, .int .i64 nw.r, .int .i64 nw.i, .int .i64 nw.o, .slice a M.L.length cp] 32 (0, 0)) ∧ RsIs w M nw a cp
theorem MdAt.below {w w' : World} {mb : Nat} {M : ShM} {nw : TotM} {a : Option Addr} {cp : Nat} (h : MdAt w mb M nw a cp) (hb : Below w.heap.size w w') : MdAt w' mb M nw a cp := ⟨(hb.block _ (heap_lt h.1)).trans h.1, h.2.below hb⟩
theorem MdAt.keepsT {Ts : List TypeId} {w w' : World} {mb : Nat} {M : ShM} {nw : TotM} {a : Option Addr} {cp : Nat} (h : MdAt w mb M nw a cp) (hk : KeepsT Ts w w') (h1 : 32 ∉ Ts) (h2 : 29 ∉ Ts) : MdAt w' mb M nw a cp := ⟨hk.cells h.1 h1, h.2.keepsT hk h2⟩
theorem MdAt.only {w w' : World} {mb nb : Nat} {M : ShM} {nw : TotM} {a : Option Addr} {cp : Nat} {c : Array Value} {fz : Nat × Nat} (h : MdAt w mb M nw a cp) (hn : w.heap[nb]? = some (.cells c 32 fz)) (ho : Only nb w w') (hne : mb ≠ nb) : MdAt w' mb M nw a cp := ⟨(ho.block mb (heap_lt h.1) hne).trans h.1, h.2.keepsT (only_keeps (Ts := [32]) hn (by decide) ho) (by decide)⟩
theorem reql_self (a b c d e f : Int) (w : World) : (binOp .eql 29 (.agg #[.int .i64 a, .int .i64 b, .int .i64 c, .int .i64 d, .int .i64 e, .int .i64 f]) (.agg #[.int .i64 a, .int .i64 b, .int .i64 c, .int .i64 d, .int .i64 e, .int .i64 f])).run Try.prog w = .ok (.bool true) w := by
  rw [run_eql_struct, eq_cells]
  simp
theorem rguard_eql (x y : Operand) (a b : Array Value) (w : World) : (eqGuard .eql 29 x y (.agg a) (.agg b)).run Try.prog w = .ok () w := run_eqGuard_agg w .eql 29 x y a b (by kernel_rfl)
theorem rs_ones (k n : Int) (b : Bool) (c s v r i o : Int) (a : Option Addr) (l cap : Nat) : (#[.int .i64 k, .int .i64 n, .bool b, .int .i64 c, .int .i64 s, .int .i64 v, .int .i64 r, .int .i64 i, .int .i64 o, .slice a l cap] : Array Value).all (·.oneCell') = true := by simp [Value.oneCell']
theorem ShIs.mono {w : World} {B B' p : Nat} {M : ShM} {v : Value} (h : ShIs w B p M v) (hB : B' ≤ B) : ShIs w B' p M v := ⟨h.head, owns_mono h.row hB, Nat.le_trans hB h.low, h.ok⟩
/-- the old ones have nothing to do with these -/
theorem old_apart {w w' : World} {q p B2 p2 : Nat} {M M2 : ShM} {V V2 : Value} {qs : List Nat} (hO : ShIs w B2 p2 M2 V2) (hq : ∀ z ∈ qs, z < B2) (ho : OnlyL qs w w') : ShIs w' B2 p2 M2 V2 :=
  hO.apart ho (fun hm => by have := hq _ hm; have := hO.low; omega) (fun g hg hm => by have := hq _ hm; have := (hO.row.lt g hg).1; omega)
end Go.Proofs.Ytfdgfeohmkdnoaa
