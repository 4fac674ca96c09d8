/-
  Layer 26: End and Totals, as far as wakes goes.
-/
import Derived.Test.YtnnggchkdffpnaaDoorShift
import Derived.Test.YtnnggchkdffpnaaDoorKitF
import Derived.Test.YtnnggchkdffpnaaDoorKitO
import Derived.StillTailTactics
--import Derived.Test.Zdbg
namespace Go.Proofs.YtnnggchkdffpnaaDoor
set_option linter.unusedSimpArgs false
set_option linter.unusedVariables false
open Go.RowKit Go.WideShapes Go.ChangeShapes Go.ChangeAt Go.Deep

theorem delete_zero (a : Option Addr) (n cap : Nat) (hn : n ≤ cap) (hc : cap ≤ 9223372036854775807) (w : World) :
    Calls Tryd.prog 16 #[.slice a n cap, .int .i64 0, .int .i64 0] w fun e w' => e = .returned (.slice a n cap) ∧ w = w' := by
  go_enter Tryd.func16, Tryd.ntmps16
  have hnc : (n : Int) ≤ (cap : Int) := by omega
  go_wp2_with fail
  go_ret
  exact ⟨rfl, rfl⟩
theorem six_facts {w : World} {b : Nat} {a0 a1 a2 a3 a4 a5 : Value} {t : TypeId} (h : w.heap[b]? = some (.cells #[a0, a1, a2, a3, a4, a5] t (0, 0))) :
    (w.cell? ⟨b, 0, none⟩ = some a0 ∧ w.cell? ⟨b, 1, none⟩ = some a1 ∧ w.cell? ⟨b, 2, none⟩ = some a2 ∧ w.cell? ⟨b, 3, none⟩ = some a3 ∧ w.cell? ⟨b, 4, none⟩ = some a4 ∧ w.cell? ⟨b, 5, none⟩ = some a5) ∧
    (w.frozen? ⟨b, 0, none⟩ = false ∧ w.frozen? ⟨b, 1, none⟩ = false ∧ w.frozen? ⟨b, 2, none⟩ = false ∧ w.frozen? ⟨b, 3, none⟩ = false ∧ w.frozen? ⟨b, 4, none⟩ = false ∧ w.frozen? ⟨b, 5, none⟩ = false) :=
  ⟨⟨cell_of_block h 0, cell_of_block h 1, cell_of_block h 2, cell_of_block h 3, cell_of_block h 4, cell_of_block h 5⟩, ⟨frozen_of_block h 0, frozen_of_block h 1, frozen_of_block h 2, frozen_of_block h 3, frozen_of_block h 4, frozen_of_block h 5⟩⟩
theorem six_cells {w : World} {b : Nat} {a0 a1 a2 a3 a4 a5 : Value} {t : TypeId} (h : w.heap[b]? = some (.cells #[a0, a1, a2, a3, a4, a5] t (0, 0))) :
    w.cell? ⟨b, 0, none⟩ = some a0 ∧ w.cell? ⟨b, 1, none⟩ = some a1 ∧ w.cell? ⟨b, 2, none⟩ = some a2 ∧ w.cell? ⟨b, 3, none⟩ = some a3 ∧ w.cell? ⟨b, 4, none⟩ = some a4 ∧ w.cell? ⟨b, 5, none⟩ = some a5 := (six_facts h).1
theorem sh_six {w : World} {p : Nat} {a0 a1 a2 a3 a4 a5 a6 a7 a8 a9 : Value} {t : TypeId} (h : w.heap[p]? = some (.cells #[a0, a1, a2, a3, a4, a5, a6, a7, a8, a9] t (0, 0))) :
    w.cell? ⟨p, 3, none⟩ = some a3 ∧ w.cell? ⟨p, 4, none⟩ = some a4 ∧ w.cell? ⟨p, 5, none⟩ = some a5 ∧ w.cell? ⟨p, 6, none⟩ = some a6 ∧ w.cell? ⟨p, 7, none⟩ = some a7 ∧ w.cell? ⟨p, 8, none⟩ = some a8 :=
  ⟨cell_of_block h 3, cell_of_block h 4, cell_of_block h 5, cell_of_block h 6, cell_of_block h 7, cell_of_block h 8⟩
theorem six_at {w : World} {b : Nat} {a0 a1 a2 a3 a4 a5 : Value} {t : TypeId} (h : w.heap[b]? = some (.cells #[a0, a1, a2, a3, a4, a5] t (0, 0))) : ∀ (j : Nat) (u : Value), [a0, a1, a2, a3, a4, a5][j]? = some u → w.cell? ((⟨b, 0, none⟩ : Addr).add j) = some u := fun j u hu => by
  rw [Go.WideShapes.add_plain, cell_of_block h, ← hu]
  simp
theorem owns_setOther {w : World} {B e m n g cap : Nat} {xs : List Value} (h : w.ownsRow B e m (.slice (some ⟨g, 0, none⟩) n cap) n xs) {p : Nat} (hne : g ≠ p) (j : Nat) (v : Value) : (w.setCell ⟨p, j, none⟩ v).ownsRow B e m (.slice (some ⟨g, 0, none⟩) n cap) n xs := by
  refine ⟨h.1, ?_⟩
  rcases h.2 with h3 | ⟨g', cap', cur, hv, hg, hh, h4⟩
  · exact .inl h3
  · simp only [Value.slice.injEq, Option.some.injEq, Addr.mk.injEq] at hv
    refine .inr ⟨g', cap', cur, by simp [hv], hg, ?_, h4⟩
    rw [block_setCell_other (show p ≠ g' from fun e => hne (by rw [hv.1.1, e]))]
    exact hh
theorem res_tct {P : Program} {fn : Func} {t p u : Tmp} {ty : TypeId} (h : fn.results = #[.tmp t, .cell p ty, .tmp u]) (tmps : Array Value) (w : World) (g : Nat) (ty2 : TypeId) (ty3 : TypeId) (cs : Array Value) (fr : Nat × Nat) (d : TypeDesc)
    (hp : tmps.getD p undef = .pointer (some ⟨g, 0, none⟩)) (hg : w.heap[g]? = some (.cells cs ty2 fr)) (hu : P.underlying ty = some d) (hd : (match d with | .struct _ | .array _ _ => true | _ => false) = true) (hi : (P.info? ty).map (·.size) = some cs.size) :
    (results fn tmps).run P w = .ok (.tuple #[tmps.getD t undef, .agg cs, tmps.getD u undef]) w := by
  have hp' : tmps[p]?.getD undef = .pointer (some ⟨g, 0, none⟩) := by simpa using hp
  simp [results, h, hp', asAddr, run_loadVar_row w g ty2 ty cs fr d hg hu hd hi]
set_option maxRecDepth 100000 in
set_option maxHeartbeats 2000000 in
theorem end_ok (p : Nat) (k n : Int) (hk : 1 ≤ k ∧ k ≤ 64) (hn0 : 1 ≤ n) (hn1 : n ≤ 4294967296) (c s v r i o : Int) (w : World) (h : ShAt w p k n true c s v r i o (.slice none 0 0)) (B : Nat) (hB : B ≤ p) :
    Calls Tryd.prog 7 #[.pointer (some ⟨p, 0, none⟩)] w fun e w' => ∃ g cap : Nat, e = .returned (.tuple #[.int .i64 (n - 1), .agg (totA c s v r i o), .int .i64 0]) ∧ ShAt w' p k n false 0 0 0 0 0 0 (.slice (some ⟨g, 0, none⟩) 1 cap) ∧ w'.ownsRow B 34 6 (.slice (some ⟨g, 0, none⟩) 1 cap) 1 [.int .i64 c, .int .i64 s, .int .i64 v, .int .i64 r, .int .i64 i, .int .i64 o] ∧ Below B w w' := by
  obtain ⟨i0, hi, hz0, hz1, hz2⟩ := info_parts (show (Tryd.prog.info? 34).map (fun i => (i.zero, i.size, i.bytes)) = some (some (.agg #[.int .i64 0, .int .i64 0, .int .i64 0, .int .i64 0, .int .i64 0, .int .i64 0]), 6, 48) by kernel_rfl)
  have HI := hide hi
  have HZ0 := hide hz0
  have HZ1 := hide hz1
  have HZ2 := hide hz2
  clear hi hz0 hz1 hz2
  have HOP := hide (fun W hW => open_any' p k n hn0 hn1 true c s v r i o (.slice none 0 0) W hW)
  rw [if_pos rfl] at HOP
  have HBw := hide (show B ≤ w.heap.size from Nat.le_trans hB (Nat.le_of_lt (heap_lt h)))
  have HBp := hide hB
  have HH := hide h
  have c2 := (sh_facts h).1.2.2.1
  have hpl := heap_lt h
  clear h
  go_enter Tryd.func7, Tryd.ntmps7
  go_upto_region 5 with (fail)
  clear c2 hpl
  have hal := (Below.refl w.heap.size w).alloc (Nat.le_refl _) (.cells #[.int .i64 0, .int .i64 0, .int .i64 0, .int .i64 0, .int .i64 0, .int .i64 0] 34)
  have XR := hide (heap_new w (.cells #[.int .i64 0, .int .i64 0, .int .i64 0, .int .i64 0, .int .i64 0, .int .i64 0] 34))
  have N := hide (HH.out.below hal)
  have BB := hide (hal.mono HBw.out)
  have HRP := hide (show p ≠ w.heap.size from by have := heap_lt HH.out; omega)
  have HBr := HBw
  clear hal
  generalize w.alloc (.cells #[.int .i64 0, .int .i64 0, .int .i64 0, .int .i64 0, .int .i64 0, .int .i64 0] 34) = w1 at *
  generalize hrb : w.heap.size = rb at XR HRP ⊢
  have HBrb := hide (show B ≤ rb from by rw [← hrb]; exact HBr.out)
  clear hrb HBr
  have N0 := hide (show w1.drew.heap[p]? = _ from N.out)
  have XR0 := hide (show w1.drew.heap[rb]? = _ from XR.out)
  have BB0 := hide BB.out.drew
  clear N XR BB
  go_cut [5, 6] from 18 to 23 (fun s5 s6 W => ∃ nb : Nat, s5 = .int .i64 (n - 1) ∧ s6 = .pointer (some ⟨nb, 0, none⟩) ∧ W.heap[p]? = some (.cells #[.int .i64 k, .int .i64 n, .bool true, .int .i64 c, .int .i64 s, .int .i64 v, .int .i64 r, .int .i64 i, .int .i64 o, .slice none 0 0] 56 (0, 0)) ∧ W.heap[nb]? = some (.cells #[.int .i64 c, .int .i64 s, .int .i64 v, .int .i64 r, .int .i64 i, .int .i64 o] 34 (0, 0)) ∧ W.heap[rb]? = some (.cells #[.int .i64 0, .int .i64 0, .int .i64 0, .int .i64 0, .int .i64 0, .int .i64 0] 34 (0, 0)) ∧ (nb ≠ p ∧ nb ≠ rb) ∧ B ≤ nb ∧ Below B w W)
  case first =>
    refine wp_region_held_drew (S := (fun W => W.cell? ⟨p, 3, none⟩ = some (.int .i64 c) ∧ W.cell? ⟨p, 4, none⟩ = some (.int .i64 s) ∧ W.cell? ⟨p, 5, none⟩ = some (.int .i64 v) ∧ W.cell? ⟨p, 6, none⟩ = some (.int .i64 r) ∧ W.cell? ⟨p, 7, none⟩ = some (.int .i64 i) ∧ W.cell? ⟨p, 8, none⟩ = some (.int .i64 o))) (by kernel_rfl) (sh_six N0.out) (fun hHeld => ?_)
    generalize w1.drew = u0 at *
    refine wpAnyH_take (i := 0) (oi := { dst := some 18, op := Op.move (Operand.tmp 0), type := 23, pos := "shift.go:121", after := #[], guard := none }) (v := ?_) rfl (by kernel_rfl) (by kernel_rfl) (by kernel_rfl) (fun _ _ _ h => h) (Or.inl ⟨by kernel_rfl, ?_⟩) hHeld ?_
    rotate_left
    · (intro w hSw; (try dsimp only at hSw); go_simp); try with_reducible rfl
    try simp only [Act.put, List.setIfInBounds_toArray, List.set_cons_zero, List.set_cons_succ]
    refine wpAnyH_take (i := 2) (oi := { dst := some 20, op := Op.move (Operand.tmp 0), type := 23, pos := "shift.go:121", after := #[{ on := 7, ground := Ground.gcOnly Departure.lateStores }], guard := none }) (v := ?_) rfl (by kernel_rfl) (by kernel_rfl) (by kernel_rfl) (fun _ _ _ h => h) (Or.inl ⟨by kernel_rfl, ?_⟩) hHeld ?_
    rotate_left
    · (intro w hSw; (try dsimp only at hSw); go_simp); try with_reducible rfl
    try simp only [Act.put, List.setIfInBounds_toArray, List.set_cons_zero, List.set_cons_succ]
    refine wpAnyH_take (i := 3) (oi := { dst := some 21, op := Op.nilCheck (Operand.tmp 20), type := 0, pos := "shift.go:121", after := #[{ on := 2, ground := Ground.data }, { on := 7, ground := Ground.gcOnly Departure.lateStores }], guard := none }) (v := ?_) rfl (by kernel_rfl) (by kernel_rfl) (by kernel_rfl) (fun _ _ _ h => h) (Or.inl ⟨by kernel_rfl, ?_⟩) hHeld ?_
    rotate_left
    · (intro w hSw; (try dsimp only at hSw); go_simp); try with_reducible rfl
    try simp only [Act.put, List.setIfInBounds_toArray, List.set_cons_zero, List.set_cons_succ]
    refine wpAnyH_take (i := 4) (oi := { dst := some 22, op := Op.fieldAddr 56 (Operand.tmp 21) 3, type := 0, pos := "shift.go:121", after := #[{ on := 3, ground := Ground.data }, { on := 7, ground := Ground.gcOnly Departure.lateStores }], guard := none }) (v := ?_) rfl (by kernel_rfl) (by kernel_rfl) (by kernel_rfl) (fun _ _ _ h => h) (Or.inl ⟨by kernel_rfl, ?_⟩) hHeld ?_
    rotate_left
    · (intro w hSw; (try dsimp only at hSw); go_simp); try with_reducible rfl
    try simp only [Act.put, List.setIfInBounds_toArray, List.set_cons_zero, List.set_cons_succ]
    refine wpAnyH_take (i := 5) (oi := { dst := some 23, op := Op.load 34 (Operand.tmp 22), type := 34, pos := "shift.go:121", after := #[{ on := 4, ground := Ground.data }, { on := 7, ground := Ground.gcOnly Departure.lateStores }], guard := none }) (v := ?_) rfl (by kernel_rfl) (by kernel_rfl) (by kernel_rfl) (fun _ _ _ h => h) (Or.inl ⟨by kernel_rfl, ?_⟩) hHeld ?_
    rotate_left
    · (intro w hSw; (try dsimp only at hSw); go_simp); try with_reducible rfl
    try simp only [Act.put, List.setIfInBounds_toArray, List.set_cons_zero, List.set_cons_succ]
    refine wpAnyH_ready (rs := [1, 6]) (by kernel_rfl) (by simp) (AllReadyH.cons (o := { dst := some 19, op := Op.call { callee := Callee.value (Operand.func 9), args := #[Operand.tmp 18], argTypes := #[23] }, type := 3, pos := "shift.go:121", after := #[{ on := 0, ground := Ground.data }], guard := none }) rfl (fun K hK => ?_) (AllReadyH.cons (o := { dst := some 6, op := Op.alloc 34, type := 0, pos := "shift.go:121", after := #[], guard := none }) rfl (fun K hK => ?_) AllReadyH.nil))
    · have hOld := hide hHeld
      clear hHeld
      go_simp
      refine (HOP.out _ N0.out).mono ?_
      rintro e uu ⟨rfl, rfl⟩
      (try go_wp2_with fail)
      refine hK.out _ _ (sh_six N0.out) (fun hHeld => ?_)
      clear hK K hOld
      try simp only [Act.put, List.setIfInBounds_toArray, List.set_cons_zero, List.set_cons_succ]
      refine wpAnyH_ready (rs := [6]) (by kernel_rfl) (by simp) (AllReadyH.cons (o := { dst := some 6, op := Op.alloc 34, type := 0, pos := "shift.go:121", after := #[], guard := none }) rfl (fun K hK => ?_) AllReadyH.nil)
      have hOld := hide hHeld
      clear hHeld
      go_simp
      obtain ⟨oz, hoz⟩ : ∃ oz, oz = Obj.cells #[.int .i64 0, .int .i64 0, .int .i64 0, .int .i64 0, .int .i64 0, .int .i64 0] 34 := ⟨_, rfl⟩
      try rw [← hoz]
      have hal := (Below.refl u0.heap.size u0).alloc (Nat.le_refl _) oz
      have XN1 := hide (heap_new u0 oz)
      have N1 := hide ((hal.block _ (heap_lt N0.out)).trans N0.out)
      have XR1 := hide ((hal.block _ (heap_lt XR0.out)).trans XR0.out)
      have BB1 := hide (BB0.out.trans (hal.mono (Nat.le_trans HBw.out BB0.out.size)))
      have HNP := hide (show u0.heap.size ≠ p ∧ u0.heap.size ≠ rb from by have h1 := heap_lt N0.out; have h2 := heap_lt XR0.out; omega)
      have HBnb := hide (show B ≤ u0.heap.size from Nat.le_trans HBw.out BB0.out.size)
      clear hal
      generalize u0.alloc oz = u1 at *
      generalize u0.heap.size = nb at *
      rw [hoz] at XN1
      clear hoz oz
      obtain ⟨⟨g0, g1, g2, g3, g4, g5⟩, ⟨q0, q1, q2, q3, q4, q5⟩⟩ := six_facts XN1.out
      (try go_wp2_with fail)
      refine hK.out _ _ (sh_six N1.out) (fun hHeld => ?_)
      clear hK K hOld
      try simp only [Act.put, List.setIfInBounds_toArray, List.set_cons_zero, List.set_cons_succ]
      refine wpAnyH_take (i := 7) (oi := { dst := some 5, op := Op.assign (Operand.tmp 19), type := 3, pos := "shift.go:121", after := #[{ on := 1, ground := Ground.data }, { on := 1, ground := Ground.chain }, { on := 0, ground := Ground.phase }, { on := 1, ground := Ground.phase }, { on := 2, ground := Ground.textOnly Departure.lateStores }, { on := 3, ground := Ground.textOnly Departure.lateStores }, { on := 4, ground := Ground.textOnly Departure.lateStores }, { on := 5, ground := Ground.textOnly Departure.lateStores }, { on := 6, ground := Ground.phase }], guard := none }) (v := ?_) rfl (by kernel_rfl) (by kernel_rfl) (by kernel_rfl) (fun _ _ _ h => h) (Or.inl ⟨by kernel_rfl, ?_⟩) hHeld ?_
      rotate_left
      · (intro w hSw; (try dsimp only at hSw); go_simp); try with_reducible rfl
      try simp only [Act.put, List.setIfInBounds_toArray, List.set_cons_zero, List.set_cons_succ]
      refine wpAnyH_ready (rs := [8]) (by kernel_rfl) (by simp) (AllReadyH.cons (o := { dst := none, op := Op.store 34 (Operand.tmp 6) (Operand.tmp 23), type := 0, pos := "shift.go:121", after := #[{ on := 6, ground := Ground.data }, { on := 5, ground := Ground.data }, { on := 7, ground := Ground.chain }, { on := 0, ground := Ground.phase }, { on := 1, ground := Ground.phase }, { on := 2, ground := Ground.phase }, { on := 3, ground := Ground.phase }, { on := 4, ground := Ground.phase }, { on := 5, ground := Ground.phase }, { on := 6, ground := Ground.phase }, { on := 7, ground := Ground.phase }], guard := none }) rfl (fun K hK => ?_) AllReadyH.nil)
      have hOld := hide hHeld
      clear hHeld
      go_simp
      clear g0 g1 g2 g3 g4 g5 q0 q1 q2 q3 q4 q5
      have He0 := hide (show (u1.setCell ⟨nb, 0, none⟩ (.int .i64 c)).heap[nb]? = some (.cells #[.int .i64 c, .int .i64 0, .int .i64 0, .int .i64 0, .int .i64 0, .int .i64 0] 34 (0, 0)) from block_setCell XN1.out 0 (.int .i64 c))
      have BBe0 := hide (BB1.out.setCell (p := ⟨nb, 0, none⟩) HBnb.out (.int .i64 c))
      have Ne0 := hide ((block_setCell_other HNP.out.1 0 (.int .i64 c)).trans N1.out)
      have XRe0 := hide ((block_setCell_other HNP.out.2 0 (.int .i64 c)).trans XR1.out)
      generalize u1.setCell ⟨nb, 0, none⟩ (.int .i64 c) = we0 at *
      have He1 := hide (show (we0.setCell ⟨nb, 1, none⟩ (.int .i64 s)).heap[nb]? = some (.cells #[.int .i64 c, .int .i64 s, .int .i64 0, .int .i64 0, .int .i64 0, .int .i64 0] 34 (0, 0)) from block_setCell He0.out 1 (.int .i64 s))
      have BBe1 := hide (BBe0.out.setCell (p := ⟨nb, 1, none⟩) HBnb.out (.int .i64 s))
      have Ne1 := hide ((block_setCell_other HNP.out.1 1 (.int .i64 s)).trans Ne0.out)
      have XRe1 := hide ((block_setCell_other HNP.out.2 1 (.int .i64 s)).trans XRe0.out)
      generalize we0.setCell ⟨nb, 1, none⟩ (.int .i64 s) = we1 at *
      have He2 := hide (show (we1.setCell ⟨nb, 2, none⟩ (.int .i64 v)).heap[nb]? = some (.cells #[.int .i64 c, .int .i64 s, .int .i64 v, .int .i64 0, .int .i64 0, .int .i64 0] 34 (0, 0)) from block_setCell He1.out 2 (.int .i64 v))
      have BBe2 := hide (BBe1.out.setCell (p := ⟨nb, 2, none⟩) HBnb.out (.int .i64 v))
      have Ne2 := hide ((block_setCell_other HNP.out.1 2 (.int .i64 v)).trans Ne1.out)
      have XRe2 := hide ((block_setCell_other HNP.out.2 2 (.int .i64 v)).trans XRe1.out)
      generalize we1.setCell ⟨nb, 2, none⟩ (.int .i64 v) = we2 at *
      have He3 := hide (show (we2.setCell ⟨nb, 3, none⟩ (.int .i64 r)).heap[nb]? = some (.cells #[.int .i64 c, .int .i64 s, .int .i64 v, .int .i64 r, .int .i64 0, .int .i64 0] 34 (0, 0)) from block_setCell He2.out 3 (.int .i64 r))
      have BBe3 := hide (BBe2.out.setCell (p := ⟨nb, 3, none⟩) HBnb.out (.int .i64 r))
      have Ne3 := hide ((block_setCell_other HNP.out.1 3 (.int .i64 r)).trans Ne2.out)
      have XRe3 := hide ((block_setCell_other HNP.out.2 3 (.int .i64 r)).trans XRe2.out)
      generalize we2.setCell ⟨nb, 3, none⟩ (.int .i64 r) = we3 at *
      have He4 := hide (show (we3.setCell ⟨nb, 4, none⟩ (.int .i64 i)).heap[nb]? = some (.cells #[.int .i64 c, .int .i64 s, .int .i64 v, .int .i64 r, .int .i64 i, .int .i64 0] 34 (0, 0)) from block_setCell He3.out 4 (.int .i64 i))
      have BBe4 := hide (BBe3.out.setCell (p := ⟨nb, 4, none⟩) HBnb.out (.int .i64 i))
      have Ne4 := hide ((block_setCell_other HNP.out.1 4 (.int .i64 i)).trans Ne3.out)
      have XRe4 := hide ((block_setCell_other HNP.out.2 4 (.int .i64 i)).trans XRe3.out)
      generalize we3.setCell ⟨nb, 4, none⟩ (.int .i64 i) = we4 at *
      have He5 := hide (show (we4.setCell ⟨nb, 5, none⟩ (.int .i64 o)).heap[nb]? = some (.cells #[.int .i64 c, .int .i64 s, .int .i64 v, .int .i64 r, .int .i64 i, .int .i64 o] 34 (0, 0)) from block_setCell He4.out 5 (.int .i64 o))
      have BBe5 := hide (BBe4.out.setCell (p := ⟨nb, 5, none⟩) HBnb.out (.int .i64 o))
      have Ne5 := hide ((block_setCell_other HNP.out.1 5 (.int .i64 o)).trans Ne4.out)
      have XRe5 := hide ((block_setCell_other HNP.out.2 5 (.int .i64 o)).trans XRe4.out)
      generalize we4.setCell ⟨nb, 5, none⟩ (.int .i64 o) = we5 at *
      (try go_wp2_with fail)
      refine hK.out _ _ (sh_six Ne5.out) (fun hHeld => ?_)
      clear hK K hOld
      try simp only [Act.put, List.setIfInBounds_toArray, List.set_cons_zero, List.set_cons_succ]
      refine wpAnyH_done (by kernel_rfl) ?_ _
      clear hHeld
      go_wp2_with fail
      go_meet
      exact ⟨nb, rfl, rfl, Ne5.out, He5.out, XRe5.out, HNP.out, HBnb.out, BBe5.out⟩
    · have hOld := hide hHeld
      clear hHeld
      go_simp
      obtain ⟨oz, hoz⟩ : ∃ oz, oz = Obj.cells #[.int .i64 0, .int .i64 0, .int .i64 0, .int .i64 0, .int .i64 0, .int .i64 0] 34 := ⟨_, rfl⟩
      try rw [← hoz]
      have hal := (Below.refl u0.heap.size u0).alloc (Nat.le_refl _) oz
      have XN1 := hide (heap_new u0 oz)
      have N1 := hide ((hal.block _ (heap_lt N0.out)).trans N0.out)
      have XR1 := hide ((hal.block _ (heap_lt XR0.out)).trans XR0.out)
      have BB1 := hide (BB0.out.trans (hal.mono (Nat.le_trans HBw.out BB0.out.size)))
      have HNP := hide (show u0.heap.size ≠ p ∧ u0.heap.size ≠ rb from by have h1 := heap_lt N0.out; have h2 := heap_lt XR0.out; omega)
      have HBnb := hide (show B ≤ u0.heap.size from Nat.le_trans HBw.out BB0.out.size)
      clear hal
      generalize u0.alloc oz = u1 at *
      generalize u0.heap.size = nb at *
      rw [hoz] at XN1
      clear hoz oz
      obtain ⟨⟨g0, g1, g2, g3, g4, g5⟩, ⟨q0, q1, q2, q3, q4, q5⟩⟩ := six_facts XN1.out
      (try go_wp2_with fail)
      refine hK.out _ _ (sh_six N1.out) (fun hHeld => ?_)
      clear hK K hOld
      try simp only [Act.put, List.setIfInBounds_toArray, List.set_cons_zero, List.set_cons_succ]
      refine wpAnyH_ready (rs := [1]) (by kernel_rfl) (by simp) (AllReadyH.cons (o := { dst := some 19, op := Op.call { callee := Callee.value (Operand.func 9), args := #[Operand.tmp 18], argTypes := #[23] }, type := 3, pos := "shift.go:121", after := #[{ on := 0, ground := Ground.data }], guard := none }) rfl (fun K hK => ?_) AllReadyH.nil)
      have hOld := hide hHeld
      clear hHeld
      go_simp
      refine (HOP.out _ N1.out).mono ?_
      rintro e uu ⟨rfl, rfl⟩
      (try go_wp2_with fail)
      refine hK.out _ _ (sh_six N1.out) (fun hHeld => ?_)
      clear hK K hOld
      try simp only [Act.put, List.setIfInBounds_toArray, List.set_cons_zero, List.set_cons_succ]
      refine wpAnyH_take (i := 7) (oi := { dst := some 5, op := Op.assign (Operand.tmp 19), type := 3, pos := "shift.go:121", after := #[{ on := 1, ground := Ground.data }, { on := 1, ground := Ground.chain }, { on := 0, ground := Ground.phase }, { on := 1, ground := Ground.phase }, { on := 2, ground := Ground.textOnly Departure.lateStores }, { on := 3, ground := Ground.textOnly Departure.lateStores }, { on := 4, ground := Ground.textOnly Departure.lateStores }, { on := 5, ground := Ground.textOnly Departure.lateStores }, { on := 6, ground := Ground.phase }], guard := none }) (v := ?_) rfl (by kernel_rfl) (by kernel_rfl) (by kernel_rfl) (fun _ _ _ h => h) (Or.inl ⟨by kernel_rfl, ?_⟩) hHeld ?_
      rotate_left
      · (intro w hSw; (try dsimp only at hSw); go_simp); try with_reducible rfl
      try simp only [Act.put, List.setIfInBounds_toArray, List.set_cons_zero, List.set_cons_succ]
      refine wpAnyH_ready (rs := [8]) (by kernel_rfl) (by simp) (AllReadyH.cons (o := { dst := none, op := Op.store 34 (Operand.tmp 6) (Operand.tmp 23), type := 0, pos := "shift.go:121", after := #[{ on := 6, ground := Ground.data }, { on := 5, ground := Ground.data }, { on := 7, ground := Ground.chain }, { on := 0, ground := Ground.phase }, { on := 1, ground := Ground.phase }, { on := 2, ground := Ground.phase }, { on := 3, ground := Ground.phase }, { on := 4, ground := Ground.phase }, { on := 5, ground := Ground.phase }, { on := 6, ground := Ground.phase }, { on := 7, ground := Ground.phase }], guard := none }) rfl (fun K hK => ?_) AllReadyH.nil)
      have hOld := hide hHeld
      clear hHeld
      go_simp
      clear g0 g1 g2 g3 g4 g5 q0 q1 q2 q3 q4 q5
      have He0 := hide (show (u1.setCell ⟨nb, 0, none⟩ (.int .i64 c)).heap[nb]? = some (.cells #[.int .i64 c, .int .i64 0, .int .i64 0, .int .i64 0, .int .i64 0, .int .i64 0] 34 (0, 0)) from block_setCell XN1.out 0 (.int .i64 c))
      have BBe0 := hide (BB1.out.setCell (p := ⟨nb, 0, none⟩) HBnb.out (.int .i64 c))
      have Ne0 := hide ((block_setCell_other HNP.out.1 0 (.int .i64 c)).trans N1.out)
      have XRe0 := hide ((block_setCell_other HNP.out.2 0 (.int .i64 c)).trans XR1.out)
      generalize u1.setCell ⟨nb, 0, none⟩ (.int .i64 c) = we0 at *
      have He1 := hide (show (we0.setCell ⟨nb, 1, none⟩ (.int .i64 s)).heap[nb]? = some (.cells #[.int .i64 c, .int .i64 s, .int .i64 0, .int .i64 0, .int .i64 0, .int .i64 0] 34 (0, 0)) from block_setCell He0.out 1 (.int .i64 s))
      have BBe1 := hide (BBe0.out.setCell (p := ⟨nb, 1, none⟩) HBnb.out (.int .i64 s))
      have Ne1 := hide ((block_setCell_other HNP.out.1 1 (.int .i64 s)).trans Ne0.out)
      have XRe1 := hide ((block_setCell_other HNP.out.2 1 (.int .i64 s)).trans XRe0.out)
      generalize we0.setCell ⟨nb, 1, none⟩ (.int .i64 s) = we1 at *
      have He2 := hide (show (we1.setCell ⟨nb, 2, none⟩ (.int .i64 v)).heap[nb]? = some (.cells #[.int .i64 c, .int .i64 s, .int .i64 v, .int .i64 0, .int .i64 0, .int .i64 0] 34 (0, 0)) from block_setCell He1.out 2 (.int .i64 v))
      have BBe2 := hide (BBe1.out.setCell (p := ⟨nb, 2, none⟩) HBnb.out (.int .i64 v))
      have Ne2 := hide ((block_setCell_other HNP.out.1 2 (.int .i64 v)).trans Ne1.out)
      have XRe2 := hide ((block_setCell_other HNP.out.2 2 (.int .i64 v)).trans XRe1.out)
      generalize we1.setCell ⟨nb, 2, none⟩ (.int .i64 v) = we2 at *
      have He3 := hide (show (we2.setCell ⟨nb, 3, none⟩ (.int .i64 r)).heap[nb]? = some (.cells #[.int .i64 c, .int .i64 s, .int .i64 v, .int .i64 r, .int .i64 0, .int .i64 0] 34 (0, 0)) from block_setCell He2.out 3 (.int .i64 r))
      have BBe3 := hide (BBe2.out.setCell (p := ⟨nb, 3, none⟩) HBnb.out (.int .i64 r))
      have Ne3 := hide ((block_setCell_other HNP.out.1 3 (.int .i64 r)).trans Ne2.out)
      have XRe3 := hide ((block_setCell_other HNP.out.2 3 (.int .i64 r)).trans XRe2.out)
      generalize we2.setCell ⟨nb, 3, none⟩ (.int .i64 r) = we3 at *
      have He4 := hide (show (we3.setCell ⟨nb, 4, none⟩ (.int .i64 i)).heap[nb]? = some (.cells #[.int .i64 c, .int .i64 s, .int .i64 v, .int .i64 r, .int .i64 i, .int .i64 0] 34 (0, 0)) from block_setCell He3.out 4 (.int .i64 i))
      have BBe4 := hide (BBe3.out.setCell (p := ⟨nb, 4, none⟩) HBnb.out (.int .i64 i))
      have Ne4 := hide ((block_setCell_other HNP.out.1 4 (.int .i64 i)).trans Ne3.out)
      have XRe4 := hide ((block_setCell_other HNP.out.2 4 (.int .i64 i)).trans XRe3.out)
      generalize we3.setCell ⟨nb, 4, none⟩ (.int .i64 i) = we4 at *
      have He5 := hide (show (we4.setCell ⟨nb, 5, none⟩ (.int .i64 o)).heap[nb]? = some (.cells #[.int .i64 c, .int .i64 s, .int .i64 v, .int .i64 r, .int .i64 i, .int .i64 o] 34 (0, 0)) from block_setCell He4.out 5 (.int .i64 o))
      have BBe5 := hide (BBe4.out.setCell (p := ⟨nb, 5, none⟩) HBnb.out (.int .i64 o))
      have Ne5 := hide ((block_setCell_other HNP.out.1 5 (.int .i64 o)).trans Ne4.out)
      have XRe5 := hide ((block_setCell_other HNP.out.2 5 (.int .i64 o)).trans XRe4.out)
      generalize we4.setCell ⟨nb, 5, none⟩ (.int .i64 o) = we5 at *
      (try go_wp2_with fail)
      refine hK.out _ _ (sh_six Ne5.out) (fun hHeld => ?_)
      clear hK K hOld
      try simp only [Act.put, List.setIfInBounds_toArray, List.set_cons_zero, List.set_cons_succ]
      refine wpAnyH_done (by kernel_rfl) ?_ _
      clear hHeld
      go_wp2_with fail
      go_meet
      exact ⟨nb, rfl, rfl, Ne5.out, He5.out, XRe5.out, HNP.out, HBnb.out, BBe5.out⟩
  case rest =>
    obtain ⟨nb, rfl, rfl, hN, hX, hR, hne, hbn, hb⟩ := hcut
    have N := hide hN
    have XN := hide hX
    have XR := hide hR
    have BB := hide hb
    have HNP := hide hne
    have HBnb := hide hbn
    clear hN hX hR hne hbn hb N0 XR0 BB0
    obtain ⟨w2, rfl⟩ : ∃ w2 : World, w2 = wc := ⟨_, rfl⟩
    go_upto_region 6 with (fail)
    have N0 := hide (show w2.drew.heap[p]? = _ from N.out)
    have XN0 := hide (show w2.drew.heap[nb]? = _ from XN.out)
    have XR0 := hide (show w2.drew.heap[rb]? = _ from XR.out)
    have BB0 := hide BB.out.drew
    clear N XN XR BB
    go_cut [] from 24 to 33 (fun W => ∃ g cap : Nat, W.heap[p]? = some (.cells #[.int .i64 k, .int .i64 n, .bool true, .int .i64 c, .int .i64 s, .int .i64 v, .int .i64 r, .int .i64 i, .int .i64 o, .slice (some ⟨g, 0, none⟩) 1 cap] 56 (0, 0)) ∧ W.heap[nb]? = some (.cells #[.int .i64 c, .int .i64 s, .int .i64 v, .int .i64 r, .int .i64 i, .int .i64 o] 34 (0, 0)) ∧ W.heap[rb]? = some (.cells #[.int .i64 0, .int .i64 0, .int .i64 0, .int .i64 0, .int .i64 0, .int .i64 0] 34 (0, 0)) ∧ W.ownsRow B 34 6 (.slice (some ⟨g, 0, none⟩) 1 cap) 1 [.int .i64 c, .int .i64 s, .int .i64 v, .int .i64 r, .int .i64 i, .int .i64 o] ∧ (g ≠ p ∧ g ≠ rb ∧ g ≠ nb) ∧ Below B w W)
    case first =>
      refine wp_region_held_drew (S := (fun W => W.cell? ⟨nb, 0, none⟩ = some (.int .i64 c) ∧ W.cell? ⟨nb, 1, none⟩ = some (.int .i64 s) ∧ W.cell? ⟨nb, 2, none⟩ = some (.int .i64 v) ∧ W.cell? ⟨nb, 3, none⟩ = some (.int .i64 r) ∧ W.cell? ⟨nb, 4, none⟩ = some (.int .i64 i) ∧ W.cell? ⟨nb, 5, none⟩ = some (.int .i64 o))) (by kernel_rfl) (six_cells XN0.out) (fun hHeld => ?_)
      generalize w2.drew = u0 at *
      have c9 := (sh_facts N0.out).1.2.2.2.2.2.2.2.2.2
      refine wpAnyH_take (i := 0) (oi := { dst := some 24, op := Op.move (Operand.tmp 0), type := 23, pos := "shift.go:122", after := #[], guard := none }) (v := ?_) rfl (by kernel_rfl) (by kernel_rfl) (by kernel_rfl) (fun _ _ _ h => h) (Or.inl ⟨by kernel_rfl, ?_⟩) hHeld ?_
      rotate_left
      · (intro w hSw; (try dsimp only at hSw); go_simp); try with_reducible rfl
      try simp only [Act.put, List.setIfInBounds_toArray, List.set_cons_zero, List.set_cons_succ]
      refine wpAnyH_take (i := 1) (oi := { dst := some 25, op := Op.move (Operand.tmp 0), type := 23, pos := "shift.go:122", after := #[], guard := none }) (v := ?_) rfl (by kernel_rfl) (by kernel_rfl) (by kernel_rfl) (fun _ _ _ h => h) (Or.inl ⟨by kernel_rfl, ?_⟩) hHeld ?_
      rotate_left
      · (intro w hSw; (try dsimp only at hSw); go_simp); try with_reducible rfl
      try simp only [Act.put, List.setIfInBounds_toArray, List.set_cons_zero, List.set_cons_succ]
      refine wpAnyH_take (i := 2) (oi := { dst := some 26, op := Op.nilCheck (Operand.tmp 25), type := 0, pos := "shift.go:122", after := #[{ on := 1, ground := Ground.data }], guard := none }) (v := ?_) rfl (by kernel_rfl) (by kernel_rfl) (by kernel_rfl) (fun _ _ _ h => h) (Or.inl ⟨by kernel_rfl, ?_⟩) hHeld ?_
      rotate_left
      · (intro w hSw; (try dsimp only at hSw); go_simp); try with_reducible rfl
      try simp only [Act.put, List.setIfInBounds_toArray, List.set_cons_zero, List.set_cons_succ]
      refine wpAnyH_take (i := 3) (oi := { dst := some 27, op := Op.fieldAddr 56 (Operand.tmp 26) 4, type := 0, pos := "shift.go:122", after := #[{ on := 2, ground := Ground.data }], guard := none }) (v := ?_) rfl (by kernel_rfl) (by kernel_rfl) (by kernel_rfl) (fun _ _ _ h => h) (Or.inl ⟨by kernel_rfl, ?_⟩) hHeld ?_
      rotate_left
      · (intro w hSw; (try dsimp only at hSw); go_simp); try with_reducible rfl
      try simp only [Act.put, List.setIfInBounds_toArray, List.set_cons_zero, List.set_cons_succ]
      refine wpAnyH_take (i := 5) (oi := { dst := some 29, op := Op.load 34 (Operand.tmp 6), type := 34, pos := "shift.go:122", after := #[], guard := none }) (v := ?_) rfl (by kernel_rfl) (by kernel_rfl) (by kernel_rfl) (fun _ _ _ h => h) (Or.inl ⟨by kernel_rfl, ?_⟩) hHeld ?_
      rotate_left
      · (intro w hSw; (try dsimp only at hSw); go_simp); try with_reducible rfl
      try simp only [Act.put, List.setIfInBounds_toArray, List.set_cons_zero, List.set_cons_succ]
      refine wpAnyH_ready (rs := [4, 6]) (by kernel_rfl) (by simp) (AllReadyH.cons (o := { dst := some 28, op := Op.load 54 (Operand.tmp 27), type := 54, pos := "shift.go:122", after := #[{ on := 3, ground := Ground.data }], guard := none }) rfl (fun K hK => ?_) (AllReadyH.cons (o := { dst := some 30, op := Op.buildSlice 54 1 #[(0, Operand.tmp 29)], type := 54, pos := "shift.go:122", after := #[{ on := 5, ground := Ground.data }], guard := none }) rfl (fun K hK => ?_) AllReadyH.nil))
      · have hOld := hide hHeld
        clear hHeld
        go_simp
        skip
        (try go_wp2_with fail)
        refine hK.out _ _ (six_cells XN0.out) (fun hHeld => ?_)
        clear hK K hOld
        try simp only [Act.put, List.setIfInBounds_toArray, List.set_cons_zero, List.set_cons_succ]
        refine wpAnyH_ready (rs := [6]) (by kernel_rfl) (by simp) (AllReadyH.cons (o := { dst := some 30, op := Op.buildSlice 54 1 #[(0, Operand.tmp 29)], type := 54, pos := "shift.go:122", after := #[{ on := 5, ground := Ground.data }], guard := none }) rfl (fun K hK => ?_) AllReadyH.nil)
        have hOld := hide hHeld
        clear hHeld
        go_simp
        obtain ⟨oz, hoz⟩ : ∃ oz, oz = Obj.cells #[.int .i64 c, .int .i64 s, .int .i64 v, .int .i64 r, .int .i64 i, .int .i64 o] 34 := ⟨_, rfl⟩
        try rw [← hoz]
        have hal := (Below.refl u0.heap.size u0).alloc (Nat.le_refl _) oz
        have XA1 := hide (heap_new u0 oz)
        have N1 := hide ((hal.block _ (heap_lt N0.out)).trans N0.out)
        have XR1 := hide ((hal.block _ (heap_lt XR0.out)).trans XR0.out)
        have XN1 := hide ((hal.block _ (heap_lt XN0.out)).trans XN0.out)
        have BB1 := hide (BB0.out.trans (hal.mono (Nat.le_trans HBw.out BB0.out.size)))
        have c9 := (sh_facts N1.out).1.2.2.2.2.2.2.2.2.2
        clear hal
        generalize u0.alloc oz = u1 at *
        generalize u0.heap.size = ab at *
        rw [hoz] at XA1
        clear hoz oz
        (try go_wp2_with fail)
        refine hK.out _ _ (six_cells XN1.out) (fun hHeld => ?_)
        clear hK K hOld
        try simp only [Act.put, List.setIfInBounds_toArray, List.set_cons_zero, List.set_cons_succ]
        refine wpAnyH_ready (rs := [7]) (by kernel_rfl) (by simp) (AllReadyH.cons (o := { dst := some 31, op := Op.call { callee := Callee.builtin Builtin.append, args := #[Operand.tmp 28, Operand.tmp 30], argTypes := #[54, 54] }, type := 54, pos := "shift.go:122", after := #[{ on := 4, ground := Ground.data }, { on := 6, ground := Ground.data }], guard := none }) rfl (fun K hK => ?_) AllReadyH.nil)
        have hOld := hide hHeld
        clear hHeld
        refine wp_append_own2 _ (.tmp 28) (.tmp 30) 54 rfl B 34 i0 (.agg #[.int .i64 0, .int .i64 0, .int .i64 0, .int .i64 0, .int .i64 0, .int .i64 0]) 6 48 Tryd.underlying54 HI.out HZ0.out HZ1.out HZ2.out rfl (by decide) (.slice none 0 0) 0 [] rfl (World.ownsRow_nil _ _ _ _) ⟨ab, 0, none⟩ 1 1 (by decide) [.int .i64 c, .int .i64 s, .int .i64 v, .int .i64 r, .int .i64 i, .int .i64 o] rfl rfl (six_at XA1.out) (by intro u hu; simp at hu; rcases hu with rfl | rfl | rfl | rfl | rfl | rfl <;> rfl) (by decide) (by decide) (Nat.le_trans HBw.out BB1.out.size) ?_
        intro g cap u2 ho hgr hge
        have hb2 : Below u1.heap.size u1 u2 := ⟨hgr.os, hgr.tape, hgr.output, hgr.size, fun k hk => hgr.block k hk (by simp [Value.ownBlock])⟩
        have N2 := hide ((hb2.block _ (heap_lt N1.out)).trans N1.out)
        have XR2 := hide ((hb2.block _ (heap_lt XR1.out)).trans XR1.out)
        have XN2 := hide ((hb2.block _ (heap_lt XN1.out)).trans XN1.out)
        have BB2 := hide (BB1.out.trans (hb2.mono (Nat.le_trans HBw.out BB1.out.size)))
        have OW2 := hide (show u2.ownsRow B 34 6 (.slice (some ⟨g, 0, none⟩) 1 cap) 1 [.int .i64 c, .int .i64 s, .int .i64 v, .int .i64 r, .int .i64 i, .int .i64 o] from ho)
        have HG2 := hide (show u1.heap.size ≤ g from by rcases hge with h | h; cases h; exact h)
        clear ho hgr hge hb2 c9
        obtain ⟨⟨c0, c1, c2, c3, c4, c5, c6, c7, c8, c9⟩, ⟨f0, f1, f2, f3, f4, f5, f6, f7, f8, f9⟩⟩ := sh_facts N2.out
        refine hK.out _ _ (six_cells XN2.out) (fun hHeld => ?_)
        clear hK K hOld
        try simp only [Act.put, List.setIfInBounds_toArray, List.set_cons_zero, List.set_cons_succ]
        refine wpAnyH_take (i := 8) (oi := { dst := some 32, op := Op.nilCheck (Operand.tmp 24), type := 0, pos := "shift.go:122", after := #[{ on := 0, ground := Ground.data }, { on := 0, ground := Ground.phase }, { on := 1, ground := Ground.phase }, { on := 2, ground := Ground.phase }, { on := 3, ground := Ground.phase }, { on := 4, ground := Ground.phase }, { on := 5, ground := Ground.phase }, { on := 6, ground := Ground.phase }, { on := 7, ground := Ground.phase }], guard := none }) (v := ?_) rfl (by kernel_rfl) (by kernel_rfl) (by kernel_rfl) (fun _ _ _ h => h) (Or.inl ⟨by kernel_rfl, ?_⟩) hHeld ?_
        rotate_left
        · (intro w hSw; (try dsimp only at hSw); go_simp); try with_reducible rfl
        try simp only [Act.put, List.setIfInBounds_toArray, List.set_cons_zero, List.set_cons_succ]
        refine wpAnyH_take (i := 9) (oi := { dst := some 33, op := Op.fieldAddr 56 (Operand.tmp 32) 4, type := 0, pos := "shift.go:122", after := #[{ on := 8, ground := Ground.data }, { on := 0, ground := Ground.phase }, { on := 1, ground := Ground.phase }, { on := 2, ground := Ground.phase }, { on := 3, ground := Ground.phase }, { on := 4, ground := Ground.phase }, { on := 5, ground := Ground.phase }, { on := 6, ground := Ground.phase }, { on := 7, ground := Ground.phase }], guard := none }) (v := ?_) rfl (by kernel_rfl) (by kernel_rfl) (by kernel_rfl) (fun _ _ _ h => h) (Or.inl ⟨by kernel_rfl, ?_⟩) hHeld ?_
        rotate_left
        · (intro w hSw; (try dsimp only at hSw); go_simp); try with_reducible rfl
        try simp only [Act.put, List.setIfInBounds_toArray, List.set_cons_zero, List.set_cons_succ]
        refine wpAnyH_ready (rs := [10]) (by kernel_rfl) (by simp) (AllReadyH.cons (o := { dst := none, op := Op.store 54 (Operand.tmp 33) (Operand.tmp 31), type := 0, pos := "shift.go:122", after := #[{ on := 9, ground := Ground.data }, { on := 7, ground := Ground.data }, { on := 7, ground := Ground.chain }, { on := 0, ground := Ground.phase }, { on := 1, ground := Ground.phase }, { on := 2, ground := Ground.phase }, { on := 3, ground := Ground.phase }, { on := 4, ground := Ground.phase }, { on := 5, ground := Ground.phase }, { on := 6, ground := Ground.phase }, { on := 7, ground := Ground.phase }], guard := none }) rfl (fun K hK => ?_) AllReadyH.nil)
        have hOld := hide hHeld
        clear hHeld
        go_simp
        clear c0 c1 c2 c3 c4 c5 c6 c7 c8 c9 f0 f1 f2 f3 f4 f5 f6 f7 f8 f9
        have N3 := hide (show (u2.setCell ⟨p, 9, none⟩ (.slice (some ⟨g, 0, none⟩) 1 cap)).heap[p]? = some (.cells #[.int .i64 k, .int .i64 n, .bool true, .int .i64 c, .int .i64 s, .int .i64 v, .int .i64 r, .int .i64 i, .int .i64 o, .slice (some ⟨g, 0, none⟩) 1 cap] 56 (0, 0)) from block_setCell N2.out 9 (.slice (some ⟨g, 0, none⟩) 1 cap))
        have BB3 := hide (BB2.out.setCell (p := ⟨p, 9, none⟩) HBp.out (.slice (some ⟨g, 0, none⟩) 1 cap))
        have XR3 := hide ((block_setCell_other HRP.out 9 (.slice (some ⟨g, 0, none⟩) 1 cap)).trans XR2.out)
        have XN3 := hide ((block_setCell_other HNP.out.1.symm 9 (.slice (some ⟨g, 0, none⟩) 1 cap)).trans XN2.out)
        have OW3 := hide (owns_setOther OW2.out (show g ≠ p from by have h1 := heap_lt N1.out; have h2 := HG2.out; omega) 9 (.slice (some ⟨g, 0, none⟩) 1 cap))
        generalize u2.setCell ⟨p, 9, none⟩ (.slice (some ⟨g, 0, none⟩) 1 cap) = u3 at *
        (try go_wp2_with fail)
        refine hK.out _ _ (six_cells XN3.out) (fun hHeld => ?_)
        clear hK K hOld
        try simp only [Act.put, List.setIfInBounds_toArray, List.set_cons_zero, List.set_cons_succ]
        refine wpAnyH_done (by kernel_rfl) ?_ _
        clear hHeld
        go_wp2_with fail
        go_meet
        exact ⟨g, cap, N3.out, XN3.out, XR3.out, OW3.out, (by have h1 := heap_lt N1.out; have h2 := HG2.out; have h3 := heap_lt XR1.out; have h4 := heap_lt XN1.out; omega), BB3.out⟩
      · have hOld := hide hHeld
        clear hHeld
        go_simp
        obtain ⟨oz, hoz⟩ : ∃ oz, oz = Obj.cells #[.int .i64 c, .int .i64 s, .int .i64 v, .int .i64 r, .int .i64 i, .int .i64 o] 34 := ⟨_, rfl⟩
        try rw [← hoz]
        have hal := (Below.refl u0.heap.size u0).alloc (Nat.le_refl _) oz
        have XA1 := hide (heap_new u0 oz)
        have N1 := hide ((hal.block _ (heap_lt N0.out)).trans N0.out)
        have XR1 := hide ((hal.block _ (heap_lt XR0.out)).trans XR0.out)
        have XN1 := hide ((hal.block _ (heap_lt XN0.out)).trans XN0.out)
        have BB1 := hide (BB0.out.trans (hal.mono (Nat.le_trans HBw.out BB0.out.size)))
        have c9 := (sh_facts N1.out).1.2.2.2.2.2.2.2.2.2
        clear hal
        generalize u0.alloc oz = u1 at *
        generalize u0.heap.size = ab at *
        rw [hoz] at XA1
        clear hoz oz
        (try go_wp2_with fail)
        refine hK.out _ _ (six_cells XN1.out) (fun hHeld => ?_)
        clear hK K hOld
        try simp only [Act.put, List.setIfInBounds_toArray, List.set_cons_zero, List.set_cons_succ]
        refine wpAnyH_ready (rs := [4]) (by kernel_rfl) (by simp) (AllReadyH.cons (o := { dst := some 28, op := Op.load 54 (Operand.tmp 27), type := 54, pos := "shift.go:122", after := #[{ on := 3, ground := Ground.data }], guard := none }) rfl (fun K hK => ?_) AllReadyH.nil)
        have hOld := hide hHeld
        clear hHeld
        go_simp
        skip
        (try go_wp2_with fail)
        refine hK.out _ _ (six_cells XN1.out) (fun hHeld => ?_)
        clear hK K hOld
        try simp only [Act.put, List.setIfInBounds_toArray, List.set_cons_zero, List.set_cons_succ]
        refine wpAnyH_ready (rs := [7]) (by kernel_rfl) (by simp) (AllReadyH.cons (o := { dst := some 31, op := Op.call { callee := Callee.builtin Builtin.append, args := #[Operand.tmp 28, Operand.tmp 30], argTypes := #[54, 54] }, type := 54, pos := "shift.go:122", after := #[{ on := 4, ground := Ground.data }, { on := 6, ground := Ground.data }], guard := none }) rfl (fun K hK => ?_) AllReadyH.nil)
        have hOld := hide hHeld
        clear hHeld
        refine wp_append_own2 _ (.tmp 28) (.tmp 30) 54 rfl B 34 i0 (.agg #[.int .i64 0, .int .i64 0, .int .i64 0, .int .i64 0, .int .i64 0, .int .i64 0]) 6 48 Tryd.underlying54 HI.out HZ0.out HZ1.out HZ2.out rfl (by decide) (.slice none 0 0) 0 [] rfl (World.ownsRow_nil _ _ _ _) ⟨ab, 0, none⟩ 1 1 (by decide) [.int .i64 c, .int .i64 s, .int .i64 v, .int .i64 r, .int .i64 i, .int .i64 o] rfl rfl (six_at XA1.out) (by intro u hu; simp at hu; rcases hu with rfl | rfl | rfl | rfl | rfl | rfl <;> rfl) (by decide) (by decide) (Nat.le_trans HBw.out BB1.out.size) ?_
        intro g cap u2 ho hgr hge
        have hb2 : Below u1.heap.size u1 u2 := ⟨hgr.os, hgr.tape, hgr.output, hgr.size, fun k hk => hgr.block k hk (by simp [Value.ownBlock])⟩
        have N2 := hide ((hb2.block _ (heap_lt N1.out)).trans N1.out)
        have XR2 := hide ((hb2.block _ (heap_lt XR1.out)).trans XR1.out)
        have XN2 := hide ((hb2.block _ (heap_lt XN1.out)).trans XN1.out)
        have BB2 := hide (BB1.out.trans (hb2.mono (Nat.le_trans HBw.out BB1.out.size)))
        have OW2 := hide (show u2.ownsRow B 34 6 (.slice (some ⟨g, 0, none⟩) 1 cap) 1 [.int .i64 c, .int .i64 s, .int .i64 v, .int .i64 r, .int .i64 i, .int .i64 o] from ho)
        have HG2 := hide (show u1.heap.size ≤ g from by rcases hge with h | h; cases h; exact h)
        clear ho hgr hge hb2 c9
        obtain ⟨⟨c0, c1, c2, c3, c4, c5, c6, c7, c8, c9⟩, ⟨f0, f1, f2, f3, f4, f5, f6, f7, f8, f9⟩⟩ := sh_facts N2.out
        refine hK.out _ _ (six_cells XN2.out) (fun hHeld => ?_)
        clear hK K hOld
        try simp only [Act.put, List.setIfInBounds_toArray, List.set_cons_zero, List.set_cons_succ]
        refine wpAnyH_take (i := 8) (oi := { dst := some 32, op := Op.nilCheck (Operand.tmp 24), type := 0, pos := "shift.go:122", after := #[{ on := 0, ground := Ground.data }, { on := 0, ground := Ground.phase }, { on := 1, ground := Ground.phase }, { on := 2, ground := Ground.phase }, { on := 3, ground := Ground.phase }, { on := 4, ground := Ground.phase }, { on := 5, ground := Ground.phase }, { on := 6, ground := Ground.phase }, { on := 7, ground := Ground.phase }], guard := none }) (v := ?_) rfl (by kernel_rfl) (by kernel_rfl) (by kernel_rfl) (fun _ _ _ h => h) (Or.inl ⟨by kernel_rfl, ?_⟩) hHeld ?_
        rotate_left
        · (intro w hSw; (try dsimp only at hSw); go_simp); try with_reducible rfl
        try simp only [Act.put, List.setIfInBounds_toArray, List.set_cons_zero, List.set_cons_succ]
        refine wpAnyH_take (i := 9) (oi := { dst := some 33, op := Op.fieldAddr 56 (Operand.tmp 32) 4, type := 0, pos := "shift.go:122", after := #[{ on := 8, ground := Ground.data }, { on := 0, ground := Ground.phase }, { on := 1, ground := Ground.phase }, { on := 2, ground := Ground.phase }, { on := 3, ground := Ground.phase }, { on := 4, ground := Ground.phase }, { on := 5, ground := Ground.phase }, { on := 6, ground := Ground.phase }, { on := 7, ground := Ground.phase }], guard := none }) (v := ?_) rfl (by kernel_rfl) (by kernel_rfl) (by kernel_rfl) (fun _ _ _ h => h) (Or.inl ⟨by kernel_rfl, ?_⟩) hHeld ?_
        rotate_left
        · (intro w hSw; (try dsimp only at hSw); go_simp); try with_reducible rfl
        try simp only [Act.put, List.setIfInBounds_toArray, List.set_cons_zero, List.set_cons_succ]
        refine wpAnyH_ready (rs := [10]) (by kernel_rfl) (by simp) (AllReadyH.cons (o := { dst := none, op := Op.store 54 (Operand.tmp 33) (Operand.tmp 31), type := 0, pos := "shift.go:122", after := #[{ on := 9, ground := Ground.data }, { on := 7, ground := Ground.data }, { on := 7, ground := Ground.chain }, { on := 0, ground := Ground.phase }, { on := 1, ground := Ground.phase }, { on := 2, ground := Ground.phase }, { on := 3, ground := Ground.phase }, { on := 4, ground := Ground.phase }, { on := 5, ground := Ground.phase }, { on := 6, ground := Ground.phase }, { on := 7, ground := Ground.phase }], guard := none }) rfl (fun K hK => ?_) AllReadyH.nil)
        have hOld := hide hHeld
        clear hHeld
        go_simp
        clear c0 c1 c2 c3 c4 c5 c6 c7 c8 c9 f0 f1 f2 f3 f4 f5 f6 f7 f8 f9
        have N3 := hide (show (u2.setCell ⟨p, 9, none⟩ (.slice (some ⟨g, 0, none⟩) 1 cap)).heap[p]? = some (.cells #[.int .i64 k, .int .i64 n, .bool true, .int .i64 c, .int .i64 s, .int .i64 v, .int .i64 r, .int .i64 i, .int .i64 o, .slice (some ⟨g, 0, none⟩) 1 cap] 56 (0, 0)) from block_setCell N2.out 9 (.slice (some ⟨g, 0, none⟩) 1 cap))
        have BB3 := hide (BB2.out.setCell (p := ⟨p, 9, none⟩) HBp.out (.slice (some ⟨g, 0, none⟩) 1 cap))
        have XR3 := hide ((block_setCell_other HRP.out 9 (.slice (some ⟨g, 0, none⟩) 1 cap)).trans XR2.out)
        have XN3 := hide ((block_setCell_other HNP.out.1.symm 9 (.slice (some ⟨g, 0, none⟩) 1 cap)).trans XN2.out)
        have OW3 := hide (owns_setOther OW2.out (show g ≠ p from by have h1 := heap_lt N1.out; have h2 := HG2.out; omega) 9 (.slice (some ⟨g, 0, none⟩) 1 cap))
        generalize u2.setCell ⟨p, 9, none⟩ (.slice (some ⟨g, 0, none⟩) 1 cap) = u3 at *
        (try go_wp2_with fail)
        refine hK.out _ _ (six_cells XN3.out) (fun hHeld => ?_)
        clear hK K hOld
        try simp only [Act.put, List.setIfInBounds_toArray, List.set_cons_zero, List.set_cons_succ]
        refine wpAnyH_done (by kernel_rfl) ?_ _
        clear hHeld
        go_wp2_with fail
        go_meet
        exact ⟨g, cap, N3.out, XN3.out, XR3.out, OW3.out, (by have h1 := heap_lt N1.out; have h2 := HG2.out; have h3 := heap_lt XR1.out; have h4 := heap_lt XN1.out; omega), BB3.out⟩
    case rest =>
      obtain ⟨g, cap, hN, hX, hR, hO, hg, hb⟩ := hcut
      have HGP := hide hg.1
      have HGR := hide hg.2.1
      have N := hide hN
      have XN := hide hX
      have XR := hide hR
      have OW := hide hO
      have BB := hide hb
      clear hN hX hR hO hb N0 XN0 XR0 BB0
      have hcap : 1 ≤ cap ∧ cap ≤ 9223372036854775807 := by
        rcases OW.out.2 with ⟨h1, -⟩ | ⟨g', cap', cur, hv, -, -, h5, h6, -⟩
        · cases h1
        · simp only [Value.slice.injEq] at hv
          obtain ⟨-, -, rfl⟩ := hv
          exact ⟨h5, by unfold maxLen at h6; exact h6⟩
      have hwk : IntKind.i64.wrap (1 - k) = 1 - k := by rw [IntKind.wrap_i64]; omega
      have hmxF : (if (0 : Int) > 1 - k then (0 : Int) else 1 - k) = 0 ∨ True := .inr trivial
      have hmx1 : max (1 - k) 0 = 0 := by omega
      have hmx2 : (if 1 - k < 0 then (0 : Int) else 1 - k) = 0 := by split <;> omega
      clear hmxF
      go_upto_region 7 with (fail)
      obtain ⟨w3, rfl⟩ : ∃ w3 : World, w3 = wc := ⟨_, rfl⟩
      obtain ⟨⟨c0, c1, c2, c3, c4, c5, c6, c7, c8, c9⟩, -⟩ := sh_facts N.out
      go_still_tail 17, (by kernel_rfl)
      still_call ((delete_zero (some ⟨g, 0, none⟩) 1 cap hcap.1 hcap.2 _).mono (fun _ _ h => ⟨h.1, h.2.symm⟩))
      refine wpStill_nil ?_
      change wpList _ _ _ _ _ w3.drew
      clear c0 c1 c2 c3 c4 c5 c6 c7 c8 c9
      have N0 := hide (show w3.drew.heap[p]? = _ from N.out)
      have XN0 := hide (show w3.drew.heap[nb]? = _ from XN.out)
      have XR0 := hide (show w3.drew.heap[rb]? = _ from XR.out)
      have OW0 := hide (show w3.drew.ownsRow B 34 6 (.slice (some ⟨g, 0, none⟩) 1 cap) 1 [.int .i64 c, .int .i64 s, .int .i64 v, .int .i64 r, .int .i64 i, .int .i64 o] from OW.out)
      have BB0 := hide BB.out.drew
      clear N XN XR OW BB
      generalize w3.drew = w4 at *
      obtain ⟨⟨c0, c1, c2, c3, c4, c5, c6, c7, c8, c9⟩, ⟨f0, f1, f2, f3, f4, f5, f6, f7, f8, f9⟩⟩ := sh_facts N0.out
      go_upto_region 9 with (fail)
      clear c0 c1 c2 c3 c4 c5 c6 c7 c8 c9 f0 f1 f2 f3 f4 f5 f6 f7 f8 f9
      have Hd0 := hide (show (w4.setCell ⟨p, 9, none⟩ (.slice (some ⟨g, 0, none⟩) 1 cap)).heap[p]? = some (.cells #[.int .i64 k, .int .i64 n, .bool true, .int .i64 c, .int .i64 s, .int .i64 v, .int .i64 r, .int .i64 i, .int .i64 o, .slice (some ⟨g, 0, none⟩) 1 cap] 56 (0, 0)) from block_setCell N0.out 9 (.slice (some ⟨g, 0, none⟩) 1 cap))
      have BBd0 := hide (BB0.out.setCell (p := ⟨p, 9, none⟩) HBp.out (.slice (some ⟨g, 0, none⟩) 1 cap))
      have XRd0 := hide ((block_setCell_other HRP.out 9 (.slice (some ⟨g, 0, none⟩) 1 cap)).trans XR0.out)
      have XNd0 := hide ((block_setCell_other HNP.out.1.symm 9 (.slice (some ⟨g, 0, none⟩) 1 cap)).trans XN0.out)
      have OWd0 := hide (owns_setOther OW0.out HGP.out 9 (.slice (some ⟨g, 0, none⟩) 1 cap))
      generalize w4.setCell ⟨p, 9, none⟩ (.slice (some ⟨g, 0, none⟩) 1 cap) = wd0 at *
      have Hd1 := hide (show (wd0.setCell ⟨p, 2, none⟩ (.bool false)).heap[p]? = some (.cells #[.int .i64 k, .int .i64 n, .bool false, .int .i64 c, .int .i64 s, .int .i64 v, .int .i64 r, .int .i64 i, .int .i64 o, .slice (some ⟨g, 0, none⟩) 1 cap] 56 (0, 0)) from block_setCell Hd0.out 2 (.bool false))
      have BBd1 := hide (BBd0.out.setCell (p := ⟨p, 2, none⟩) HBp.out (.bool false))
      have XRd1 := hide ((block_setCell_other HRP.out 2 (.bool false)).trans XRd0.out)
      have XNd1 := hide ((block_setCell_other HNP.out.1.symm 2 (.bool false)).trans XNd0.out)
      have OWd1 := hide (owns_setOther OWd0.out HGP.out 2 (.bool false))
      generalize wd0.setCell ⟨p, 2, none⟩ (.bool false) = wd1 at *
      have Hd2 := hide (show (wd1.setCell ⟨p, 3, none⟩ (.int .i64 0)).heap[p]? = some (.cells #[.int .i64 k, .int .i64 n, .bool false, .int .i64 0, .int .i64 s, .int .i64 v, .int .i64 r, .int .i64 i, .int .i64 o, .slice (some ⟨g, 0, none⟩) 1 cap] 56 (0, 0)) from block_setCell Hd1.out 3 (.int .i64 0))
      have BBd2 := hide (BBd1.out.setCell (p := ⟨p, 3, none⟩) HBp.out (.int .i64 0))
      have XRd2 := hide ((block_setCell_other HRP.out 3 (.int .i64 0)).trans XRd1.out)
      have XNd2 := hide ((block_setCell_other HNP.out.1.symm 3 (.int .i64 0)).trans XNd1.out)
      have OWd2 := hide (owns_setOther OWd1.out HGP.out 3 (.int .i64 0))
      generalize wd1.setCell ⟨p, 3, none⟩ (.int .i64 0) = wd2 at *
      have Hd3 := hide (show (wd2.setCell ⟨p, 4, none⟩ (.int .i64 0)).heap[p]? = some (.cells #[.int .i64 k, .int .i64 n, .bool false, .int .i64 0, .int .i64 0, .int .i64 v, .int .i64 r, .int .i64 i, .int .i64 o, .slice (some ⟨g, 0, none⟩) 1 cap] 56 (0, 0)) from block_setCell Hd2.out 4 (.int .i64 0))
      have BBd3 := hide (BBd2.out.setCell (p := ⟨p, 4, none⟩) HBp.out (.int .i64 0))
      have XRd3 := hide ((block_setCell_other HRP.out 4 (.int .i64 0)).trans XRd2.out)
      have XNd3 := hide ((block_setCell_other HNP.out.1.symm 4 (.int .i64 0)).trans XNd2.out)
      have OWd3 := hide (owns_setOther OWd2.out HGP.out 4 (.int .i64 0))
      generalize wd2.setCell ⟨p, 4, none⟩ (.int .i64 0) = wd3 at *
      have Hd4 := hide (show (wd3.setCell ⟨p, 5, none⟩ (.int .i64 0)).heap[p]? = some (.cells #[.int .i64 k, .int .i64 n, .bool false, .int .i64 0, .int .i64 0, .int .i64 0, .int .i64 r, .int .i64 i, .int .i64 o, .slice (some ⟨g, 0, none⟩) 1 cap] 56 (0, 0)) from block_setCell Hd3.out 5 (.int .i64 0))
      have BBd4 := hide (BBd3.out.setCell (p := ⟨p, 5, none⟩) HBp.out (.int .i64 0))
      have XRd4 := hide ((block_setCell_other HRP.out 5 (.int .i64 0)).trans XRd3.out)
      have XNd4 := hide ((block_setCell_other HNP.out.1.symm 5 (.int .i64 0)).trans XNd3.out)
      have OWd4 := hide (owns_setOther OWd3.out HGP.out 5 (.int .i64 0))
      generalize wd3.setCell ⟨p, 5, none⟩ (.int .i64 0) = wd4 at *
      have Hd5 := hide (show (wd4.setCell ⟨p, 6, none⟩ (.int .i64 0)).heap[p]? = some (.cells #[.int .i64 k, .int .i64 n, .bool false, .int .i64 0, .int .i64 0, .int .i64 0, .int .i64 0, .int .i64 i, .int .i64 o, .slice (some ⟨g, 0, none⟩) 1 cap] 56 (0, 0)) from block_setCell Hd4.out 6 (.int .i64 0))
      have BBd5 := hide (BBd4.out.setCell (p := ⟨p, 6, none⟩) HBp.out (.int .i64 0))
      have XRd5 := hide ((block_setCell_other HRP.out 6 (.int .i64 0)).trans XRd4.out)
      have XNd5 := hide ((block_setCell_other HNP.out.1.symm 6 (.int .i64 0)).trans XNd4.out)
      have OWd5 := hide (owns_setOther OWd4.out HGP.out 6 (.int .i64 0))
      generalize wd4.setCell ⟨p, 6, none⟩ (.int .i64 0) = wd5 at *
      have Hd6 := hide (show (wd5.setCell ⟨p, 7, none⟩ (.int .i64 0)).heap[p]? = some (.cells #[.int .i64 k, .int .i64 n, .bool false, .int .i64 0, .int .i64 0, .int .i64 0, .int .i64 0, .int .i64 0, .int .i64 o, .slice (some ⟨g, 0, none⟩) 1 cap] 56 (0, 0)) from block_setCell Hd5.out 7 (.int .i64 0))
      have BBd6 := hide (BBd5.out.setCell (p := ⟨p, 7, none⟩) HBp.out (.int .i64 0))
      have XRd6 := hide ((block_setCell_other HRP.out 7 (.int .i64 0)).trans XRd5.out)
      have XNd6 := hide ((block_setCell_other HNP.out.1.symm 7 (.int .i64 0)).trans XNd5.out)
      have OWd6 := hide (owns_setOther OWd5.out HGP.out 7 (.int .i64 0))
      generalize wd5.setCell ⟨p, 7, none⟩ (.int .i64 0) = wd6 at *
      have Hd7 := hide (show (wd6.setCell ⟨p, 8, none⟩ (.int .i64 0)).heap[p]? = some (.cells #[.int .i64 k, .int .i64 n, .bool false, .int .i64 0, .int .i64 0, .int .i64 0, .int .i64 0, .int .i64 0, .int .i64 0, .slice (some ⟨g, 0, none⟩) 1 cap] 56 (0, 0)) from block_setCell Hd6.out 8 (.int .i64 0))
      have BBd7 := hide (BBd6.out.setCell (p := ⟨p, 8, none⟩) HBp.out (.int .i64 0))
      have XRd7 := hide ((block_setCell_other HRP.out 8 (.int .i64 0)).trans XRd6.out)
      have XNd7 := hide ((block_setCell_other HNP.out.1.symm 8 (.int .i64 0)).trans XNd6.out)
      have OWd7 := hide (owns_setOther OWd6.out HGP.out 8 (.int .i64 0))
      generalize wd6.setCell ⟨p, 8, none⟩ (.int .i64 0) = wd7 at *
      obtain ⟨⟨g0, g1, g2, g3, g4, g5⟩, -⟩ := six_facts XNd7.out
      go_still_tail 3, (by kernel_rfl)
      change wpList _ _ _ _ _ wd7.drew
      clear g0 g1 g2 g3 g4 g5
      have HN := hide (show wd7.drew.heap[p]? = _ from Hd7.out)
      have XRZ := hide (show wd7.drew.heap[rb]? = _ from XRd7.out)
      have OWZ := hide (show wd7.drew.ownsRow B 34 6 (.slice (some ⟨g, 0, none⟩) 1 cap) 1 [.int .i64 c, .int .i64 s, .int .i64 v, .int .i64 r, .int .i64 i, .int .i64 o] from OWd7.out)
      have BBZ := hide BBd7.out.drew
      clear Hd7 XRd7 XNd7 OWd7 BBd7
      generalize wd7.drew = wz at *
      obtain ⟨⟨g0, g1, g2, g3, g4, g5⟩, ⟨q0, q1, q2, q3, q4, q5⟩⟩ := six_facts XRZ.out
      go_wp2_with fail
      clear g0 g1 g2 g3 g4 g5 q0 q1 q2 q3 q4 q5
      have Hf0 := hide (show (wz.setCell ⟨rb, 0, none⟩ (.int .i64 c)).heap[rb]? = some (.cells #[.int .i64 c, .int .i64 0, .int .i64 0, .int .i64 0, .int .i64 0, .int .i64 0] 34 (0, 0)) from block_setCell XRZ.out 0 (.int .i64 c))
      have BBf0 := hide (BBZ.out.setCell (p := ⟨rb, 0, none⟩) HBrb.out (.int .i64 c))
      have HNf0 := hide ((block_setCell_other HRP.out.symm 0 (.int .i64 c)).trans HN.out)
      have OWf0 := hide (owns_setOther OWZ.out HGR.out 0 (.int .i64 c))
      generalize wz.setCell ⟨rb, 0, none⟩ (.int .i64 c) = wf0 at *
      have Hf1 := hide (show (wf0.setCell ⟨rb, 1, none⟩ (.int .i64 s)).heap[rb]? = some (.cells #[.int .i64 c, .int .i64 s, .int .i64 0, .int .i64 0, .int .i64 0, .int .i64 0] 34 (0, 0)) from block_setCell Hf0.out 1 (.int .i64 s))
      have BBf1 := hide (BBf0.out.setCell (p := ⟨rb, 1, none⟩) HBrb.out (.int .i64 s))
      have HNf1 := hide ((block_setCell_other HRP.out.symm 1 (.int .i64 s)).trans HNf0.out)
      have OWf1 := hide (owns_setOther OWf0.out HGR.out 1 (.int .i64 s))
      generalize wf0.setCell ⟨rb, 1, none⟩ (.int .i64 s) = wf1 at *
      have Hf2 := hide (show (wf1.setCell ⟨rb, 2, none⟩ (.int .i64 v)).heap[rb]? = some (.cells #[.int .i64 c, .int .i64 s, .int .i64 v, .int .i64 0, .int .i64 0, .int .i64 0] 34 (0, 0)) from block_setCell Hf1.out 2 (.int .i64 v))
      have BBf2 := hide (BBf1.out.setCell (p := ⟨rb, 2, none⟩) HBrb.out (.int .i64 v))
      have HNf2 := hide ((block_setCell_other HRP.out.symm 2 (.int .i64 v)).trans HNf1.out)
      have OWf2 := hide (owns_setOther OWf1.out HGR.out 2 (.int .i64 v))
      generalize wf1.setCell ⟨rb, 2, none⟩ (.int .i64 v) = wf2 at *
      have Hf3 := hide (show (wf2.setCell ⟨rb, 3, none⟩ (.int .i64 r)).heap[rb]? = some (.cells #[.int .i64 c, .int .i64 s, .int .i64 v, .int .i64 r, .int .i64 0, .int .i64 0] 34 (0, 0)) from block_setCell Hf2.out 3 (.int .i64 r))
      have BBf3 := hide (BBf2.out.setCell (p := ⟨rb, 3, none⟩) HBrb.out (.int .i64 r))
      have HNf3 := hide ((block_setCell_other HRP.out.symm 3 (.int .i64 r)).trans HNf2.out)
      have OWf3 := hide (owns_setOther OWf2.out HGR.out 3 (.int .i64 r))
      generalize wf2.setCell ⟨rb, 3, none⟩ (.int .i64 r) = wf3 at *
      have Hf4 := hide (show (wf3.setCell ⟨rb, 4, none⟩ (.int .i64 i)).heap[rb]? = some (.cells #[.int .i64 c, .int .i64 s, .int .i64 v, .int .i64 r, .int .i64 i, .int .i64 0] 34 (0, 0)) from block_setCell Hf3.out 4 (.int .i64 i))
      have BBf4 := hide (BBf3.out.setCell (p := ⟨rb, 4, none⟩) HBrb.out (.int .i64 i))
      have HNf4 := hide ((block_setCell_other HRP.out.symm 4 (.int .i64 i)).trans HNf3.out)
      have OWf4 := hide (owns_setOther OWf3.out HGR.out 4 (.int .i64 i))
      generalize wf3.setCell ⟨rb, 4, none⟩ (.int .i64 i) = wf4 at *
      have Hf5 := hide (show (wf4.setCell ⟨rb, 5, none⟩ (.int .i64 o)).heap[rb]? = some (.cells #[.int .i64 c, .int .i64 s, .int .i64 v, .int .i64 r, .int .i64 i, .int .i64 o] 34 (0, 0)) from block_setCell Hf4.out 5 (.int .i64 o))
      have BBf5 := hide (BBf4.out.setCell (p := ⟨rb, 5, none⟩) HBrb.out (.int .i64 o))
      have HNf5 := hide ((block_setCell_other HRP.out.symm 5 (.int .i64 o)).trans HNf4.out)
      have OWf5 := hide (owns_setOther OWf4.out HGR.out 5 (.int .i64 o))
      generalize wf4.setCell ⟨rb, 5, none⟩ (.int .i64 o) = wf5 at *
      (try simp only [Exit.inBlock, Exit.then])
      refine bodyPost_ret (res_tct (P := Tryd.prog) rfl _ wf5 rb 34 34 #[.int .i64 c, .int .i64 s, .int .i64 v, .int .i64 r, .int .i64 i, .int .i64 o] (0, 0) _ rfl Hf5.out Tryd.underlying34 rfl (by kernel_rfl)) rfl ?_
      exact ⟨g, cap, rfl, HNf5.out, OWf5.out, BBf5.out⟩
end Go.Proofs.YtnnggchkdffpnaaDoor
