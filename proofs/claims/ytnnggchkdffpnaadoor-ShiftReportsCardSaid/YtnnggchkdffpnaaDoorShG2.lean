/-
  Layer 26: End by contract.
-/
import Derived.Test.YtnnggchkdffpnaaDoorShG
import Derived.Deep.Cut
--import Derived.Test.Zdbg
namespace Go.Proofs.YtnnggchkdffpnaaDoor
set_option linter.unusedSimpArgs false
set_option linter.unusedVariables false
open Go.RowKit Go.WideShapes Go.ChangeShapes Go.ChangeAt Go.Deep
theorem SKO.setNew {qs : List Nat} {a w : World} {p : Nat} {c : Array Value} {t : TypeId} {fz : Nat × Nat} (h : SKO qs a w) (hp : w.heap[p]? = some (.cells c t fz)) (ht : t ∈ ShTs) (hq : a.heap.size ≤ p) (j : Nat) (v : Value) : SKO qs a (w.setCell ⟨p, j, none⟩ v) :=
  ⟨h.kt.trans (KeepsT.setCell hp ht j v), h.ol.new (OnlyL.setCell (qs := [p]) (List.mem_singleton.2 rfl) j v) (fun r hr => .inr (by rw [List.mem_singleton.1 hr]; exact hq))⟩
theorem SKO.trans2 {qs : List Nat} {a b c : World} (h : SKO qs a b) (k : SKO qs b c) : SKO qs a c := ⟨h.kt.trans k.kt, h.ol.trans k.ol⟩
theorem SKO.new {qs rs : List Nat} {a b c : World} (h : SKO qs a b) (k : SKO rs b c) (hr : ∀ r ∈ rs, r ∈ qs ∨ a.heap.size ≤ r) : SKO qs a c := ⟨h.kt.trans k.kt, h.ol.new k.ol hr⟩
/-- what is deleted is of totals -/
theorem del_keeps {w w' : World} {g : Nat} {c : Array Value} {fz : Nat × Nat} (hg : w.heap[g]? = some (.cells c 34 fz)) (ho : Only g w w') : KeepsT ShTs w w' := fun k o hk hn => by
  by_cases e : k = g
  · subst e
    rw [hg] at hk
    exact absurd (show 34 ∈ ShTs by decide) (hn _ _ _ (Option.some.inj hk).symm)
  · exact (ho.block k (heap_lt hk) e).trans hk
theorem owns_setCellOther {w : World} {B e m n : Nat} {v : Value} {xs : List Value} (h : w.ownsRow B e m v n xs) {p : Nat} (hne : v.ownBlock ≠ some p) (j : Nat) (u : Value) : (w.setCell ⟨p, j, none⟩ u).ownsRow B e m v n xs := ownsRow_setCell_other h hne u
def SEndIs (B p : Nat) (M : ShM) (V : Value) (w : World) (e : Ending) (w' : World) : Prop := ∃ V', e = .returned (.tuple #[.int .i64 (shEndN M), totV (shEndT M), .int .i64 (shEndE M)]) ∧ ShIs w' B p (shEndM M) V' ∧ SKO (p :: V.ownBlock.toList) w w' ∧ ∀ g, V'.ownBlock = some g → V.ownBlock = some g ∨ w.heap.size ≤ g
set_option maxRecDepth 100000 in
set_option maxHeartbeats 2000000 in
theorem shend_no (B p : Nat) (keep next xc xs xv xr xi xo : Int) (L : List TotM) (V : Value) (w : World) (h : ShIs w B p ⟨keep, next, false, ⟨xc, xs, xv, xr, xi, xo⟩, L⟩ V) :
    Calls Tryd.prog 7 #[.pointer (some ⟨p, 0, none⟩)] w (SEndIs B p ⟨keep, next, false, ⟨xc, xs, xv, xr, xi, xo⟩, L⟩ V w) := by
  have HH := hide h
  have c2 : w.cell? ⟨p, 2, none⟩ = some (.bool false) := cell_of_block h.head 2
  have hpl := h.lt
  clear h
  go_enter Tryd.func7, Tryd.ntmps7
  go_wp2_with fail
  have HB := hide ((Below.refl w.heap.size w).alloc (Nat.le_refl _) (.cells #[.int .i64 0, .int .i64 0, .int .i64 0, .int .i64 0, .int .i64 0, .int .i64 0] 34))
  (try simp only [Exit.inBlock, Exit.then])
  refine bodyPost_ret (res_tct (P := Tryd.prog) rfl _ _ w.heap.size 34 34 #[.int .i64 0, .int .i64 0, .int .i64 0, .int .i64 0, .int .i64 0, .int .i64 0] (0, 0) _ rfl (heap_new w (.cells #[.int .i64 0, .int .i64 0, .int .i64 0, .int .i64 0, .int .i64 0, .int .i64 0] 34)) Tryd.underlying34 rfl (by kernel_rfl)) rfl ?_
  exact ⟨V, rfl, HH.out.below HB.out, SKO.of_below HB.out, fun g hg => .inl hg⟩
set_option maxRecDepth 100000 in
set_option maxHeartbeats 2000000 in
theorem shend_yes (B p : Nat) (keep next xc xs xv xr xi xo : Int) (L : List TotM) (V : Value) (w : World) (hB : B ≤ w.heap.size) (h : ShIs w B p ⟨keep, next, true, ⟨xc, xs, xv, xr, xi, xo⟩, L⟩ V) :
    Calls Tryd.prog 7 #[.pointer (some ⟨p, 0, none⟩)] w (SEndIs B p ⟨keep, next, true, ⟨xc, xs, xv, xr, xi, xo⟩, L⟩ V w) := by
  obtain ⟨i0, hi, hz0, hz1, hz2⟩ := info_parts (show (Tryd.prog.info? 34).map (fun i => (i.zero, i.size, i.bytes)) = some (some (.agg #[.int .i64 0, .int .i64 0, .int .i64 0, .int .i64 0, .int .i64 0, .int .i64 0]), 6, 48) by kernel_rfl)
  have HI := hide hi
  have HZ0 := hide hz0
  have HZ1 := hide hz1
  have HZ2 := hide hz2
  clear hi hz0 hz1 hz2
  have hkp : 1 ≤ keep ∧ keep ≤ 64 := h.ok.kp
  have hnx : 1 ≤ next ∧ next ≤ 4294967296 := h.ok.nx
  have hfew : (L.length : Int) ≤ keep := h.ok.few
  have HEO := hide (shEnd_ok h.ok)
  obtain ⟨k9, hk9⟩ : ∃ k9 : Nat, keep.toNat = k9 := ⟨_, rfl⟩
  have hkk : (k9 : Int) = keep := by omega
  obtain ⟨d, hd⟩ : ∃ d, L.length + 1 - k9 = d := ⟨_, rfl⟩
  have hEM : shEndM ⟨keep, next, true, ⟨xc, xs, xv, xr, xi, xo⟩, L⟩ = ⟨keep, next, false, tot0, (L ++ [TotM.mk xc xs xv xr xi xo]).drop d⟩ := by
    unfold shEndM
    dsimp only
    rw [if_pos rfl, hk9, hd]
  have HEM := hide hEM
  rw [hEM] at HEO
  have hd2 : d = 0 ∨ d = 1 ∧ 2 ≤ (L ++ [TotM.mk xc xs xv xr xi xo]).length := by simp; omega
  have HDEL := hide (fun g c2 W ho => (delete_any (L ++ [TotM.mk xc xs xv xr xi xo]) (by simp; omega) d hd2 g c2 B W ho).mono fun e w' ⟨h1, h2, h3⟩ => (show _ ∧ _ ∧ _ ∧ KeepsT ShTs W w' from ⟨h1, h2, h3, by
    obtain ⟨c', fz', hc⟩ := Go.Lib.ownsRow_kind ho g rfl
    exact del_keeps hc h3⟩))
  have HLM := hide (show (L ++ [TotM.mk xc xs xv xr xi xo]).length = L.length + 1 by simp)
  have hw1 : IntKind.i64.wrap ((L.length : Int) + 1 - keep) = (L.length : Int) + 1 - keep := by rw [IntKind.wrap_i64]; omega
  have HARG := hide (show (if (L.length : Int) + 1 - keep < 0 then (0 : Int) else (L.length : Int) + 1 - keep) = (d : Int) by split <;> omega)
  obtain ⟨a, cp, rfl⟩ := owns_split h.row
  have hOB : ∀ g, (Value.slice a L.length cp).ownBlock = some g → g < w.heap.size := fun g hg => (h.row.lt g hg).2
  have HOB := hide (show ∀ g, (Value.slice a L.length cp).ownBlock = some g → w.heap.size ≤ g → False from fun g hg h2 => by have := hOB g hg; omega)
  have HNE := hide h.ne
  have HOP := hide (fun W hW => open_any' p keep next hnx.1 hnx.2 true xc xs xv xr xi xo (.slice a L.length cp) W hW)
  rw [if_pos rfl] at HOP
  have HBw := hide hB
  have HLO := hide h.low
  have N := hide (show ShAt w p keep next true xc xs xv xr xi xo (.slice a L.length cp) from h.head)
  have OW := hide (show w.ownsRow B 34 6 (.slice a L.length cp) L.length (L.flatMap totC) from h.row)
  have c2 := (sh_facts N.out).1.2.2.1
  have hpl := heap_lt N.out
  clear h hEM hOB hd2 hk9 hkk hd hB
  go_enter Tryd.func7, Tryd.ntmps7
  go_upto_region 5 with (fail)
  clear c2
  have hal := (Below.refl w.heap.size w).alloc (Nat.le_refl _) (.cells #[.int .i64 0, .int .i64 0, .int .i64 0, .int .i64 0, .int .i64 0, .int .i64 0] 34)
  have XR := hide (heap_new w (.cells #[.int .i64 0, .int .i64 0, .int .i64 0, .int .i64 0, .int .i64 0, .int .i64 0] 34))
  have N5 := hide (N.out.below hal)
  have OW5 := hide (owns_below OW.out hal)
  have KK := hide ((SKO.refl (p :: (Value.slice a L.length cp).ownBlock.toList) w).below hal)
  have HRP := hide (show p ≠ w.heap.size from by omega)
  clear hal hpl
  generalize w.alloc (.cells #[.int .i64 0, .int .i64 0, .int .i64 0, .int .i64 0, .int .i64 0, .int .i64 0] 34) = w1 at *
  generalize hrb : w.heap.size = rb at XR HRP ⊢
  have HBrb := hide (show w.heap.size ≤ rb from by rw [hrb]; exact Nat.le_refl _)
  clear hrb N OW
  have N0 := hide (show w1.drew.heap[p]? = _ from N5.out)
  have XR0 := hide (show w1.drew.heap[rb]? = _ from XR.out)
  have OWA := hide (show w1.drew.ownsRow B 34 6 (.slice a L.length cp) L.length (L.flatMap totC) from OW5.out)
  have K0 := hide KK.out.drew
  clear N5 XR KK OW5
  go_cut [5, 6] from 18 to 23 (fun s5 s6 W => ∃ nb : Nat, s5 = .int .i64 (next - 1) ∧ s6 = .pointer (some ⟨nb, 0, none⟩) ∧ W.heap[p]? = some (.cells #[.int .i64 keep, .int .i64 next, .bool true, .int .i64 xc, .int .i64 xs, .int .i64 xv, .int .i64 xr, .int .i64 xi, .int .i64 xo, .slice a L.length cp] 56 (0, 0)) ∧ W.heap[nb]? = some (.cells #[.int .i64 xc, .int .i64 xs, .int .i64 xv, .int .i64 xr, .int .i64 xi, .int .i64 xo] 34 (0, 0)) ∧ W.heap[rb]? = some (.cells #[.int .i64 0, .int .i64 0, .int .i64 0, .int .i64 0, .int .i64 0, .int .i64 0] 34 (0, 0)) ∧ W.ownsRow B 34 6 (.slice a L.length cp) L.length (L.flatMap totC) ∧ (nb ≠ p ∧ nb ≠ rb) ∧ w.heap.size ≤ nb ∧ SKO (p :: (Value.slice a L.length cp).ownBlock.toList) w W)
  case first =>
    refine wp_region_held_drew (S := (fun W => W.cell? ⟨p, 3, none⟩ = some (.int .i64 xc) ∧ W.cell? ⟨p, 4, none⟩ = some (.int .i64 xs) ∧ W.cell? ⟨p, 5, none⟩ = some (.int .i64 xv) ∧ W.cell? ⟨p, 6, none⟩ = some (.int .i64 xr) ∧ W.cell? ⟨p, 7, none⟩ = some (.int .i64 xi) ∧ W.cell? ⟨p, 8, none⟩ = some (.int .i64 xo))) (by kernel_rfl) (sh_six N0.out) (fun hHeld => ?_)
    generalize w1.drew = u0 at *
    refine wpAnyH_take (i := 0) (oi := { dst := some 18, op := Op.move (Operand.tmp 0), type := 23, pos := "shift.go:121", after := #[], guard := none }) (v := ?_) rfl (by kernel_rfl) (by kernel_rfl) (by kernel_rfl) (fun _ _ _ h => h) (Or.inl ⟨by kernel_rfl, ?_⟩) hHeld ?_
    rotate_left
    · (intro w hSw; (try dsimp only at hSw); go_simp); try with_reducible rfl
    try simp only [Act.put, List.setIfInBounds_toArray, List.set_cons_zero, List.set_cons_succ]
    refine wpAnyH_take (i := 2) (oi := { dst := some 20, op := Op.move (Operand.tmp 0), type := 23, pos := "shift.go:121", after := #[{ on := 7, ground := Ground.gcOnly Departure.lateStores }], guard := none }) (v := ?_) rfl (by kernel_rfl) (by kernel_rfl) (by kernel_rfl) (fun _ _ _ h => h) (Or.inl ⟨by kernel_rfl, ?_⟩) hHeld ?_
    rotate_left
    · (intro w hSw; (try dsimp only at hSw); go_simp); try with_reducible rfl
    try simp only [Act.put, List.setIfInBounds_toArray, List.set_cons_zero, List.set_cons_succ]
    refine wpAnyH_take (i := 3) (oi := { dst := some 21, op := Op.nilCheck (Operand.tmp 20), type := 0, pos := "shift.go:121", after := #[{ on := 2, ground := Ground.data }, { on := 7, ground := Ground.gcOnly Departure.lateStores }], guard := none }) (v := ?_) rfl (by kernel_rfl) (by kernel_rfl) (by kernel_rfl) (fun _ _ _ h => h) (Or.inl ⟨by kernel_rfl, ?_⟩) hHeld ?_
    rotate_left
    · (intro w hSw; (try dsimp only at hSw); go_simp); try with_reducible rfl
    try simp only [Act.put, List.setIfInBounds_toArray, List.set_cons_zero, List.set_cons_succ]
    refine wpAnyH_take (i := 4) (oi := { dst := some 22, op := Op.fieldAddr 56 (Operand.tmp 21) 3, type := 0, pos := "shift.go:121", after := #[{ on := 3, ground := Ground.data }, { on := 7, ground := Ground.gcOnly Departure.lateStores }], guard := none }) (v := ?_) rfl (by kernel_rfl) (by kernel_rfl) (by kernel_rfl) (fun _ _ _ h => h) (Or.inl ⟨by kernel_rfl, ?_⟩) hHeld ?_
    rotate_left
    · (intro w hSw; (try dsimp only at hSw); go_simp); try with_reducible rfl
    try simp only [Act.put, List.setIfInBounds_toArray, List.set_cons_zero, List.set_cons_succ]
    refine wpAnyH_take (i := 5) (oi := { dst := some 23, op := Op.load 34 (Operand.tmp 22), type := 34, pos := "shift.go:121", after := #[{ on := 4, ground := Ground.data }, { on := 7, ground := Ground.gcOnly Departure.lateStores }], guard := none }) (v := ?_) rfl (by kernel_rfl) (by kernel_rfl) (by kernel_rfl) (fun _ _ _ h => h) (Or.inl ⟨by kernel_rfl, ?_⟩) hHeld ?_
    rotate_left
    · (intro w hSw; (try dsimp only at hSw); go_simp); try with_reducible rfl
    try simp only [Act.put, List.setIfInBounds_toArray, List.set_cons_zero, List.set_cons_succ]
    refine wpAnyH_ready (rs := [1, 6]) (by kernel_rfl) (by simp) (AllReadyH.cons (o := { dst := some 19, op := Op.call { callee := Callee.value (Operand.func 9), args := #[Operand.tmp 18], argTypes := #[23] }, type := 3, pos := "shift.go:121", after := #[{ on := 0, ground := Ground.data }], guard := none }) rfl (fun K hK => ?_) (AllReadyH.cons (o := { dst := some 6, op := Op.alloc 34, type := 0, pos := "shift.go:121", after := #[], guard := none }) rfl (fun K hK => ?_) AllReadyH.nil))
    · have hOld := hide hHeld
      clear hHeld
      go_simp
      refine (HOP.out _ N0.out).mono ?_
      rintro e uu ⟨rfl, rfl⟩
      (try go_wp2_with fail)
      refine hK.out _ _ (sh_six N0.out) (fun hHeld => ?_)
      clear hK K hOld
      try simp only [Act.put, List.setIfInBounds_toArray, List.set_cons_zero, List.set_cons_succ]
      refine wpAnyH_ready (rs := [6]) (by kernel_rfl) (by simp) (AllReadyH.cons (o := { dst := some 6, op := Op.alloc 34, type := 0, pos := "shift.go:121", after := #[], guard := none }) rfl (fun K hK => ?_) AllReadyH.nil)
      have hOld := hide hHeld
      clear hHeld
      go_simp
      obtain ⟨oz, hoz⟩ : ∃ oz, oz = Obj.cells #[.int .i64 0, .int .i64 0, .int .i64 0, .int .i64 0, .int .i64 0, .int .i64 0] 34 := ⟨_, rfl⟩
      try rw [← hoz]
      have hal := (Below.refl u0.heap.size u0).alloc (Nat.le_refl _) oz
      have XN1 := hide (heap_new u0 oz)
      have N1 := hide ((hal.block _ (heap_lt N0.out)).trans N0.out)
      have XR1 := hide ((hal.block _ (heap_lt XR0.out)).trans XR0.out)
      have OW1 := hide (owns_below OWA.out hal)
      have K1 := hide (K0.out.below hal)
      have HNP := hide (show u0.heap.size ≠ p ∧ u0.heap.size ≠ rb from by have h1 := heap_lt N0.out; have h2 := heap_lt XR0.out; omega)
      have HBnb := hide (show w.heap.size ≤ u0.heap.size from K0.out.ol.size)
      clear hal
      generalize u0.alloc oz = u1 at *
      generalize u0.heap.size = nb at *
      rw [hoz] at XN1
      clear hoz oz
      obtain ⟨⟨g0, g1, g2, g3, g4, g5⟩, ⟨q0, q1, q2, q3, q4, q5⟩⟩ := six_facts XN1.out
      (try go_wp2_with fail)
      refine hK.out _ _ (sh_six N1.out) (fun hHeld => ?_)
      clear hK K hOld
      try simp only [Act.put, List.setIfInBounds_toArray, List.set_cons_zero, List.set_cons_succ]
      refine wpAnyH_take (i := 7) (oi := { dst := some 5, op := Op.assign (Operand.tmp 19), type := 3, pos := "shift.go:121", after := #[{ on := 1, ground := Ground.data }, { on := 1, ground := Ground.chain }, { on := 0, ground := Ground.phase }, { on := 1, ground := Ground.phase }, { on := 2, ground := Ground.textOnly Departure.lateStores }, { on := 3, ground := Ground.textOnly Departure.lateStores }, { on := 4, ground := Ground.textOnly Departure.lateStores }, { on := 5, ground := Ground.textOnly Departure.lateStores }, { on := 6, ground := Ground.phase }], guard := none }) (v := ?_) rfl (by kernel_rfl) (by kernel_rfl) (by kernel_rfl) (fun _ _ _ h => h) (Or.inl ⟨by kernel_rfl, ?_⟩) hHeld ?_
      rotate_left
      · (intro w hSw; (try dsimp only at hSw); go_simp); try with_reducible rfl
      try simp only [Act.put, List.setIfInBounds_toArray, List.set_cons_zero, List.set_cons_succ]
      refine wpAnyH_ready (rs := [8]) (by kernel_rfl) (by simp) (AllReadyH.cons (o := { dst := none, op := Op.store 34 (Operand.tmp 6) (Operand.tmp 23), type := 0, pos := "shift.go:121", after := #[{ on := 6, ground := Ground.data }, { on := 5, ground := Ground.data }, { on := 7, ground := Ground.chain }, { on := 0, ground := Ground.phase }, { on := 1, ground := Ground.phase }, { on := 2, ground := Ground.phase }, { on := 3, ground := Ground.phase }, { on := 4, ground := Ground.phase }, { on := 5, ground := Ground.phase }, { on := 6, ground := Ground.phase }, { on := 7, ground := Ground.phase }], guard := none }) rfl (fun K hK => ?_) AllReadyH.nil)
      have hOld := hide hHeld
      clear hHeld
      go_simp
      clear g0 g1 g2 g3 g4 g5 q0 q1 q2 q3 q4 q5
      have He0 := hide (show (u1.setCell ⟨nb, 0, none⟩ (.int .i64 xc)).heap[nb]? = some (.cells #[.int .i64 xc, .int .i64 0, .int .i64 0, .int .i64 0, .int .i64 0, .int .i64 0] 34 (0, 0)) from block_setCell XN1.out 0 (.int .i64 xc))
      have Ke0 := hide (K1.out.setNew XN1.out (by decide) HBnb.out 0 (.int .i64 xc))
      have Ne0 := hide ((block_setCell_other HNP.out.1 0 (.int .i64 xc)).trans N1.out)
      have XRe0 := hide ((block_setCell_other HNP.out.2 0 (.int .i64 xc)).trans XR1.out)
      have OWe0 := hide (owns_setCellOther OW1.out (fun e => HOB.out _ e HBnb.out) 0 (.int .i64 xc))
      generalize u1.setCell ⟨nb, 0, none⟩ (.int .i64 xc) = we0 at *
      have He1 := hide (show (we0.setCell ⟨nb, 1, none⟩ (.int .i64 xs)).heap[nb]? = some (.cells #[.int .i64 xc, .int .i64 xs, .int .i64 0, .int .i64 0, .int .i64 0, .int .i64 0] 34 (0, 0)) from block_setCell He0.out 1 (.int .i64 xs))
      have Ke1 := hide (Ke0.out.setNew He0.out (by decide) HBnb.out 1 (.int .i64 xs))
      have Ne1 := hide ((block_setCell_other HNP.out.1 1 (.int .i64 xs)).trans Ne0.out)
      have XRe1 := hide ((block_setCell_other HNP.out.2 1 (.int .i64 xs)).trans XRe0.out)
      have OWe1 := hide (owns_setCellOther OWe0.out (fun e => HOB.out _ e HBnb.out) 1 (.int .i64 xs))
      generalize we0.setCell ⟨nb, 1, none⟩ (.int .i64 xs) = we1 at *
      have He2 := hide (show (we1.setCell ⟨nb, 2, none⟩ (.int .i64 xv)).heap[nb]? = some (.cells #[.int .i64 xc, .int .i64 xs, .int .i64 xv, .int .i64 0, .int .i64 0, .int .i64 0] 34 (0, 0)) from block_setCell He1.out 2 (.int .i64 xv))
      have Ke2 := hide (Ke1.out.setNew He1.out (by decide) HBnb.out 2 (.int .i64 xv))
      have Ne2 := hide ((block_setCell_other HNP.out.1 2 (.int .i64 xv)).trans Ne1.out)
      have XRe2 := hide ((block_setCell_other HNP.out.2 2 (.int .i64 xv)).trans XRe1.out)
      have OWe2 := hide (owns_setCellOther OWe1.out (fun e => HOB.out _ e HBnb.out) 2 (.int .i64 xv))
      generalize we1.setCell ⟨nb, 2, none⟩ (.int .i64 xv) = we2 at *
      have He3 := hide (show (we2.setCell ⟨nb, 3, none⟩ (.int .i64 xr)).heap[nb]? = some (.cells #[.int .i64 xc, .int .i64 xs, .int .i64 xv, .int .i64 xr, .int .i64 0, .int .i64 0] 34 (0, 0)) from block_setCell He2.out 3 (.int .i64 xr))
      have Ke3 := hide (Ke2.out.setNew He2.out (by decide) HBnb.out 3 (.int .i64 xr))
      have Ne3 := hide ((block_setCell_other HNP.out.1 3 (.int .i64 xr)).trans Ne2.out)
      have XRe3 := hide ((block_setCell_other HNP.out.2 3 (.int .i64 xr)).trans XRe2.out)
      have OWe3 := hide (owns_setCellOther OWe2.out (fun e => HOB.out _ e HBnb.out) 3 (.int .i64 xr))
      generalize we2.setCell ⟨nb, 3, none⟩ (.int .i64 xr) = we3 at *
      have He4 := hide (show (we3.setCell ⟨nb, 4, none⟩ (.int .i64 xi)).heap[nb]? = some (.cells #[.int .i64 xc, .int .i64 xs, .int .i64 xv, .int .i64 xr, .int .i64 xi, .int .i64 0] 34 (0, 0)) from block_setCell He3.out 4 (.int .i64 xi))
      have Ke4 := hide (Ke3.out.setNew He3.out (by decide) HBnb.out 4 (.int .i64 xi))
      have Ne4 := hide ((block_setCell_other HNP.out.1 4 (.int .i64 xi)).trans Ne3.out)
      have XRe4 := hide ((block_setCell_other HNP.out.2 4 (.int .i64 xi)).trans XRe3.out)
      have OWe4 := hide (owns_setCellOther OWe3.out (fun e => HOB.out _ e HBnb.out) 4 (.int .i64 xi))
      generalize we3.setCell ⟨nb, 4, none⟩ (.int .i64 xi) = we4 at *
      have He5 := hide (show (we4.setCell ⟨nb, 5, none⟩ (.int .i64 xo)).heap[nb]? = some (.cells #[.int .i64 xc, .int .i64 xs, .int .i64 xv, .int .i64 xr, .int .i64 xi, .int .i64 xo] 34 (0, 0)) from block_setCell He4.out 5 (.int .i64 xo))
      have Ke5 := hide (Ke4.out.setNew He4.out (by decide) HBnb.out 5 (.int .i64 xo))
      have Ne5 := hide ((block_setCell_other HNP.out.1 5 (.int .i64 xo)).trans Ne4.out)
      have XRe5 := hide ((block_setCell_other HNP.out.2 5 (.int .i64 xo)).trans XRe4.out)
      have OWe5 := hide (owns_setCellOther OWe4.out (fun e => HOB.out _ e HBnb.out) 5 (.int .i64 xo))
      generalize we4.setCell ⟨nb, 5, none⟩ (.int .i64 xo) = we5 at *
      (try go_wp2_with fail)
      refine hK.out _ _ (sh_six Ne5.out) (fun hHeld => ?_)
      clear hK K hOld
      try simp only [Act.put, List.setIfInBounds_toArray, List.set_cons_zero, List.set_cons_succ]
      refine wpAnyH_done (by kernel_rfl) ?_ _
      clear hHeld
      go_wp2_with fail
      go_meet
      exact ⟨nb, rfl, rfl, Ne5.out, He5.out, XRe5.out, OWe5.out, HNP.out, HBnb.out, Ke5.out⟩
    · have hOld := hide hHeld
      clear hHeld
      go_simp
      obtain ⟨oz, hoz⟩ : ∃ oz, oz = Obj.cells #[.int .i64 0, .int .i64 0, .int .i64 0, .int .i64 0, .int .i64 0, .int .i64 0] 34 := ⟨_, rfl⟩
      try rw [← hoz]
      have hal := (Below.refl u0.heap.size u0).alloc (Nat.le_refl _) oz
      have XN1 := hide (heap_new u0 oz)
      have N1 := hide ((hal.block _ (heap_lt N0.out)).trans N0.out)
      have XR1 := hide ((hal.block _ (heap_lt XR0.out)).trans XR0.out)
      have OW1 := hide (owns_below OWA.out hal)
      have K1 := hide (K0.out.below hal)
      have HNP := hide (show u0.heap.size ≠ p ∧ u0.heap.size ≠ rb from by have h1 := heap_lt N0.out; have h2 := heap_lt XR0.out; omega)
      have HBnb := hide (show w.heap.size ≤ u0.heap.size from K0.out.ol.size)
      clear hal
      generalize u0.alloc oz = u1 at *
      generalize u0.heap.size = nb at *
      rw [hoz] at XN1
      clear hoz oz
      obtain ⟨⟨g0, g1, g2, g3, g4, g5⟩, ⟨q0, q1, q2, q3, q4, q5⟩⟩ := six_facts XN1.out
      (try go_wp2_with fail)
      refine hK.out _ _ (sh_six N1.out) (fun hHeld => ?_)
      clear hK K hOld
      try simp only [Act.put, List.setIfInBounds_toArray, List.set_cons_zero, List.set_cons_succ]
      refine wpAnyH_ready (rs := [1]) (by kernel_rfl) (by simp) (AllReadyH.cons (o := { dst := some 19, op := Op.call { callee := Callee.value (Operand.func 9), args := #[Operand.tmp 18], argTypes := #[23] }, type := 3, pos := "shift.go:121", after := #[{ on := 0, ground := Ground.data }], guard := none }) rfl (fun K hK => ?_) AllReadyH.nil)
      have hOld := hide hHeld
      clear hHeld
      go_simp
      refine (HOP.out _ N1.out).mono ?_
      rintro e uu ⟨rfl, rfl⟩
      (try go_wp2_with fail)
      refine hK.out _ _ (sh_six N1.out) (fun hHeld => ?_)
      clear hK K hOld
      try simp only [Act.put, List.setIfInBounds_toArray, List.set_cons_zero, List.set_cons_succ]
      refine wpAnyH_take (i := 7) (oi := { dst := some 5, op := Op.assign (Operand.tmp 19), type := 3, pos := "shift.go:121", after := #[{ on := 1, ground := Ground.data }, { on := 1, ground := Ground.chain }, { on := 0, ground := Ground.phase }, { on := 1, ground := Ground.phase }, { on := 2, ground := Ground.textOnly Departure.lateStores }, { on := 3, ground := Ground.textOnly Departure.lateStores }, { on := 4, ground := Ground.textOnly Departure.lateStores }, { on := 5, ground := Ground.textOnly Departure.lateStores }, { on := 6, ground := Ground.phase }], guard := none }) (v := ?_) rfl (by kernel_rfl) (by kernel_rfl) (by kernel_rfl) (fun _ _ _ h => h) (Or.inl ⟨by kernel_rfl, ?_⟩) hHeld ?_
      rotate_left
      · (intro w hSw; (try dsimp only at hSw); go_simp); try with_reducible rfl
      try simp only [Act.put, List.setIfInBounds_toArray, List.set_cons_zero, List.set_cons_succ]
      refine wpAnyH_ready (rs := [8]) (by kernel_rfl) (by simp) (AllReadyH.cons (o := { dst := none, op := Op.store 34 (Operand.tmp 6) (Operand.tmp 23), type := 0, pos := "shift.go:121", after := #[{ on := 6, ground := Ground.data }, { on := 5, ground := Ground.data }, { on := 7, ground := Ground.chain }, { on := 0, ground := Ground.phase }, { on := 1, ground := Ground.phase }, { on := 2, ground := Ground.phase }, { on := 3, ground := Ground.phase }, { on := 4, ground := Ground.phase }, { on := 5, ground := Ground.phase }, { on := 6, ground := Ground.phase }, { on := 7, ground := Ground.phase }], guard := none }) rfl (fun K hK => ?_) AllReadyH.nil)
      have hOld := hide hHeld
      clear hHeld
      go_simp
      clear g0 g1 g2 g3 g4 g5 q0 q1 q2 q3 q4 q5
      have He0 := hide (show (u1.setCell ⟨nb, 0, none⟩ (.int .i64 xc)).heap[nb]? = some (.cells #[.int .i64 xc, .int .i64 0, .int .i64 0, .int .i64 0, .int .i64 0, .int .i64 0] 34 (0, 0)) from block_setCell XN1.out 0 (.int .i64 xc))
      have Ke0 := hide (K1.out.setNew XN1.out (by decide) HBnb.out 0 (.int .i64 xc))
      have Ne0 := hide ((block_setCell_other HNP.out.1 0 (.int .i64 xc)).trans N1.out)
      have XRe0 := hide ((block_setCell_other HNP.out.2 0 (.int .i64 xc)).trans XR1.out)
      have OWe0 := hide (owns_setCellOther OW1.out (fun e => HOB.out _ e HBnb.out) 0 (.int .i64 xc))
      generalize u1.setCell ⟨nb, 0, none⟩ (.int .i64 xc) = we0 at *
      have He1 := hide (show (we0.setCell ⟨nb, 1, none⟩ (.int .i64 xs)).heap[nb]? = some (.cells #[.int .i64 xc, .int .i64 xs, .int .i64 0, .int .i64 0, .int .i64 0, .int .i64 0] 34 (0, 0)) from block_setCell He0.out 1 (.int .i64 xs))
      have Ke1 := hide (Ke0.out.setNew He0.out (by decide) HBnb.out 1 (.int .i64 xs))
      have Ne1 := hide ((block_setCell_other HNP.out.1 1 (.int .i64 xs)).trans Ne0.out)
      have XRe1 := hide ((block_setCell_other HNP.out.2 1 (.int .i64 xs)).trans XRe0.out)
      have OWe1 := hide (owns_setCellOther OWe0.out (fun e => HOB.out _ e HBnb.out) 1 (.int .i64 xs))
      generalize we0.setCell ⟨nb, 1, none⟩ (.int .i64 xs) = we1 at *
      have He2 := hide (show (we1.setCell ⟨nb, 2, none⟩ (.int .i64 xv)).heap[nb]? = some (.cells #[.int .i64 xc, .int .i64 xs, .int .i64 xv, .int .i64 0, .int .i64 0, .int .i64 0] 34 (0, 0)) from block_setCell He1.out 2 (.int .i64 xv))
      have Ke2 := hide (Ke1.out.setNew He1.out (by decide) HBnb.out 2 (.int .i64 xv))
      have Ne2 := hide ((block_setCell_other HNP.out.1 2 (.int .i64 xv)).trans Ne1.out)
      have XRe2 := hide ((block_setCell_other HNP.out.2 2 (.int .i64 xv)).trans XRe1.out)
      have OWe2 := hide (owns_setCellOther OWe1.out (fun e => HOB.out _ e HBnb.out) 2 (.int .i64 xv))
      generalize we1.setCell ⟨nb, 2, none⟩ (.int .i64 xv) = we2 at *
      have He3 := hide (show (we2.setCell ⟨nb, 3, none⟩ (.int .i64 xr)).heap[nb]? = some (.cells #[.int .i64 xc, .int .i64 xs, .int .i64 xv, .int .i64 xr, .int .i64 0, .int .i64 0] 34 (0, 0)) from block_setCell He2.out 3 (.int .i64 xr))
      have Ke3 := hide (Ke2.out.setNew He2.out (by decide) HBnb.out 3 (.int .i64 xr))
      have Ne3 := hide ((block_setCell_other HNP.out.1 3 (.int .i64 xr)).trans Ne2.out)
      have XRe3 := hide ((block_setCell_other HNP.out.2 3 (.int .i64 xr)).trans XRe2.out)
      have OWe3 := hide (owns_setCellOther OWe2.out (fun e => HOB.out _ e HBnb.out) 3 (.int .i64 xr))
      generalize we2.setCell ⟨nb, 3, none⟩ (.int .i64 xr) = we3 at *
      have He4 := hide (show (we3.setCell ⟨nb, 4, none⟩ (.int .i64 xi)).heap[nb]? = some (.cells #[.int .i64 xc, .int .i64 xs, .int .i64 xv, .int .i64 xr, .int .i64 xi, .int .i64 0] 34 (0, 0)) from block_setCell He3.out 4 (.int .i64 xi))
      have Ke4 := hide (Ke3.out.setNew He3.out (by decide) HBnb.out 4 (.int .i64 xi))
      have Ne4 := hide ((block_setCell_other HNP.out.1 4 (.int .i64 xi)).trans Ne3.out)
      have XRe4 := hide ((block_setCell_other HNP.out.2 4 (.int .i64 xi)).trans XRe3.out)
      have OWe4 := hide (owns_setCellOther OWe3.out (fun e => HOB.out _ e HBnb.out) 4 (.int .i64 xi))
      generalize we3.setCell ⟨nb, 4, none⟩ (.int .i64 xi) = we4 at *
      have He5 := hide (show (we4.setCell ⟨nb, 5, none⟩ (.int .i64 xo)).heap[nb]? = some (.cells #[.int .i64 xc, .int .i64 xs, .int .i64 xv, .int .i64 xr, .int .i64 xi, .int .i64 xo] 34 (0, 0)) from block_setCell He4.out 5 (.int .i64 xo))
      have Ke5 := hide (Ke4.out.setNew He4.out (by decide) HBnb.out 5 (.int .i64 xo))
      have Ne5 := hide ((block_setCell_other HNP.out.1 5 (.int .i64 xo)).trans Ne4.out)
      have XRe5 := hide ((block_setCell_other HNP.out.2 5 (.int .i64 xo)).trans XRe4.out)
      have OWe5 := hide (owns_setCellOther OWe4.out (fun e => HOB.out _ e HBnb.out) 5 (.int .i64 xo))
      generalize we4.setCell ⟨nb, 5, none⟩ (.int .i64 xo) = we5 at *
      (try go_wp2_with fail)
      refine hK.out _ _ (sh_six Ne5.out) (fun hHeld => ?_)
      clear hK K hOld
      try simp only [Act.put, List.setIfInBounds_toArray, List.set_cons_zero, List.set_cons_succ]
      refine wpAnyH_done (by kernel_rfl) ?_ _
      clear hHeld
      go_wp2_with fail
      go_meet
      exact ⟨nb, rfl, rfl, Ne5.out, He5.out, XRe5.out, OWe5.out, HNP.out, HBnb.out, Ke5.out⟩
  case rest =>
    obtain ⟨nb, rfl, rfl, hN, hX, hR, hOC, hne, hbn, hk⟩ := hcut
    have N := hide hN
    have XN := hide hX
    have XR := hide hR
    have HNP := hide hne
    have HBnb := hide hbn
    have OWB := hide hOC
    clear hOC
    clear hN hX hR hne hbn N0 XR0 OWA
    have KB := hide hk
    clear hk K0
    obtain ⟨w2, rfl⟩ : ∃ w2 : World, w2 = wc := ⟨_, rfl⟩
    go_upto_region 6 with (fail)
    have N0 := hide (show w2.drew.heap[p]? = _ from N.out)
    have XN0 := hide (show w2.drew.heap[nb]? = _ from XN.out)
    have XR0 := hide (show w2.drew.heap[rb]? = _ from XR.out)
    have OW0 := hide (show w2.drew.ownsRow B 34 6 (.slice a L.length cp) L.length (L.flatMap totC) from OWB.out)
    have K0 := hide KB.out.drew
    clear N XN XR OWB KB
    go_cut [] from 24 to 33 (fun W => ∃ g cap : Nat, W.heap[p]? = some (.cells #[.int .i64 keep, .int .i64 next, .bool true, .int .i64 xc, .int .i64 xs, .int .i64 xv, .int .i64 xr, .int .i64 xi, .int .i64 xo, .slice (some ⟨g, 0, none⟩) (L.length + 1) cap] 56 (0, 0)) ∧ W.heap[nb]? = some (.cells #[.int .i64 xc, .int .i64 xs, .int .i64 xv, .int .i64 xr, .int .i64 xi, .int .i64 xo] 34 (0, 0)) ∧ W.heap[rb]? = some (.cells #[.int .i64 0, .int .i64 0, .int .i64 0, .int .i64 0, .int .i64 0, .int .i64 0] 34 (0, 0)) ∧ W.ownsRow B 34 6 (.slice (some ⟨g, 0, none⟩) (L ++ [TotM.mk xc xs xv xr xi xo]).length cap) (L ++ [TotM.mk xc xs xv xr xi xo]).length ((L ++ [TotM.mk xc xs xv xr xi xo]).flatMap totC) ∧ (g ≠ p ∧ g ≠ rb ∧ g ≠ nb) ∧ ((Value.slice a L.length cp).ownBlock = some g ∨ w.heap.size ≤ g) ∧ SKO (p :: (Value.slice a L.length cp).ownBlock.toList) w W)
    case first =>
      refine wp_region_held_drew (S := (fun W => W.cell? ⟨nb, 0, none⟩ = some (.int .i64 xc) ∧ W.cell? ⟨nb, 1, none⟩ = some (.int .i64 xs) ∧ W.cell? ⟨nb, 2, none⟩ = some (.int .i64 xv) ∧ W.cell? ⟨nb, 3, none⟩ = some (.int .i64 xr) ∧ W.cell? ⟨nb, 4, none⟩ = some (.int .i64 xi) ∧ W.cell? ⟨nb, 5, none⟩ = some (.int .i64 xo))) (by kernel_rfl) (six_cells XN0.out) (fun hHeld => ?_)
      generalize w2.drew = u0 at *
      refine wpAnyH_take (i := 0) (oi := { dst := some 24, op := Op.move (Operand.tmp 0), type := 23, pos := "shift.go:122", after := #[], guard := none }) (v := ?_) rfl (by kernel_rfl) (by kernel_rfl) (by kernel_rfl) (fun _ _ _ h => h) (Or.inl ⟨by kernel_rfl, ?_⟩) hHeld ?_
      rotate_left
      · (intro w hSw; (try dsimp only at hSw); go_simp); try with_reducible rfl
      try simp only [Act.put, List.setIfInBounds_toArray, List.set_cons_zero, List.set_cons_succ]
      refine wpAnyH_take (i := 1) (oi := { dst := some 25, op := Op.move (Operand.tmp 0), type := 23, pos := "shift.go:122", after := #[], guard := none }) (v := ?_) rfl (by kernel_rfl) (by kernel_rfl) (by kernel_rfl) (fun _ _ _ h => h) (Or.inl ⟨by kernel_rfl, ?_⟩) hHeld ?_
      rotate_left
      · (intro w hSw; (try dsimp only at hSw); go_simp); try with_reducible rfl
      try simp only [Act.put, List.setIfInBounds_toArray, List.set_cons_zero, List.set_cons_succ]
      refine wpAnyH_take (i := 2) (oi := { dst := some 26, op := Op.nilCheck (Operand.tmp 25), type := 0, pos := "shift.go:122", after := #[{ on := 1, ground := Ground.data }], guard := none }) (v := ?_) rfl (by kernel_rfl) (by kernel_rfl) (by kernel_rfl) (fun _ _ _ h => h) (Or.inl ⟨by kernel_rfl, ?_⟩) hHeld ?_
      rotate_left
      · (intro w hSw; (try dsimp only at hSw); go_simp); try with_reducible rfl
      try simp only [Act.put, List.setIfInBounds_toArray, List.set_cons_zero, List.set_cons_succ]
      refine wpAnyH_take (i := 3) (oi := { dst := some 27, op := Op.fieldAddr 56 (Operand.tmp 26) 4, type := 0, pos := "shift.go:122", after := #[{ on := 2, ground := Ground.data }], guard := none }) (v := ?_) rfl (by kernel_rfl) (by kernel_rfl) (by kernel_rfl) (fun _ _ _ h => h) (Or.inl ⟨by kernel_rfl, ?_⟩) hHeld ?_
      rotate_left
      · (intro w hSw; (try dsimp only at hSw); go_simp); try with_reducible rfl
      try simp only [Act.put, List.setIfInBounds_toArray, List.set_cons_zero, List.set_cons_succ]
      refine wpAnyH_take (i := 5) (oi := { dst := some 29, op := Op.load 34 (Operand.tmp 6), type := 34, pos := "shift.go:122", after := #[], guard := none }) (v := ?_) rfl (by kernel_rfl) (by kernel_rfl) (by kernel_rfl) (fun _ _ _ h => h) (Or.inl ⟨by kernel_rfl, ?_⟩) hHeld ?_
      rotate_left
      · (intro w hSw; (try dsimp only at hSw); go_simp); try with_reducible rfl
      try simp only [Act.put, List.setIfInBounds_toArray, List.set_cons_zero, List.set_cons_succ]
      refine wpAnyH_ready (rs := [4, 6]) (by kernel_rfl) (by simp) (AllReadyH.cons (o := { dst := some 28, op := Op.load 54 (Operand.tmp 27), type := 54, pos := "shift.go:122", after := #[{ on := 3, ground := Ground.data }], guard := none }) rfl (fun K hK => ?_) (AllReadyH.cons (o := { dst := some 30, op := Op.buildSlice 54 1 #[(0, Operand.tmp 29)], type := 54, pos := "shift.go:122", after := #[{ on := 5, ground := Ground.data }], guard := none }) rfl (fun K hK => ?_) AllReadyH.nil))
      · have hOld := hide hHeld
        clear hHeld
        have c9 := (sh_facts N0.out).1.2.2.2.2.2.2.2.2.2
        go_simp
        clear c9
        refine hK.out _ _ (six_cells XN0.out) (fun hHeld => ?_)
        clear hK K hOld
        try simp only [Act.put, List.setIfInBounds_toArray, List.set_cons_zero, List.set_cons_succ]
        refine wpAnyH_ready (rs := [6]) (by kernel_rfl) (by simp) (AllReadyH.cons (o := { dst := some 30, op := Op.buildSlice 54 1 #[(0, Operand.tmp 29)], type := 54, pos := "shift.go:122", after := #[{ on := 5, ground := Ground.data }], guard := none }) rfl (fun K hK => ?_) AllReadyH.nil)
        have hOld := hide hHeld
        clear hHeld
        go_simp
        obtain ⟨oz, hoz⟩ : ∃ oz, oz = Obj.cells #[.int .i64 xc, .int .i64 xs, .int .i64 xv, .int .i64 xr, .int .i64 xi, .int .i64 xo] 34 := ⟨_, rfl⟩
        try rw [← hoz]
        have hal := (Below.refl u0.heap.size u0).alloc (Nat.le_refl _) oz
        have XA1 := hide (heap_new u0 oz)
        have N1 := hide ((hal.block _ (heap_lt N0.out)).trans N0.out)
        have XR1 := hide ((hal.block _ (heap_lt XR0.out)).trans XR0.out)
        have XN1 := hide ((hal.block _ (heap_lt XN0.out)).trans XN0.out)
        have OW1 := hide (owns_below OW0.out hal)
        have K1 := hide (K0.out.below hal)
        clear hal
        generalize u0.alloc oz = u1 at *
        generalize u0.heap.size = ab at *
        rw [hoz] at XA1
        clear hoz oz
        (try go_wp2_with fail)
        refine hK.out _ _ (six_cells XN1.out) (fun hHeld => ?_)
        clear hK K hOld
        try simp only [Act.put, List.setIfInBounds_toArray, List.set_cons_zero, List.set_cons_succ]
        refine wpAnyH_ready (rs := [7]) (by kernel_rfl) (by simp) (AllReadyH.cons (o := { dst := some 31, op := Op.call { callee := Callee.builtin Builtin.append, args := #[Operand.tmp 28, Operand.tmp 30], argTypes := #[54, 54] }, type := 54, pos := "shift.go:122", after := #[{ on := 4, ground := Ground.data }, { on := 6, ground := Ground.data }], guard := none }) rfl (fun K hK => ?_) AllReadyH.nil)
        have hOld := hide hHeld
        clear hHeld
        refine wp_append_own2 _ (.tmp 28) (.tmp 30) 54 rfl B 34 i0 (.agg #[.int .i64 0, .int .i64 0, .int .i64 0, .int .i64 0, .int .i64 0, .int .i64 0]) 6 48 Tryd.underlying54 HI.out HZ0.out HZ1.out HZ2.out rfl (by decide) (.slice a L.length cp) L.length (L.flatMap totC) rfl OW1.out ⟨ab, 0, none⟩ 1 1 (by decide) [.int .i64 xc, .int .i64 xs, .int .i64 xv, .int .i64 xr, .int .i64 xi, .int .i64 xo] rfl rfl (six_at XA1.out) (totC_one ⟨xc, xs, xv, xr, xi, xo⟩) (by unfold maxLen; omega) (by omega) (Nat.le_trans HBw.out K1.out.ol.size) ?_
        intro g cap u2 ho hgr hge
        have N2 := hide (grown_stays OW1.out hgr N1.out (by decide))
        have XR2 := hide ((hgr.block _ (heap_lt XR1.out) (fun e => HOB.out _ e.symm HBrb.out)).trans XR1.out)
        have XN2 := hide ((hgr.block _ (heap_lt XN1.out) (fun e => HOB.out _ e.symm HBnb.out)).trans XN1.out)
        have K2 := hide (K1.out.trans2 ⟨KeepsT.grown OW1.out (by decide) hgr, (onlyL_of_grown hgr).mono (fun q hq => List.mem_cons_of_mem _ hq)⟩)
        have OW2 := hide (show u2.ownsRow B 34 6 (.slice (some ⟨g, 0, none⟩) (L ++ [TotM.mk xc xs xv xr xi xo]).length cap) (L ++ [TotM.mk xc xs xv xr xi xo]).length ((L ++ [TotM.mk xc xs xv xr xi xo]).flatMap totC) by rw [flat_snoc, List.length_append]; exact ho)
        have HG2 := hide (show (Value.slice a L.length cp).ownBlock = some g ∨ w.heap.size ≤ g from hge.imp id (fun h => Nat.le_trans K1.out.ol.size h))
        have HGX := hide (show g ≠ rb ∧ g ≠ nb from by
          have h1 := heap_lt XR1.out
          have h2 := heap_lt XN1.out
          have h3 := HBrb.out
          have h4 := HBnb.out
          rcases hge with h | h
          · have h5 := HOB.out g h
            exact ⟨fun e => h5 (by omega), fun e => h5 (by omega)⟩
          · exact ⟨by omega, by omega⟩)
        clear ho hgr hge
        refine hK.out _ _ (six_cells XN2.out) (fun hHeld => ?_)
        clear hK K hOld
        try simp only [Act.put, List.setIfInBounds_toArray, List.set_cons_zero, List.set_cons_succ]
        refine wpAnyH_take (i := 8) (oi := { dst := some 32, op := Op.nilCheck (Operand.tmp 24), type := 0, pos := "shift.go:122", after := #[{ on := 0, ground := Ground.data }, { on := 0, ground := Ground.phase }, { on := 1, ground := Ground.phase }, { on := 2, ground := Ground.phase }, { on := 3, ground := Ground.phase }, { on := 4, ground := Ground.phase }, { on := 5, ground := Ground.phase }, { on := 6, ground := Ground.phase }, { on := 7, ground := Ground.phase }], guard := none }) (v := ?_) rfl (by kernel_rfl) (by kernel_rfl) (by kernel_rfl) (fun _ _ _ h => h) (Or.inl ⟨by kernel_rfl, ?_⟩) hHeld ?_
        rotate_left
        · (intro w hSw; (try dsimp only at hSw); go_simp); try with_reducible rfl
        try simp only [Act.put, List.setIfInBounds_toArray, List.set_cons_zero, List.set_cons_succ]
        refine wpAnyH_take (i := 9) (oi := { dst := some 33, op := Op.fieldAddr 56 (Operand.tmp 32) 4, type := 0, pos := "shift.go:122", after := #[{ on := 8, ground := Ground.data }, { on := 0, ground := Ground.phase }, { on := 1, ground := Ground.phase }, { on := 2, ground := Ground.phase }, { on := 3, ground := Ground.phase }, { on := 4, ground := Ground.phase }, { on := 5, ground := Ground.phase }, { on := 6, ground := Ground.phase }, { on := 7, ground := Ground.phase }], guard := none }) (v := ?_) rfl (by kernel_rfl) (by kernel_rfl) (by kernel_rfl) (fun _ _ _ h => h) (Or.inl ⟨by kernel_rfl, ?_⟩) hHeld ?_
        rotate_left
        · (intro w hSw; (try dsimp only at hSw); go_simp); try with_reducible rfl
        try simp only [Act.put, List.setIfInBounds_toArray, List.set_cons_zero, List.set_cons_succ]
        refine wpAnyH_ready (rs := [10]) (by kernel_rfl) (by simp) (AllReadyH.cons (o := { dst := none, op := Op.store 54 (Operand.tmp 33) (Operand.tmp 31), type := 0, pos := "shift.go:122", after := #[{ on := 9, ground := Ground.data }, { on := 7, ground := Ground.data }, { on := 7, ground := Ground.chain }, { on := 0, ground := Ground.phase }, { on := 1, ground := Ground.phase }, { on := 2, ground := Ground.phase }, { on := 3, ground := Ground.phase }, { on := 4, ground := Ground.phase }, { on := 5, ground := Ground.phase }, { on := 6, ground := Ground.phase }, { on := 7, ground := Ground.phase }], guard := none }) rfl (fun K hK => ?_) AllReadyH.nil)
        have hOld := hide hHeld
        clear hHeld
        obtain ⟨⟨c0, c1, c2, c3, c4, c5, c6, c7, c8, c9⟩, ⟨f0, f1, f2, f3, f4, f5, f6, f7, f8, f9⟩⟩ := sh_facts N2.out
        have HGP := hide (show g ≠ p from fun e => by
          obtain ⟨c', fz', hc⟩ := Go.Lib.ownsRow_kind OW2.out g rfl
          rw [e, N2.out] at hc
          simp only [Option.some.injEq, Obj.cells.injEq] at hc
          exact absurd hc.2.1 (by decide))
        have N3 := hide (show (u2.setCell ⟨p, 9, none⟩ (.slice (some ⟨g, 0, none⟩) (L.length + 1) cap)).heap[p]? = some (.cells #[.int .i64 keep, .int .i64 next, .bool true, .int .i64 xc, .int .i64 xs, .int .i64 xv, .int .i64 xr, .int .i64 xi, .int .i64 xo, .slice (some ⟨g, 0, none⟩) (L.length + 1) cap] 56 (0, 0)) from block_setCell N2.out 9 (.slice (some ⟨g, 0, none⟩) (L.length + 1) cap))
        have K3 := hide (K2.out.set N2.out (by simp) 9 (.slice (some ⟨g, 0, none⟩) (L.length + 1) cap))
        have XR3 := hide ((block_setCell_other HRP.out 9 (.slice (some ⟨g, 0, none⟩) (L.length + 1) cap)).trans XR2.out)
        have XN3 := hide ((block_setCell_other HNP.out.1.symm 9 (.slice (some ⟨g, 0, none⟩) (L.length + 1) cap)).trans XN2.out)
        have OW3 := hide (owns_setOther OW2.out HGP.out 9 (.slice (some ⟨g, 0, none⟩) (L.length + 1) cap))
        go_simp
        clear c0 c1 c2 c3 c4 c5 c6 c7 c8 c9 f0 f1 f2 f3 f4 f5 f6 f7 f8 f9
        generalize u2.setCell ⟨p, 9, none⟩ (.slice (some ⟨g, 0, none⟩) (L.length + 1) cap) = u3 at *
        refine hK.out _ _ (six_cells XN3.out) (fun hHeld => ?_)
        clear hK K hOld
        try simp only [Act.put, List.setIfInBounds_toArray, List.set_cons_zero, List.set_cons_succ]
        refine wpAnyH_done (by kernel_rfl) ?_ _
        clear hHeld
        go_wp2_with fail
        go_meet
        exact ⟨g, cap, N3.out, XN3.out, XR3.out, OW3.out, ⟨HGP.out, HGX.out.1, HGX.out.2⟩, HG2.out, K3.out⟩
      · have hOld := hide hHeld
        clear hHeld
        go_simp
        obtain ⟨oz, hoz⟩ : ∃ oz, oz = Obj.cells #[.int .i64 xc, .int .i64 xs, .int .i64 xv, .int .i64 xr, .int .i64 xi, .int .i64 xo] 34 := ⟨_, rfl⟩
        try rw [← hoz]
        have hal := (Below.refl u0.heap.size u0).alloc (Nat.le_refl _) oz
        have XA1 := hide (heap_new u0 oz)
        have N1 := hide ((hal.block _ (heap_lt N0.out)).trans N0.out)
        have XR1 := hide ((hal.block _ (heap_lt XR0.out)).trans XR0.out)
        have XN1 := hide ((hal.block _ (heap_lt XN0.out)).trans XN0.out)
        have OW1 := hide (owns_below OW0.out hal)
        have K1 := hide (K0.out.below hal)
        clear hal
        generalize u0.alloc oz = u1 at *
        generalize u0.heap.size = ab at *
        rw [hoz] at XA1
        clear hoz oz
        (try go_wp2_with fail)
        refine hK.out _ _ (six_cells XN1.out) (fun hHeld => ?_)
        clear hK K hOld
        try simp only [Act.put, List.setIfInBounds_toArray, List.set_cons_zero, List.set_cons_succ]
        refine wpAnyH_ready (rs := [4]) (by kernel_rfl) (by simp) (AllReadyH.cons (o := { dst := some 28, op := Op.load 54 (Operand.tmp 27), type := 54, pos := "shift.go:122", after := #[{ on := 3, ground := Ground.data }], guard := none }) rfl (fun K hK => ?_) AllReadyH.nil)
        have hOld := hide hHeld
        clear hHeld
        have c9 := (sh_facts N1.out).1.2.2.2.2.2.2.2.2.2
        go_simp
        clear c9
        refine hK.out _ _ (six_cells XN1.out) (fun hHeld => ?_)
        clear hK K hOld
        try simp only [Act.put, List.setIfInBounds_toArray, List.set_cons_zero, List.set_cons_succ]
        refine wpAnyH_ready (rs := [7]) (by kernel_rfl) (by simp) (AllReadyH.cons (o := { dst := some 31, op := Op.call { callee := Callee.builtin Builtin.append, args := #[Operand.tmp 28, Operand.tmp 30], argTypes := #[54, 54] }, type := 54, pos := "shift.go:122", after := #[{ on := 4, ground := Ground.data }, { on := 6, ground := Ground.data }], guard := none }) rfl (fun K hK => ?_) AllReadyH.nil)
        have hOld := hide hHeld
        clear hHeld
        refine wp_append_own2 _ (.tmp 28) (.tmp 30) 54 rfl B 34 i0 (.agg #[.int .i64 0, .int .i64 0, .int .i64 0, .int .i64 0, .int .i64 0, .int .i64 0]) 6 48 Tryd.underlying54 HI.out HZ0.out HZ1.out HZ2.out rfl (by decide) (.slice a L.length cp) L.length (L.flatMap totC) rfl OW1.out ⟨ab, 0, none⟩ 1 1 (by decide) [.int .i64 xc, .int .i64 xs, .int .i64 xv, .int .i64 xr, .int .i64 xi, .int .i64 xo] rfl rfl (six_at XA1.out) (totC_one ⟨xc, xs, xv, xr, xi, xo⟩) (by unfold maxLen; omega) (by omega) (Nat.le_trans HBw.out K1.out.ol.size) ?_
        intro g cap u2 ho hgr hge
        have N2 := hide (grown_stays OW1.out hgr N1.out (by decide))
        have XR2 := hide ((hgr.block _ (heap_lt XR1.out) (fun e => HOB.out _ e.symm HBrb.out)).trans XR1.out)
        have XN2 := hide ((hgr.block _ (heap_lt XN1.out) (fun e => HOB.out _ e.symm HBnb.out)).trans XN1.out)
        have K2 := hide (K1.out.trans2 ⟨KeepsT.grown OW1.out (by decide) hgr, (onlyL_of_grown hgr).mono (fun q hq => List.mem_cons_of_mem _ hq)⟩)
        have OW2 := hide (show u2.ownsRow B 34 6 (.slice (some ⟨g, 0, none⟩) (L ++ [TotM.mk xc xs xv xr xi xo]).length cap) (L ++ [TotM.mk xc xs xv xr xi xo]).length ((L ++ [TotM.mk xc xs xv xr xi xo]).flatMap totC) by rw [flat_snoc, List.length_append]; exact ho)
        have HG2 := hide (show (Value.slice a L.length cp).ownBlock = some g ∨ w.heap.size ≤ g from hge.imp id (fun h => Nat.le_trans K1.out.ol.size h))
        have HGX := hide (show g ≠ rb ∧ g ≠ nb from by
          have h1 := heap_lt XR1.out
          have h2 := heap_lt XN1.out
          have h3 := HBrb.out
          have h4 := HBnb.out
          rcases hge with h | h
          · have h5 := HOB.out g h
            exact ⟨fun e => h5 (by omega), fun e => h5 (by omega)⟩
          · exact ⟨by omega, by omega⟩)
        clear ho hgr hge
        refine hK.out _ _ (six_cells XN2.out) (fun hHeld => ?_)
        clear hK K hOld
        try simp only [Act.put, List.setIfInBounds_toArray, List.set_cons_zero, List.set_cons_succ]
        refine wpAnyH_take (i := 8) (oi := { dst := some 32, op := Op.nilCheck (Operand.tmp 24), type := 0, pos := "shift.go:122", after := #[{ on := 0, ground := Ground.data }, { on := 0, ground := Ground.phase }, { on := 1, ground := Ground.phase }, { on := 2, ground := Ground.phase }, { on := 3, ground := Ground.phase }, { on := 4, ground := Ground.phase }, { on := 5, ground := Ground.phase }, { on := 6, ground := Ground.phase }, { on := 7, ground := Ground.phase }], guard := none }) (v := ?_) rfl (by kernel_rfl) (by kernel_rfl) (by kernel_rfl) (fun _ _ _ h => h) (Or.inl ⟨by kernel_rfl, ?_⟩) hHeld ?_
        rotate_left
        · (intro w hSw; (try dsimp only at hSw); go_simp); try with_reducible rfl
        try simp only [Act.put, List.setIfInBounds_toArray, List.set_cons_zero, List.set_cons_succ]
        refine wpAnyH_take (i := 9) (oi := { dst := some 33, op := Op.fieldAddr 56 (Operand.tmp 32) 4, type := 0, pos := "shift.go:122", after := #[{ on := 8, ground := Ground.data }, { on := 0, ground := Ground.phase }, { on := 1, ground := Ground.phase }, { on := 2, ground := Ground.phase }, { on := 3, ground := Ground.phase }, { on := 4, ground := Ground.phase }, { on := 5, ground := Ground.phase }, { on := 6, ground := Ground.phase }, { on := 7, ground := Ground.phase }], guard := none }) (v := ?_) rfl (by kernel_rfl) (by kernel_rfl) (by kernel_rfl) (fun _ _ _ h => h) (Or.inl ⟨by kernel_rfl, ?_⟩) hHeld ?_
        rotate_left
        · (intro w hSw; (try dsimp only at hSw); go_simp); try with_reducible rfl
        try simp only [Act.put, List.setIfInBounds_toArray, List.set_cons_zero, List.set_cons_succ]
        refine wpAnyH_ready (rs := [10]) (by kernel_rfl) (by simp) (AllReadyH.cons (o := { dst := none, op := Op.store 54 (Operand.tmp 33) (Operand.tmp 31), type := 0, pos := "shift.go:122", after := #[{ on := 9, ground := Ground.data }, { on := 7, ground := Ground.data }, { on := 7, ground := Ground.chain }, { on := 0, ground := Ground.phase }, { on := 1, ground := Ground.phase }, { on := 2, ground := Ground.phase }, { on := 3, ground := Ground.phase }, { on := 4, ground := Ground.phase }, { on := 5, ground := Ground.phase }, { on := 6, ground := Ground.phase }, { on := 7, ground := Ground.phase }], guard := none }) rfl (fun K hK => ?_) AllReadyH.nil)
        have hOld := hide hHeld
        clear hHeld
        obtain ⟨⟨c0, c1, c2, c3, c4, c5, c6, c7, c8, c9⟩, ⟨f0, f1, f2, f3, f4, f5, f6, f7, f8, f9⟩⟩ := sh_facts N2.out
        have HGP := hide (show g ≠ p from fun e => by
          obtain ⟨c', fz', hc⟩ := Go.Lib.ownsRow_kind OW2.out g rfl
          rw [e, N2.out] at hc
          simp only [Option.some.injEq, Obj.cells.injEq] at hc
          exact absurd hc.2.1 (by decide))
        have N3 := hide (show (u2.setCell ⟨p, 9, none⟩ (.slice (some ⟨g, 0, none⟩) (L.length + 1) cap)).heap[p]? = some (.cells #[.int .i64 keep, .int .i64 next, .bool true, .int .i64 xc, .int .i64 xs, .int .i64 xv, .int .i64 xr, .int .i64 xi, .int .i64 xo, .slice (some ⟨g, 0, none⟩) (L.length + 1) cap] 56 (0, 0)) from block_setCell N2.out 9 (.slice (some ⟨g, 0, none⟩) (L.length + 1) cap))
        have K3 := hide (K2.out.set N2.out (by simp) 9 (.slice (some ⟨g, 0, none⟩) (L.length + 1) cap))
        have XR3 := hide ((block_setCell_other HRP.out 9 (.slice (some ⟨g, 0, none⟩) (L.length + 1) cap)).trans XR2.out)
        have XN3 := hide ((block_setCell_other HNP.out.1.symm 9 (.slice (some ⟨g, 0, none⟩) (L.length + 1) cap)).trans XN2.out)
        have OW3 := hide (owns_setOther OW2.out HGP.out 9 (.slice (some ⟨g, 0, none⟩) (L.length + 1) cap))
        go_simp
        clear c0 c1 c2 c3 c4 c5 c6 c7 c8 c9 f0 f1 f2 f3 f4 f5 f6 f7 f8 f9
        generalize u2.setCell ⟨p, 9, none⟩ (.slice (some ⟨g, 0, none⟩) (L.length + 1) cap) = u3 at *
        refine hK.out _ _ (six_cells XN3.out) (fun hHeld => ?_)
        clear hK K hOld
        try simp only [Act.put, List.setIfInBounds_toArray, List.set_cons_zero, List.set_cons_succ]
        refine wpAnyH_done (by kernel_rfl) ?_ _
        clear hHeld
        go_wp2_with fail
        go_meet
        exact ⟨g, cap, N3.out, XN3.out, XR3.out, OW3.out, ⟨HGP.out, HGX.out.1, HGX.out.2⟩, HG2.out, K3.out⟩
    case rest =>
      obtain ⟨g, cap, hN, hX, hR, hO, hg, hgg, hk⟩ := hcut
      have HGP := hide hg.1
      have HGR := hide hg.2.1
      have HGN := hide hg.2.2
      have HGG := hide hgg
      have N := hide hN
      have XN := hide hX
      have XR := hide hR
      have OW := hide hO
      have KB := hide hk
      have HLM2 := HLM.out
      clear hN hX hR hO hk hg hgg N0 XN0 XR0 K0 OW0
      generalize L ++ [TotM.mk xc xs xv xr xi xo] = M9 at *
      generalize M9.drop d = R at *
      go_upto_region 7 with (fail)
      obtain ⟨w3, rfl⟩ : ∃ w3 : World, w3 = wc := ⟨_, rfl⟩
      have N0 := hide (show w3.drew.heap[p]? = _ from N.out)
      have XN0 := hide (show w3.drew.heap[nb]? = _ from XN.out)
      have XR0 := hide (show w3.drew.heap[rb]? = _ from XR.out)
      have OW0 := hide (show w3.drew.ownsRow B 34 6 (.slice (some ⟨g, 0, none⟩) M9.length cap) M9.length (M9.flatMap totC) from OW.out)
      have K0 := hide KB.out.drew
      clear N XN XR OW KB
      simp only [HLM2] at OW0 HDEL
      go_cut [] from 34 to 52 (fun W => W.heap[p]? = some (.cells #[.int .i64 keep, .int .i64 next, .bool true, .int .i64 xc, .int .i64 xs, .int .i64 xv, .int .i64 xr, .int .i64 xi, .int .i64 xo, .slice (some ⟨g, 0, none⟩) R.length cap] 56 (0, 0)) ∧ W.heap[nb]? = some (.cells #[.int .i64 xc, .int .i64 xs, .int .i64 xv, .int .i64 xr, .int .i64 xi, .int .i64 xo] 34 (0, 0)) ∧ W.heap[rb]? = some (.cells #[.int .i64 0, .int .i64 0, .int .i64 0, .int .i64 0, .int .i64 0, .int .i64 0] 34 (0, 0)) ∧ W.ownsRow B 34 6 (.slice (some ⟨g, 0, none⟩) R.length cap) R.length (R.flatMap totC) ∧ SKO (p :: (Value.slice a L.length cp).ownBlock.toList) w W)
      case first =>
        refine wp_region_held_drew (S := (fun W => W.cell? ⟨p, 0, none⟩ = some (.int .i64 keep))) (by kernel_rfl) (cell_of_block N0.out 0) (fun hHeld => ?_)
        generalize w3.drew = u0 at *
        refine wpAnyH_take (i := 0) (oi := { dst := some 34, op := Op.move (Operand.tmp 0), type := 23, pos := "shift.go:123", after := #[], guard := none }) (v := ?_) rfl (by kernel_rfl) (by kernel_rfl) (by kernel_rfl) (fun _ _ _ h => h) (Or.inl ⟨by kernel_rfl, ?_⟩) hHeld ?_
        rotate_left
        · (intro w hSw; (try dsimp only at hSw); go_simp); try with_reducible rfl
        try simp only [Act.put, List.setIfInBounds_toArray, List.set_cons_zero, List.set_cons_succ]
        refine wpAnyH_take (i := 1) (oi := { dst := some 35, op := Op.move (Operand.tmp 0), type := 23, pos := "shift.go:123", after := #[], guard := none }) (v := ?_) rfl (by kernel_rfl) (by kernel_rfl) (by kernel_rfl) (fun _ _ _ h => h) (Or.inl ⟨by kernel_rfl, ?_⟩) hHeld ?_
        rotate_left
        · (intro w hSw; (try dsimp only at hSw); go_simp); try with_reducible rfl
        try simp only [Act.put, List.setIfInBounds_toArray, List.set_cons_zero, List.set_cons_succ]
        refine wpAnyH_take (i := 2) (oi := { dst := some 36, op := Op.nilCheck (Operand.tmp 35), type := 0, pos := "shift.go:123", after := #[{ on := 1, ground := Ground.data }], guard := none }) (v := ?_) rfl (by kernel_rfl) (by kernel_rfl) (by kernel_rfl) (fun _ _ _ h => h) (Or.inl ⟨by kernel_rfl, ?_⟩) hHeld ?_
        rotate_left
        · (intro w hSw; (try dsimp only at hSw); go_simp); try with_reducible rfl
        try simp only [Act.put, List.setIfInBounds_toArray, List.set_cons_zero, List.set_cons_succ]
        refine wpAnyH_take (i := 3) (oi := { dst := some 37, op := Op.fieldAddr 56 (Operand.tmp 36) 4, type := 0, pos := "shift.go:123", after := #[{ on := 2, ground := Ground.data }], guard := none }) (v := ?_) rfl (by kernel_rfl) (by kernel_rfl) (by kernel_rfl) (fun _ _ _ h => h) (Or.inl ⟨by kernel_rfl, ?_⟩) hHeld ?_
        rotate_left
        · (intro w hSw; (try dsimp only at hSw); go_simp); try with_reducible rfl
        try simp only [Act.put, List.setIfInBounds_toArray, List.set_cons_zero, List.set_cons_succ]
        refine wpAnyH_take (i := 5) (oi := { dst := some 39, op := Op.move (Operand.tmp 0), type := 23, pos := "shift.go:123", after := #[], guard := none }) (v := ?_) rfl (by kernel_rfl) (by kernel_rfl) (by kernel_rfl) (fun _ _ _ h => h) (Or.inl ⟨by kernel_rfl, ?_⟩) hHeld ?_
        rotate_left
        · (intro w hSw; (try dsimp only at hSw); go_simp); try with_reducible rfl
        try simp only [Act.put, List.setIfInBounds_toArray, List.set_cons_zero, List.set_cons_succ]
        refine wpAnyH_take (i := 6) (oi := { dst := some 40, op := Op.nilCheck (Operand.tmp 39), type := 0, pos := "shift.go:123", after := #[{ on := 5, ground := Ground.data }], guard := none }) (v := ?_) rfl (by kernel_rfl) (by kernel_rfl) (by kernel_rfl) (fun _ _ _ h => h) (Or.inl ⟨by kernel_rfl, ?_⟩) hHeld ?_
        rotate_left
        · (intro w hSw; (try dsimp only at hSw); go_simp); try with_reducible rfl
        try simp only [Act.put, List.setIfInBounds_toArray, List.set_cons_zero, List.set_cons_succ]
        refine wpAnyH_take (i := 7) (oi := { dst := some 41, op := Op.fieldAddr 56 (Operand.tmp 40) 4, type := 0, pos := "shift.go:123", after := #[{ on := 6, ground := Ground.data }], guard := none }) (v := ?_) rfl (by kernel_rfl) (by kernel_rfl) (by kernel_rfl) (fun _ _ _ h => h) (Or.inl ⟨by kernel_rfl, ?_⟩) hHeld ?_
        rotate_left
        · (intro w hSw; (try dsimp only at hSw); go_simp); try with_reducible rfl
        try simp only [Act.put, List.setIfInBounds_toArray, List.set_cons_zero, List.set_cons_succ]
        refine wpAnyH_take (i := 10) (oi := { dst := some 44, op := Op.move (Operand.tmp 0), type := 23, pos := "shift.go:123", after := #[], guard := none }) (v := ?_) rfl (by kernel_rfl) (by kernel_rfl) (by kernel_rfl) (fun _ _ _ h => h) (Or.inl ⟨by kernel_rfl, ?_⟩) hHeld ?_
        rotate_left
        · (intro w hSw; (try dsimp only at hSw); go_simp); try with_reducible rfl
        try simp only [Act.put, List.setIfInBounds_toArray, List.set_cons_zero, List.set_cons_succ]
        refine wpAnyH_take (i := 11) (oi := { dst := some 45, op := Op.nilCheck (Operand.tmp 44), type := 0, pos := "shift.go:123", after := #[{ on := 10, ground := Ground.data }], guard := none }) (v := ?_) rfl (by kernel_rfl) (by kernel_rfl) (by kernel_rfl) (fun _ _ _ h => h) (Or.inl ⟨by kernel_rfl, ?_⟩) hHeld ?_
        rotate_left
        · (intro w hSw; (try dsimp only at hSw); go_simp); try with_reducible rfl
        try simp only [Act.put, List.setIfInBounds_toArray, List.set_cons_zero, List.set_cons_succ]
        refine wpAnyH_take (i := 12) (oi := { dst := some 46, op := Op.fieldAddr 56 (Operand.tmp 45) 0, type := 0, pos := "shift.go:123", after := #[{ on := 11, ground := Ground.data }], guard := none }) (v := ?_) rfl (by kernel_rfl) (by kernel_rfl) (by kernel_rfl) (fun _ _ _ h => h) (Or.inl ⟨by kernel_rfl, ?_⟩) hHeld ?_
        rotate_left
        · (intro w hSw; (try dsimp only at hSw); go_simp); try with_reducible rfl
        try simp only [Act.put, List.setIfInBounds_toArray, List.set_cons_zero, List.set_cons_succ]
        refine wpAnyH_take (i := 13) (oi := { dst := some 47, op := Op.load 3 (Operand.tmp 46), type := 3, pos := "shift.go:123", after := #[{ on := 12, ground := Ground.data }], guard := none }) (v := ?_) rfl (by kernel_rfl) (by kernel_rfl) (by kernel_rfl) (fun _ _ _ h => h) (Or.inl ⟨by kernel_rfl, ?_⟩) hHeld ?_
        rotate_left
        · (intro w hSw; (try dsimp only at hSw); go_simp); try with_reducible rfl
        try simp only [Act.put, List.setIfInBounds_toArray, List.set_cons_zero, List.set_cons_succ]
        refine wpAnyH_ready (rs := [4, 8]) (by kernel_rfl) (by simp) (AllReadyH.cons (o := { dst := some 38, op := Op.load 54 (Operand.tmp 37), type := 54, pos := "shift.go:123", after := #[{ on := 3, ground := Ground.data }], guard := none }) rfl (fun K hK => ?_) (AllReadyH.cons (o := { dst := some 42, op := Op.load 54 (Operand.tmp 41), type := 54, pos := "shift.go:123", after := #[{ on := 7, ground := Ground.data }], guard := none }) rfl (fun K hK => ?_) AllReadyH.nil))
        · have hOld := hide hHeld
          clear hHeld
          have c9 := (sh_facts N0.out).1.2.2.2.2.2.2.2.2.2
          go_simp
          clear c9
          refine hK.out _ _ (cell_of_block N0.out 0) (fun hHeld => ?_)
          clear hK K hOld
          try simp only [Act.put, List.setIfInBounds_toArray, List.set_cons_zero, List.set_cons_succ]
          refine wpAnyH_ready (rs := [8]) (by kernel_rfl) (by simp) (AllReadyH.cons (o := { dst := some 42, op := Op.load 54 (Operand.tmp 41), type := 54, pos := "shift.go:123", after := #[{ on := 7, ground := Ground.data }], guard := none }) rfl (fun K hK => ?_) AllReadyH.nil)
          have hOld := hide hHeld
          clear hHeld
          have c9 := (sh_facts N0.out).1.2.2.2.2.2.2.2.2.2
          go_simp
          clear c9
          refine hK.out _ _ (cell_of_block N0.out 0) (fun hHeld => ?_)
          clear hK K hOld
          try simp only [Act.put, List.setIfInBounds_toArray, List.set_cons_zero, List.set_cons_succ]
          refine wpAnyH_take (i := 9) (oi := { dst := some 43, op := Op.call { callee := Callee.builtin Builtin.len, args := #[Operand.tmp 42], argTypes := #[54] }, type := 3, pos := "shift.go:123", after := #[{ on := 8, ground := Ground.data }], guard := none }) (v := ?_) rfl (by kernel_rfl) (by kernel_rfl) (by kernel_rfl) (fun _ _ _ h => h) (Or.inl ⟨by kernel_rfl, ?_⟩) hHeld ?_
          rotate_left
          · (intro w hSw; (try dsimp only at hSw); go_simp); try with_reducible rfl
          try simp only [Act.put, List.setIfInBounds_toArray, List.set_cons_zero, List.set_cons_succ]
          refine wpAnyH_take (i := 14) (oi := { dst := some 48, op := Op.binOp BinOp.sub 3 (Operand.tmp 43) (Operand.tmp 47) 3, type := 3, pos := "shift.go:123", after := #[{ on := 9, ground := Ground.data }, { on := 13, ground := Ground.data }], guard := none }) (v := ?_) rfl (by kernel_rfl) (by kernel_rfl) (by kernel_rfl) (fun _ _ _ h => h) (Or.inl ⟨by kernel_rfl, ?_⟩) hHeld ?_
          rotate_left
          · (intro w hSw; (try dsimp only at hSw); go_simp); try with_reducible rfl
          try simp only [Act.put, List.setIfInBounds_toArray, List.set_cons_zero, List.set_cons_succ]
          refine wpAnyH_take (i := 15) (oi := { dst := some 49, op := Op.call { callee := Callee.builtin Builtin.max, args := #[Operand.tmp 48, Operand.const (Value.int IntKind.i64 0)], argTypes := #[3, 3] }, type := 3, pos := "shift.go:123", after := #[{ on := 14, ground := Ground.data }], guard := none }) (v := ?_) rfl (by kernel_rfl) (by kernel_rfl) (by kernel_rfl) (fun _ _ _ h => h) (Or.inl ⟨by kernel_rfl, ?_⟩) hHeld ?_
          rotate_left
          · (intro w hSw; (try dsimp only at hSw); go_simp); try with_reducible rfl
          try simp only [Act.put, List.setIfInBounds_toArray, List.set_cons_zero, List.set_cons_succ]
          refine wpAnyH_ready (rs := [16]) (by kernel_rfl) (by simp) (AllReadyH.cons (o := { dst := some 50, op := Op.call { callee := Callee.value (Operand.func 16), args := #[Operand.tmp 38, Operand.const (Value.int IntKind.i64 0), Operand.tmp 49], argTypes := #[54, 3, 3] }, type := 54, pos := "shift.go:123", after := #[{ on := 4, ground := Ground.data }, { on := 15, ground := Ground.data }], guard := none }) rfl (fun K hK => ?_) AllReadyH.nil)
          have hOld := hide hHeld
          clear hHeld
          go_simp
          rw [HARG.out]
          refine (HDEL.out _ _ _ OW0.out).mono ?_
          rintro e u16 ⟨rfl, ho, hon, hkt⟩
          have NU := hide ((hon.block p (heap_lt N0.out) HGP.out.symm).trans N0.out)
          have XNU := hide ((hon.block nb (heap_lt XN0.out) HGN.out.symm).trans XN0.out)
          have XRU := hide ((hon.block rb (heap_lt XR0.out) HGR.out.symm).trans XR0.out)
          have KU := hide (K0.out.new ⟨hkt, OnlyL.of_only hon (List.mem_singleton.2 rfl)⟩ (fun r hr => by
            rw [List.mem_singleton.1 hr]
            rcases HGG.out with h | h
            · exact .inl (by rw [h]; simp)
            · exact .inr h))
          have OWU := hide ho
          clear ho hon hkt
          (try go_wp2_with fail)
          refine hK.out _ _ (cell_of_block NU.out 0) (fun hHeld => ?_)
          clear hK K hOld
          try simp only [Act.put, List.setIfInBounds_toArray, List.set_cons_zero, List.set_cons_succ]
          refine wpAnyH_take (i := 17) (oi := { dst := some 51, op := Op.nilCheck (Operand.tmp 34), type := 0, pos := "shift.go:123", after := #[{ on := 0, ground := Ground.data }, { on := 0, ground := Ground.phase }, { on := 1, ground := Ground.phase }, { on := 2, ground := Ground.phase }, { on := 3, ground := Ground.phase }, { on := 4, ground := Ground.phase }, { on := 5, ground := Ground.phase }, { on := 6, ground := Ground.phase }, { on := 7, ground := Ground.phase }, { on := 8, ground := Ground.phase }, { on := 9, ground := Ground.phase }, { on := 10, ground := Ground.phase }, { on := 11, ground := Ground.phase }, { on := 12, ground := Ground.phase }, { on := 13, ground := Ground.phase }, { on := 14, ground := Ground.phase }, { on := 15, ground := Ground.phase }, { on := 16, ground := Ground.phase }], guard := none }) (v := ?_) rfl (by kernel_rfl) (by kernel_rfl) (by kernel_rfl) (fun _ _ _ h => h) (Or.inl ⟨by kernel_rfl, ?_⟩) hHeld ?_
          rotate_left
          · (intro w hSw; (try dsimp only at hSw); go_simp); try with_reducible rfl
          try simp only [Act.put, List.setIfInBounds_toArray, List.set_cons_zero, List.set_cons_succ]
          refine wpAnyH_take (i := 18) (oi := { dst := some 52, op := Op.fieldAddr 56 (Operand.tmp 51) 4, type := 0, pos := "shift.go:123", after := #[{ on := 17, ground := Ground.data }, { on := 0, ground := Ground.phase }, { on := 1, ground := Ground.phase }, { on := 2, ground := Ground.phase }, { on := 3, ground := Ground.phase }, { on := 4, ground := Ground.phase }, { on := 5, ground := Ground.phase }, { on := 6, ground := Ground.phase }, { on := 7, ground := Ground.phase }, { on := 8, ground := Ground.phase }, { on := 9, ground := Ground.phase }, { on := 10, ground := Ground.phase }, { on := 11, ground := Ground.phase }, { on := 12, ground := Ground.phase }, { on := 13, ground := Ground.phase }, { on := 14, ground := Ground.phase }, { on := 15, ground := Ground.phase }, { on := 16, ground := Ground.phase }], guard := none }) (v := ?_) rfl (by kernel_rfl) (by kernel_rfl) (by kernel_rfl) (fun _ _ _ h => h) (Or.inl ⟨by kernel_rfl, ?_⟩) hHeld ?_
          rotate_left
          · (intro w hSw; (try dsimp only at hSw); go_simp); try with_reducible rfl
          try simp only [Act.put, List.setIfInBounds_toArray, List.set_cons_zero, List.set_cons_succ]
          refine wpAnyH_ready (rs := [19]) (by kernel_rfl) (by simp) (AllReadyH.cons (o := { dst := none, op := Op.store 54 (Operand.tmp 52) (Operand.tmp 50), type := 0, pos := "shift.go:123", after := #[{ on := 18, ground := Ground.data }, { on := 16, ground := Ground.data }, { on := 16, ground := Ground.chain }, { on := 0, ground := Ground.phase }, { on := 1, ground := Ground.phase }, { on := 2, ground := Ground.phase }, { on := 3, ground := Ground.phase }, { on := 4, ground := Ground.phase }, { on := 5, ground := Ground.phase }, { on := 6, ground := Ground.phase }, { on := 7, ground := Ground.phase }, { on := 8, ground := Ground.phase }, { on := 9, ground := Ground.phase }, { on := 10, ground := Ground.phase }, { on := 11, ground := Ground.phase }, { on := 12, ground := Ground.phase }, { on := 13, ground := Ground.phase }, { on := 14, ground := Ground.phase }, { on := 15, ground := Ground.phase }, { on := 16, ground := Ground.phase }], guard := none }) rfl (fun K hK => ?_) AllReadyH.nil)
          have hOld := hide hHeld
          clear hHeld
          obtain ⟨⟨c0, c1, c2, c3, c4, c5, c6, c7, c8, c9⟩, ⟨f0, f1, f2, f3, f4, f5, f6, f7, f8, f9⟩⟩ := sh_facts NU.out
          have N3 := hide (show (u16.setCell ⟨p, 9, none⟩ (.slice (some ⟨g, 0, none⟩) R.length cap)).heap[p]? = some (.cells #[.int .i64 keep, .int .i64 next, .bool true, .int .i64 xc, .int .i64 xs, .int .i64 xv, .int .i64 xr, .int .i64 xi, .int .i64 xo, .slice (some ⟨g, 0, none⟩) R.length cap] 56 (0, 0)) from block_setCell NU.out 9 (.slice (some ⟨g, 0, none⟩) R.length cap))
          have K3 := hide (KU.out.set NU.out (by simp) 9 (.slice (some ⟨g, 0, none⟩) R.length cap))
          have XR3 := hide ((block_setCell_other HRP.out 9 (.slice (some ⟨g, 0, none⟩) R.length cap)).trans XRU.out)
          have XN3 := hide ((block_setCell_other HNP.out.1.symm 9 (.slice (some ⟨g, 0, none⟩) R.length cap)).trans XNU.out)
          have OW3 := hide (owns_setOther OWU.out HGP.out 9 (.slice (some ⟨g, 0, none⟩) R.length cap))
          go_simp
          clear c0 c1 c2 c3 c4 c5 c6 c7 c8 c9 f0 f1 f2 f3 f4 f5 f6 f7 f8 f9
          generalize u16.setCell ⟨p, 9, none⟩ (.slice (some ⟨g, 0, none⟩) R.length cap) = u3 at *
          refine hK.out _ _ (cell_of_block N3.out 0) (fun hHeld => ?_)
          clear hK K hOld
          try simp only [Act.put, List.setIfInBounds_toArray, List.set_cons_zero, List.set_cons_succ]
          refine wpAnyH_done (by kernel_rfl) ?_ _
          clear hHeld
          go_wp2_with fail
          go_meet
          exact ⟨N3.out, XN3.out, XR3.out, OW3.out, K3.out⟩
        · have hOld := hide hHeld
          clear hHeld
          have c9 := (sh_facts N0.out).1.2.2.2.2.2.2.2.2.2
          go_simp
          clear c9
          refine hK.out _ _ (cell_of_block N0.out 0) (fun hHeld => ?_)
          clear hK K hOld
          try simp only [Act.put, List.setIfInBounds_toArray, List.set_cons_zero, List.set_cons_succ]
          refine wpAnyH_take (i := 9) (oi := { dst := some 43, op := Op.call { callee := Callee.builtin Builtin.len, args := #[Operand.tmp 42], argTypes := #[54] }, type := 3, pos := "shift.go:123", after := #[{ on := 8, ground := Ground.data }], guard := none }) (v := ?_) rfl (by kernel_rfl) (by kernel_rfl) (by kernel_rfl) (fun _ _ _ h => h) (Or.inl ⟨by kernel_rfl, ?_⟩) hHeld ?_
          rotate_left
          · (intro w hSw; (try dsimp only at hSw); go_simp); try with_reducible rfl
          try simp only [Act.put, List.setIfInBounds_toArray, List.set_cons_zero, List.set_cons_succ]
          refine wpAnyH_take (i := 14) (oi := { dst := some 48, op := Op.binOp BinOp.sub 3 (Operand.tmp 43) (Operand.tmp 47) 3, type := 3, pos := "shift.go:123", after := #[{ on := 9, ground := Ground.data }, { on := 13, ground := Ground.data }], guard := none }) (v := ?_) rfl (by kernel_rfl) (by kernel_rfl) (by kernel_rfl) (fun _ _ _ h => h) (Or.inl ⟨by kernel_rfl, ?_⟩) hHeld ?_
          rotate_left
          · (intro w hSw; (try dsimp only at hSw); go_simp); try with_reducible rfl
          try simp only [Act.put, List.setIfInBounds_toArray, List.set_cons_zero, List.set_cons_succ]
          refine wpAnyH_take (i := 15) (oi := { dst := some 49, op := Op.call { callee := Callee.builtin Builtin.max, args := #[Operand.tmp 48, Operand.const (Value.int IntKind.i64 0)], argTypes := #[3, 3] }, type := 3, pos := "shift.go:123", after := #[{ on := 14, ground := Ground.data }], guard := none }) (v := ?_) rfl (by kernel_rfl) (by kernel_rfl) (by kernel_rfl) (fun _ _ _ h => h) (Or.inl ⟨by kernel_rfl, ?_⟩) hHeld ?_
          rotate_left
          · (intro w hSw; (try dsimp only at hSw); go_simp); try with_reducible rfl
          try simp only [Act.put, List.setIfInBounds_toArray, List.set_cons_zero, List.set_cons_succ]
          refine wpAnyH_ready (rs := [4]) (by kernel_rfl) (by simp) (AllReadyH.cons (o := { dst := some 38, op := Op.load 54 (Operand.tmp 37), type := 54, pos := "shift.go:123", after := #[{ on := 3, ground := Ground.data }], guard := none }) rfl (fun K hK => ?_) AllReadyH.nil)
          have hOld := hide hHeld
          clear hHeld
          have c9 := (sh_facts N0.out).1.2.2.2.2.2.2.2.2.2
          go_simp
          clear c9
          refine hK.out _ _ (cell_of_block N0.out 0) (fun hHeld => ?_)
          clear hK K hOld
          try simp only [Act.put, List.setIfInBounds_toArray, List.set_cons_zero, List.set_cons_succ]
          refine wpAnyH_ready (rs := [16]) (by kernel_rfl) (by simp) (AllReadyH.cons (o := { dst := some 50, op := Op.call { callee := Callee.value (Operand.func 16), args := #[Operand.tmp 38, Operand.const (Value.int IntKind.i64 0), Operand.tmp 49], argTypes := #[54, 3, 3] }, type := 54, pos := "shift.go:123", after := #[{ on := 4, ground := Ground.data }, { on := 15, ground := Ground.data }], guard := none }) rfl (fun K hK => ?_) AllReadyH.nil)
          have hOld := hide hHeld
          clear hHeld
          go_simp
          rw [HARG.out]
          refine (HDEL.out _ _ _ OW0.out).mono ?_
          rintro e u16 ⟨rfl, ho, hon, hkt⟩
          have NU := hide ((hon.block p (heap_lt N0.out) HGP.out.symm).trans N0.out)
          have XNU := hide ((hon.block nb (heap_lt XN0.out) HGN.out.symm).trans XN0.out)
          have XRU := hide ((hon.block rb (heap_lt XR0.out) HGR.out.symm).trans XR0.out)
          have KU := hide (K0.out.new ⟨hkt, OnlyL.of_only hon (List.mem_singleton.2 rfl)⟩ (fun r hr => by
            rw [List.mem_singleton.1 hr]
            rcases HGG.out with h | h
            · exact .inl (by rw [h]; simp)
            · exact .inr h))
          have OWU := hide ho
          clear ho hon hkt
          (try go_wp2_with fail)
          refine hK.out _ _ (cell_of_block NU.out 0) (fun hHeld => ?_)
          clear hK K hOld
          try simp only [Act.put, List.setIfInBounds_toArray, List.set_cons_zero, List.set_cons_succ]
          refine wpAnyH_take (i := 17) (oi := { dst := some 51, op := Op.nilCheck (Operand.tmp 34), type := 0, pos := "shift.go:123", after := #[{ on := 0, ground := Ground.data }, { on := 0, ground := Ground.phase }, { on := 1, ground := Ground.phase }, { on := 2, ground := Ground.phase }, { on := 3, ground := Ground.phase }, { on := 4, ground := Ground.phase }, { on := 5, ground := Ground.phase }, { on := 6, ground := Ground.phase }, { on := 7, ground := Ground.phase }, { on := 8, ground := Ground.phase }, { on := 9, ground := Ground.phase }, { on := 10, ground := Ground.phase }, { on := 11, ground := Ground.phase }, { on := 12, ground := Ground.phase }, { on := 13, ground := Ground.phase }, { on := 14, ground := Ground.phase }, { on := 15, ground := Ground.phase }, { on := 16, ground := Ground.phase }], guard := none }) (v := ?_) rfl (by kernel_rfl) (by kernel_rfl) (by kernel_rfl) (fun _ _ _ h => h) (Or.inl ⟨by kernel_rfl, ?_⟩) hHeld ?_
          rotate_left
          · (intro w hSw; (try dsimp only at hSw); go_simp); try with_reducible rfl
          try simp only [Act.put, List.setIfInBounds_toArray, List.set_cons_zero, List.set_cons_succ]
          refine wpAnyH_take (i := 18) (oi := { dst := some 52, op := Op.fieldAddr 56 (Operand.tmp 51) 4, type := 0, pos := "shift.go:123", after := #[{ on := 17, ground := Ground.data }, { on := 0, ground := Ground.phase }, { on := 1, ground := Ground.phase }, { on := 2, ground := Ground.phase }, { on := 3, ground := Ground.phase }, { on := 4, ground := Ground.phase }, { on := 5, ground := Ground.phase }, { on := 6, ground := Ground.phase }, { on := 7, ground := Ground.phase }, { on := 8, ground := Ground.phase }, { on := 9, ground := Ground.phase }, { on := 10, ground := Ground.phase }, { on := 11, ground := Ground.phase }, { on := 12, ground := Ground.phase }, { on := 13, ground := Ground.phase }, { on := 14, ground := Ground.phase }, { on := 15, ground := Ground.phase }, { on := 16, ground := Ground.phase }], guard := none }) (v := ?_) rfl (by kernel_rfl) (by kernel_rfl) (by kernel_rfl) (fun _ _ _ h => h) (Or.inl ⟨by kernel_rfl, ?_⟩) hHeld ?_
          rotate_left
          · (intro w hSw; (try dsimp only at hSw); go_simp); try with_reducible rfl
          try simp only [Act.put, List.setIfInBounds_toArray, List.set_cons_zero, List.set_cons_succ]
          refine wpAnyH_ready (rs := [19]) (by kernel_rfl) (by simp) (AllReadyH.cons (o := { dst := none, op := Op.store 54 (Operand.tmp 52) (Operand.tmp 50), type := 0, pos := "shift.go:123", after := #[{ on := 18, ground := Ground.data }, { on := 16, ground := Ground.data }, { on := 16, ground := Ground.chain }, { on := 0, ground := Ground.phase }, { on := 1, ground := Ground.phase }, { on := 2, ground := Ground.phase }, { on := 3, ground := Ground.phase }, { on := 4, ground := Ground.phase }, { on := 5, ground := Ground.phase }, { on := 6, ground := Ground.phase }, { on := 7, ground := Ground.phase }, { on := 8, ground := Ground.phase }, { on := 9, ground := Ground.phase }, { on := 10, ground := Ground.phase }, { on := 11, ground := Ground.phase }, { on := 12, ground := Ground.phase }, { on := 13, ground := Ground.phase }, { on := 14, ground := Ground.phase }, { on := 15, ground := Ground.phase }, { on := 16, ground := Ground.phase }], guard := none }) rfl (fun K hK => ?_) AllReadyH.nil)
          have hOld := hide hHeld
          clear hHeld
          obtain ⟨⟨c0, c1, c2, c3, c4, c5, c6, c7, c8, c9⟩, ⟨f0, f1, f2, f3, f4, f5, f6, f7, f8, f9⟩⟩ := sh_facts NU.out
          have N3 := hide (show (u16.setCell ⟨p, 9, none⟩ (.slice (some ⟨g, 0, none⟩) R.length cap)).heap[p]? = some (.cells #[.int .i64 keep, .int .i64 next, .bool true, .int .i64 xc, .int .i64 xs, .int .i64 xv, .int .i64 xr, .int .i64 xi, .int .i64 xo, .slice (some ⟨g, 0, none⟩) R.length cap] 56 (0, 0)) from block_setCell NU.out 9 (.slice (some ⟨g, 0, none⟩) R.length cap))
          have K3 := hide (KU.out.set NU.out (by simp) 9 (.slice (some ⟨g, 0, none⟩) R.length cap))
          have XR3 := hide ((block_setCell_other HRP.out 9 (.slice (some ⟨g, 0, none⟩) R.length cap)).trans XRU.out)
          have XN3 := hide ((block_setCell_other HNP.out.1.symm 9 (.slice (some ⟨g, 0, none⟩) R.length cap)).trans XNU.out)
          have OW3 := hide (owns_setOther OWU.out HGP.out 9 (.slice (some ⟨g, 0, none⟩) R.length cap))
          go_simp
          clear c0 c1 c2 c3 c4 c5 c6 c7 c8 c9 f0 f1 f2 f3 f4 f5 f6 f7 f8 f9
          generalize u16.setCell ⟨p, 9, none⟩ (.slice (some ⟨g, 0, none⟩) R.length cap) = u3 at *
          refine hK.out _ _ (cell_of_block N3.out 0) (fun hHeld => ?_)
          clear hK K hOld
          try simp only [Act.put, List.setIfInBounds_toArray, List.set_cons_zero, List.set_cons_succ]
          refine wpAnyH_done (by kernel_rfl) ?_ _
          clear hHeld
          go_wp2_with fail
          go_meet
          exact ⟨N3.out, XN3.out, XR3.out, OW3.out, K3.out⟩
      case rest =>
        obtain ⟨hN, hX, hR, hO, hk⟩ := hcut
        clear N0 XN0 XR0 OW0 K0
        have N0 := hide hN
        have XN0 := hide hX
        have XR0 := hide hR
        have OW0 := hide hO
        have K0 := hide hk
        clear hN hX hR hO hk
        obtain ⟨w4, rfl⟩ : ∃ w4 : World, w4 = wc := ⟨_, rfl⟩
        obtain ⟨⟨c0, c1, c2, c3, c4, c5, c6, c7, c8, c9⟩, ⟨f0, f1, f2, f3, f4, f5, f6, f7, f8, f9⟩⟩ := sh_facts N0.out
        go_upto_region 9 with (fail)
        clear c0 c1 c2 c3 c4 c5 c6 c7 c8 c9 f0 f1 f2 f3 f4 f5 f6 f7 f8 f9
        have Hd2 := hide (show (w4.setCell ⟨p, 2, none⟩ (.bool false)).heap[p]? = some (.cells #[.int .i64 keep, .int .i64 next, .bool false, .int .i64 xc, .int .i64 xs, .int .i64 xv, .int .i64 xr, .int .i64 xi, .int .i64 xo, .slice (some ⟨g, 0, none⟩) R.length cap] 56 (0, 0)) from block_setCell N0.out 2 (.bool false))
        have Kd2 := hide (K0.out.set N0.out (by simp) 2 (.bool false))
        have XRd2 := hide ((block_setCell_other HRP.out 2 (.bool false)).trans XR0.out)
        have XNd2 := hide ((block_setCell_other HNP.out.1.symm 2 (.bool false)).trans XN0.out)
        have OWd2 := hide (owns_setOther OW0.out HGP.out 2 (.bool false))
        generalize w4.setCell ⟨p, 2, none⟩ (.bool false) = wd2 at *
        have Hd3 := hide (show (wd2.setCell ⟨p, 3, none⟩ (.int .i64 0)).heap[p]? = some (.cells #[.int .i64 keep, .int .i64 next, .bool false, .int .i64 0, .int .i64 xs, .int .i64 xv, .int .i64 xr, .int .i64 xi, .int .i64 xo, .slice (some ⟨g, 0, none⟩) R.length cap] 56 (0, 0)) from block_setCell Hd2.out 3 (.int .i64 0))
        have Kd3 := hide (Kd2.out.set Hd2.out (by simp) 3 (.int .i64 0))
        have XRd3 := hide ((block_setCell_other HRP.out 3 (.int .i64 0)).trans XRd2.out)
        have XNd3 := hide ((block_setCell_other HNP.out.1.symm 3 (.int .i64 0)).trans XNd2.out)
        have OWd3 := hide (owns_setOther OWd2.out HGP.out 3 (.int .i64 0))
        generalize wd2.setCell ⟨p, 3, none⟩ (.int .i64 0) = wd3 at *
        have Hd4 := hide (show (wd3.setCell ⟨p, 4, none⟩ (.int .i64 0)).heap[p]? = some (.cells #[.int .i64 keep, .int .i64 next, .bool false, .int .i64 0, .int .i64 0, .int .i64 xv, .int .i64 xr, .int .i64 xi, .int .i64 xo, .slice (some ⟨g, 0, none⟩) R.length cap] 56 (0, 0)) from block_setCell Hd3.out 4 (.int .i64 0))
        have Kd4 := hide (Kd3.out.set Hd3.out (by simp) 4 (.int .i64 0))
        have XRd4 := hide ((block_setCell_other HRP.out 4 (.int .i64 0)).trans XRd3.out)
        have XNd4 := hide ((block_setCell_other HNP.out.1.symm 4 (.int .i64 0)).trans XNd3.out)
        have OWd4 := hide (owns_setOther OWd3.out HGP.out 4 (.int .i64 0))
        generalize wd3.setCell ⟨p, 4, none⟩ (.int .i64 0) = wd4 at *
        have Hd5 := hide (show (wd4.setCell ⟨p, 5, none⟩ (.int .i64 0)).heap[p]? = some (.cells #[.int .i64 keep, .int .i64 next, .bool false, .int .i64 0, .int .i64 0, .int .i64 0, .int .i64 xr, .int .i64 xi, .int .i64 xo, .slice (some ⟨g, 0, none⟩) R.length cap] 56 (0, 0)) from block_setCell Hd4.out 5 (.int .i64 0))
        have Kd5 := hide (Kd4.out.set Hd4.out (by simp) 5 (.int .i64 0))
        have XRd5 := hide ((block_setCell_other HRP.out 5 (.int .i64 0)).trans XRd4.out)
        have XNd5 := hide ((block_setCell_other HNP.out.1.symm 5 (.int .i64 0)).trans XNd4.out)
        have OWd5 := hide (owns_setOther OWd4.out HGP.out 5 (.int .i64 0))
        generalize wd4.setCell ⟨p, 5, none⟩ (.int .i64 0) = wd5 at *
        have Hd6 := hide (show (wd5.setCell ⟨p, 6, none⟩ (.int .i64 0)).heap[p]? = some (.cells #[.int .i64 keep, .int .i64 next, .bool false, .int .i64 0, .int .i64 0, .int .i64 0, .int .i64 0, .int .i64 xi, .int .i64 xo, .slice (some ⟨g, 0, none⟩) R.length cap] 56 (0, 0)) from block_setCell Hd5.out 6 (.int .i64 0))
        have Kd6 := hide (Kd5.out.set Hd5.out (by simp) 6 (.int .i64 0))
        have XRd6 := hide ((block_setCell_other HRP.out 6 (.int .i64 0)).trans XRd5.out)
        have XNd6 := hide ((block_setCell_other HNP.out.1.symm 6 (.int .i64 0)).trans XNd5.out)
        have OWd6 := hide (owns_setOther OWd5.out HGP.out 6 (.int .i64 0))
        generalize wd5.setCell ⟨p, 6, none⟩ (.int .i64 0) = wd6 at *
        have Hd7 := hide (show (wd6.setCell ⟨p, 7, none⟩ (.int .i64 0)).heap[p]? = some (.cells #[.int .i64 keep, .int .i64 next, .bool false, .int .i64 0, .int .i64 0, .int .i64 0, .int .i64 0, .int .i64 0, .int .i64 xo, .slice (some ⟨g, 0, none⟩) R.length cap] 56 (0, 0)) from block_setCell Hd6.out 7 (.int .i64 0))
        have Kd7 := hide (Kd6.out.set Hd6.out (by simp) 7 (.int .i64 0))
        have XRd7 := hide ((block_setCell_other HRP.out 7 (.int .i64 0)).trans XRd6.out)
        have XNd7 := hide ((block_setCell_other HNP.out.1.symm 7 (.int .i64 0)).trans XNd6.out)
        have OWd7 := hide (owns_setOther OWd6.out HGP.out 7 (.int .i64 0))
        generalize wd6.setCell ⟨p, 7, none⟩ (.int .i64 0) = wd7 at *
        have Hd8 := hide (show (wd7.setCell ⟨p, 8, none⟩ (.int .i64 0)).heap[p]? = some (.cells #[.int .i64 keep, .int .i64 next, .bool false, .int .i64 0, .int .i64 0, .int .i64 0, .int .i64 0, .int .i64 0, .int .i64 0, .slice (some ⟨g, 0, none⟩) R.length cap] 56 (0, 0)) from block_setCell Hd7.out 8 (.int .i64 0))
        have Kd8 := hide (Kd7.out.set Hd7.out (by simp) 8 (.int .i64 0))
        have XRd8 := hide ((block_setCell_other HRP.out 8 (.int .i64 0)).trans XRd7.out)
        have XNd8 := hide ((block_setCell_other HNP.out.1.symm 8 (.int .i64 0)).trans XNd7.out)
        have OWd8 := hide (owns_setOther OWd7.out HGP.out 8 (.int .i64 0))
        generalize wd7.setCell ⟨p, 8, none⟩ (.int .i64 0) = wd8 at *
        obtain ⟨⟨g0, g1, g2, g3, g4, g5⟩, -⟩ := six_facts XNd8.out
        go_still_tail 3, (by kernel_rfl)
        change wpList _ _ _ _ _ wd8.drew
        clear g0 g1 g2 g3 g4 g5
        have NZ := hide (show wd8.drew.heap[p]? = _ from Hd8.out)
        have XRZ := hide (show wd8.drew.heap[rb]? = _ from XRd8.out)
        have OWZ := hide (show wd8.drew.ownsRow B 34 6 (.slice (some ⟨g, 0, none⟩) R.length cap) R.length (R.flatMap totC) from OWd8.out)
        have KZ := hide Kd8.out.drew
        clear Hd8 XRd8 XNd8 OWd8 Kd8
        generalize wd8.drew = wz at *
        obtain ⟨⟨g0, g1, g2, g3, g4, g5⟩, ⟨q0, q1, q2, q3, q4, q5⟩⟩ := six_facts XRZ.out
        go_wp2_with fail
        clear g0 g1 g2 g3 g4 g5 q0 q1 q2 q3 q4 q5
        have Hf0 := hide (show (wz.setCell ⟨rb, 0, none⟩ (.int .i64 xc)).heap[rb]? = some (.cells #[.int .i64 xc, .int .i64 0, .int .i64 0, .int .i64 0, .int .i64 0, .int .i64 0] 34 (0, 0)) from block_setCell XRZ.out 0 (.int .i64 xc))
        have Kf0 := hide (KZ.out.setNew XRZ.out (by decide) HBrb.out 0 (.int .i64 xc))
        have Nf0 := hide ((block_setCell_other HRP.out.symm 0 (.int .i64 xc)).trans NZ.out)
        have OWf0 := hide (owns_setOther OWZ.out HGR.out 0 (.int .i64 xc))
        generalize wz.setCell ⟨rb, 0, none⟩ (.int .i64 xc) = wf0 at *
        have Hf1 := hide (show (wf0.setCell ⟨rb, 1, none⟩ (.int .i64 xs)).heap[rb]? = some (.cells #[.int .i64 xc, .int .i64 xs, .int .i64 0, .int .i64 0, .int .i64 0, .int .i64 0] 34 (0, 0)) from block_setCell Hf0.out 1 (.int .i64 xs))
        have Kf1 := hide (Kf0.out.setNew Hf0.out (by decide) HBrb.out 1 (.int .i64 xs))
        have Nf1 := hide ((block_setCell_other HRP.out.symm 1 (.int .i64 xs)).trans Nf0.out)
        have OWf1 := hide (owns_setOther OWf0.out HGR.out 1 (.int .i64 xs))
        generalize wf0.setCell ⟨rb, 1, none⟩ (.int .i64 xs) = wf1 at *
        have Hf2 := hide (show (wf1.setCell ⟨rb, 2, none⟩ (.int .i64 xv)).heap[rb]? = some (.cells #[.int .i64 xc, .int .i64 xs, .int .i64 xv, .int .i64 0, .int .i64 0, .int .i64 0] 34 (0, 0)) from block_setCell Hf1.out 2 (.int .i64 xv))
        have Kf2 := hide (Kf1.out.setNew Hf1.out (by decide) HBrb.out 2 (.int .i64 xv))
        have Nf2 := hide ((block_setCell_other HRP.out.symm 2 (.int .i64 xv)).trans Nf1.out)
        have OWf2 := hide (owns_setOther OWf1.out HGR.out 2 (.int .i64 xv))
        generalize wf1.setCell ⟨rb, 2, none⟩ (.int .i64 xv) = wf2 at *
        have Hf3 := hide (show (wf2.setCell ⟨rb, 3, none⟩ (.int .i64 xr)).heap[rb]? = some (.cells #[.int .i64 xc, .int .i64 xs, .int .i64 xv, .int .i64 xr, .int .i64 0, .int .i64 0] 34 (0, 0)) from block_setCell Hf2.out 3 (.int .i64 xr))
        have Kf3 := hide (Kf2.out.setNew Hf2.out (by decide) HBrb.out 3 (.int .i64 xr))
        have Nf3 := hide ((block_setCell_other HRP.out.symm 3 (.int .i64 xr)).trans Nf2.out)
        have OWf3 := hide (owns_setOther OWf2.out HGR.out 3 (.int .i64 xr))
        generalize wf2.setCell ⟨rb, 3, none⟩ (.int .i64 xr) = wf3 at *
        have Hf4 := hide (show (wf3.setCell ⟨rb, 4, none⟩ (.int .i64 xi)).heap[rb]? = some (.cells #[.int .i64 xc, .int .i64 xs, .int .i64 xv, .int .i64 xr, .int .i64 xi, .int .i64 0] 34 (0, 0)) from block_setCell Hf3.out 4 (.int .i64 xi))
        have Kf4 := hide (Kf3.out.setNew Hf3.out (by decide) HBrb.out 4 (.int .i64 xi))
        have Nf4 := hide ((block_setCell_other HRP.out.symm 4 (.int .i64 xi)).trans Nf3.out)
        have OWf4 := hide (owns_setOther OWf3.out HGR.out 4 (.int .i64 xi))
        generalize wf3.setCell ⟨rb, 4, none⟩ (.int .i64 xi) = wf4 at *
        have Hf5 := hide (show (wf4.setCell ⟨rb, 5, none⟩ (.int .i64 xo)).heap[rb]? = some (.cells #[.int .i64 xc, .int .i64 xs, .int .i64 xv, .int .i64 xr, .int .i64 xi, .int .i64 xo] 34 (0, 0)) from block_setCell Hf4.out 5 (.int .i64 xo))
        have Kf5 := hide (Kf4.out.setNew Hf4.out (by decide) HBrb.out 5 (.int .i64 xo))
        have Nf5 := hide ((block_setCell_other HRP.out.symm 5 (.int .i64 xo)).trans Nf4.out)
        have OWf5 := hide (owns_setOther OWf4.out HGR.out 5 (.int .i64 xo))
        generalize wf4.setCell ⟨rb, 5, none⟩ (.int .i64 xo) = wf5 at *
        (try simp only [Exit.inBlock, Exit.then])
        refine bodyPost_ret (res_tct (P := Tryd.prog) rfl _ wf5 rb 34 34 #[.int .i64 xc, .int .i64 xs, .int .i64 xv, .int .i64 xr, .int .i64 xi, .int .i64 xo] (0, 0) _ rfl Hf5.out Tryd.underlying34 rfl (by kernel_rfl)) rfl ?_
        refine ⟨.slice (some ⟨g, 0, none⟩) R.length cap, rfl, ?_, Kf5.out, fun g' hg' => by cases hg'; exact HGG.out⟩
        rw [HEM.out]
        exact ⟨Nf5.out, OWf5.out, HLO.out, HEO.out⟩
theorem shend_any (B p : Nat) (M : ShM) (V : Value) (w : World) (hB : B ≤ w.heap.size) (h : ShIs w B p M V) : Calls Tryd.prog 7 #[.pointer (some ⟨p, 0, none⟩)] w (SEndIs B p M V w) := by
  obtain ⟨keep, next, op, ⟨xc, xs, xv, xr, xi, xo⟩, L⟩ := M
  cases op with
  | true => exact shend_yes B p keep next xc xs xv xr xi xo L V w hB h
  | false => exact shend_no B p keep next xc xs xv xr xi xo L V w h
end Go.Proofs.YtnnggchkdffpnaaDoor
