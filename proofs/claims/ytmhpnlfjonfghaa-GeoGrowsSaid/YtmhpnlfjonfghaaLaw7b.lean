/-
  Layer 7: GeoChecks returns true at every config.
-/
import Derived.Test.YtmhpnlfjonfghaaLaw7
namespace Go.Proofs.Ytmhpnlfjonfghaa
set_option linter.unusedSimpArgs false
set_option linter.unusedVariables false
open Go.RowKit Go.WideShapes Go.ChangeShapes Go.ChangeAt

theorem keep14 {w0 w w' : World} {n m : Nat} {b p s sp lo ba le : Int} (h : (w.cell? ⟨n, 0, none⟩ = some (.int .i64 b) ∧ w.cell? ⟨n, 1, none⟩ = some (.int .i64 p) ∧ w.cell? ⟨n, 2, none⟩ = some (.int .i64 s) ∧ w.cell? ⟨n, 3, none⟩ = some (.int .i64 sp) ∧ w.cell? ⟨n, 4, none⟩ = some (.int .i64 lo) ∧ w.cell? ⟨n, 5, none⟩ = some (.int .i64 ba) ∧ w.cell? ⟨n, 6, none⟩ = some (.int .i64 le)) ∧ (w.cell? ⟨m, 0, none⟩ = some (.int .i64 b) ∧ w.cell? ⟨m, 1, none⟩ = some (.int .i64 p) ∧ w.cell? ⟨m, 2, none⟩ = some (.int .i64 s) ∧ w.cell? ⟨m, 3, none⟩ = some (.int .i64 sp) ∧ w.cell? ⟨m, 4, none⟩ = some (.int .i64 lo) ∧ w.cell? ⟨m, 5, none⟩ = some (.int .i64 ba) ∧ w.cell? ⟨m, 6, none⟩ = some (.int .i64 le)) ∧ Below (m + 1) w0 w) (hn : n < m) (hz : w0.heap.size = m + 1) (hb : Below w.heap.size w w') : (w'.cell? ⟨n, 0, none⟩ = some (.int .i64 b) ∧ w'.cell? ⟨n, 1, none⟩ = some (.int .i64 p) ∧ w'.cell? ⟨n, 2, none⟩ = some (.int .i64 s) ∧ w'.cell? ⟨n, 3, none⟩ = some (.int .i64 sp) ∧ w'.cell? ⟨n, 4, none⟩ = some (.int .i64 lo) ∧ w'.cell? ⟨n, 5, none⟩ = some (.int .i64 ba) ∧ w'.cell? ⟨n, 6, none⟩ = some (.int .i64 le)) ∧ (w'.cell? ⟨m, 0, none⟩ = some (.int .i64 b) ∧ w'.cell? ⟨m, 1, none⟩ = some (.int .i64 p) ∧ w'.cell? ⟨m, 2, none⟩ = some (.int .i64 s) ∧ w'.cell? ⟨m, 3, none⟩ = some (.int .i64 sp) ∧ w'.cell? ⟨m, 4, none⟩ = some (.int .i64 lo) ∧ w'.cell? ⟨m, 5, none⟩ = some (.int .i64 ba) ∧ w'.cell? ⟨m, 6, none⟩ = some (.int .i64 le)) ∧ Below (m + 1) w0 w' := by
  obtain ⟨⟨a0, a1, a2, a3, a4, a5, a6⟩, ⟨b0, b1, b2, b3, b4, b5, b6⟩, h7⟩ := h
  have hm : m < w.heap.size := by have := h7.size; omega
  have hn' : n < w.heap.size := by omega
  exact ⟨⟨cell_keep a0 hn' hb, cell_keep a1 hn' hb, cell_keep a2 hn' hb, cell_keep a3 hn' hb, cell_keep a4 hn' hb, cell_keep a5 hn' hb, cell_keep a6 hn' hb⟩,
    ⟨cell_keep b0 hm hb, cell_keep b1 hm hb, cell_keep b2 hm hb, cell_keep b3 hm hb, cell_keep b4 hm hb, cell_keep b5 hm hb, cell_keep b6 hm hb⟩, h7.trans (hb.mono (by omega))⟩
theorem drew14 {w0 w : World} {n m : Nat} {b p s sp lo ba le : Int} (h : (w.cell? ⟨n, 0, none⟩ = some (.int .i64 b) ∧ w.cell? ⟨n, 1, none⟩ = some (.int .i64 p) ∧ w.cell? ⟨n, 2, none⟩ = some (.int .i64 s) ∧ w.cell? ⟨n, 3, none⟩ = some (.int .i64 sp) ∧ w.cell? ⟨n, 4, none⟩ = some (.int .i64 lo) ∧ w.cell? ⟨n, 5, none⟩ = some (.int .i64 ba) ∧ w.cell? ⟨n, 6, none⟩ = some (.int .i64 le)) ∧ (w.cell? ⟨m, 0, none⟩ = some (.int .i64 b) ∧ w.cell? ⟨m, 1, none⟩ = some (.int .i64 p) ∧ w.cell? ⟨m, 2, none⟩ = some (.int .i64 s) ∧ w.cell? ⟨m, 3, none⟩ = some (.int .i64 sp) ∧ w.cell? ⟨m, 4, none⟩ = some (.int .i64 lo) ∧ w.cell? ⟨m, 5, none⟩ = some (.int .i64 ba) ∧ w.cell? ⟨m, 6, none⟩ = some (.int .i64 le)) ∧ Below (m + 1) w0 w) : (w.drew.cell? ⟨n, 0, none⟩ = some (.int .i64 b) ∧ w.drew.cell? ⟨n, 1, none⟩ = some (.int .i64 p) ∧ w.drew.cell? ⟨n, 2, none⟩ = some (.int .i64 s) ∧ w.drew.cell? ⟨n, 3, none⟩ = some (.int .i64 sp) ∧ w.drew.cell? ⟨n, 4, none⟩ = some (.int .i64 lo) ∧ w.drew.cell? ⟨n, 5, none⟩ = some (.int .i64 ba) ∧ w.drew.cell? ⟨n, 6, none⟩ = some (.int .i64 le)) ∧ (w.drew.cell? ⟨m, 0, none⟩ = some (.int .i64 b) ∧ w.drew.cell? ⟨m, 1, none⟩ = some (.int .i64 p) ∧ w.drew.cell? ⟨m, 2, none⟩ = some (.int .i64 s) ∧ w.drew.cell? ⟨m, 3, none⟩ = some (.int .i64 sp) ∧ w.drew.cell? ⟨m, 4, none⟩ = some (.int .i64 lo) ∧ w.drew.cell? ⟨m, 5, none⟩ = some (.int .i64 ba) ∧ w.drew.cell? ⟨m, 6, none⟩ = some (.int .i64 le)) ∧ Below (m + 1) w0 w.drew := by
  obtain ⟨⟨a0, a1, a2, a3, a4, a5, a6⟩, ⟨b0, b1, b2, b3, b4, b5, b6⟩, h7⟩ := h
  exact ⟨⟨a0, a1, a2, a3, a4, a5, a6⟩, ⟨b0, b1, b2, b3, b4, b5, b6⟩, h7.drew⟩
theorem start14 {w w1 w0 : World} {n m : Nat} {b p s sp lo ba le : Int} (hn : w.heap.size = n) (hm : w1.heap.size = m) (hb : Below (w.alloc (.cells (conf b p s sp lo ba le) 23)).heap.size (w.alloc (.cells (conf b p s sp lo ba le) 23)) w1)
    (hw0 : w0 = w1.alloc (.cells (conf b p s sp lo ba le) 27)) : ((w0.cell? ⟨n, 0, none⟩ = some (.int .i64 b) ∧ w0.cell? ⟨n, 1, none⟩ = some (.int .i64 p) ∧ w0.cell? ⟨n, 2, none⟩ = some (.int .i64 s) ∧ w0.cell? ⟨n, 3, none⟩ = some (.int .i64 sp) ∧ w0.cell? ⟨n, 4, none⟩ = some (.int .i64 lo) ∧ w0.cell? ⟨n, 5, none⟩ = some (.int .i64 ba) ∧ w0.cell? ⟨n, 6, none⟩ = some (.int .i64 le)) ∧ (w0.cell? ⟨m, 0, none⟩ = some (.int .i64 b) ∧ w0.cell? ⟨m, 1, none⟩ = some (.int .i64 p) ∧ w0.cell? ⟨m, 2, none⟩ = some (.int .i64 s) ∧ w0.cell? ⟨m, 3, none⟩ = some (.int .i64 sp) ∧ w0.cell? ⟨m, 4, none⟩ = some (.int .i64 lo) ∧ w0.cell? ⟨m, 5, none⟩ = some (.int .i64 ba) ∧ w0.cell? ⟨m, 6, none⟩ = some (.int .i64 le)) ∧ Below (m + 1) w0 w0) ∧ n < m ∧ w0.heap.size = m + 1 ∧ Below n w w0 := by
  subst hn hm hw0
  obtain ⟨hc, _⟩ := bcell hb
  have hs := hb.size
  simp at hs
  have h1 : w.heap.size < w1.heap.size := by omega
  have hq : ∀ o, (w1.alloc (.cells (conf b p s sp lo ba le) 27)).cell? ⟨w.heap.size, o, none⟩ = (w.alloc (.cells (conf b p s sp lo ba le) 23)).cell? ⟨w.heap.size, o, none⟩ := fun o => by
    rw [← hc _ _ (by simp), World.cell?_alloc_lt _ _ _ (by simp; omega)]
  refine ⟨⟨?_, ?_, Below.refl _ _⟩, h1, by simp, (((Below.refl _ _).alloc (Nat.le_refl _) _).trans (hb.mono (by simp))).trans ((Below.refl _ _).alloc (by omega) _)⟩
  · refine ⟨?_, ?_, ?_, ?_, ?_, ?_, ?_⟩ <;> (rw [hq]; simp [World.cell?_alloc_new, conf])
  · refine ⟨?_, ?_, ?_, ?_, ?_, ?_, ?_⟩ <;> simp [World.cell?_alloc_new, conf]

set_option maxRecDepth 100000 in
set_option maxHeartbeats 2000000 in
theorem geoChecks_walk (v : Value) (hv : ∃ xs : List Int, xs.length = 7 ∧ v = .agg (xs.map (Value.int .i64)).toArray ∧ ∀ x ∈ xs, (Lit.int .i64 x).wf = true) (w : World) :
    Calls Try.prog 3 #[v] w fun e w' => e = .returned (.bool true) ∧ Below w.heap.size w w' := by
  obtain ⟨xs, hl, rfl, _⟩ := hv
  match xs, hl with
  | [b, p, s, sp, lo, ba, le], _ =>
  have G0 := hide (fun W => of7 b p s sp lo ba le W)
  have g1 := fun W => check_any b p s sp lo ba le W
  have g2 := fun W => refCheck_any b p s sp lo ba le W
  have g3 := fun W => work_any b p s sp lo ba le W
  have g4 := fun W => refWork_any b p s sp lo ba le W
  generalize checkZ b p s sp lo ba le = Z at *
  generalize workZ b p s sp lo ba le = V at *
  have hst := fun w1 w0 n m => @start14 w w1 w0 n m b p s sp lo ba le
  unfold conf at *
  have G1 := hide g1
  have G2 := hide g2
  have G3 := hide g3
  have G4 := hide g4
  have HST := hide hst
  clear g1 g2 g3 g4 hst
  show Calls _ _ #[.agg #[.int .i64 b, .int .i64 p, .int .i64 s, .int .i64 sp, .int .i64 lo, .int .i64 ba, .int .i64 le]] _ _
  go_enter Try.func3, Try.ntmps3
  go_wp2_with fail
  refine (G0.out _).mono ?_
  rintro e w1 ⟨rfl, hb1⟩
  go_wp2_with fail
  generalize hn : w.heap.size = n
  generalize hm : w1.heap.size = m
  obtain ⟨w0, hw0⟩ : ∃ w0 : World, w0 = w1.alloc (.cells #[.int .i64 b, .int .i64 p, .int .i64 s, .int .i64 sp, .int .i64 lo, .int .i64 ba, .int .i64 le] 27) := ⟨_, rfl⟩
  obtain ⟨hS, hnm, hz0, hbw⟩ := HST.out _ _ _ _ hn hm hb1 hw0
  rw [← hw0]
  have Hz0 := hide hz0
  have Hn := hide hnm
  have HN := hide hn
  have HS := hide hS
  have HB := hide hbw
  clear hw0 hz0 hn hm hS hnm hb1 hbw
  refine wp_region_held_drew (S := (fun W => (W.cell? ⟨n, 0, none⟩ = some (.int .i64 b) ∧ W.cell? ⟨n, 1, none⟩ = some (.int .i64 p) ∧ W.cell? ⟨n, 2, none⟩ = some (.int .i64 s) ∧ W.cell? ⟨n, 3, none⟩ = some (.int .i64 sp) ∧ W.cell? ⟨n, 4, none⟩ = some (.int .i64 lo) ∧ W.cell? ⟨n, 5, none⟩ = some (.int .i64 ba) ∧ W.cell? ⟨n, 6, none⟩ = some (.int .i64 le)) ∧ (W.cell? ⟨m, 0, none⟩ = some (.int .i64 b) ∧ W.cell? ⟨m, 1, none⟩ = some (.int .i64 p) ∧ W.cell? ⟨m, 2, none⟩ = some (.int .i64 s) ∧ W.cell? ⟨m, 3, none⟩ = some (.int .i64 sp) ∧ W.cell? ⟨m, 4, none⟩ = some (.int .i64 lo) ∧ W.cell? ⟨m, 5, none⟩ = some (.int .i64 ba) ∧ W.cell? ⟨m, 6, none⟩ = some (.int .i64 le)) ∧ Below (m + 1) w0 W)) (by kernel_rfl) (drew14 HS.out) (fun hHeld => ?_)
  refine wpAnyH_ready (rs := [0]) (by kernel_rfl) (by simp) ?_
  refine AllReadyH.cons (o := { dst := some 6, op := Op.call { callee := Callee.value (Operand.func 8), args := #[], argTypes := #[] }, type := 4, pos := "law.go:34", after := #[], guard := none }) rfl (fun K hK => ?_) AllReadyH.nil
  have hOld := hide hHeld
  clear hHeld
  go_simp
  (go_at_call 8; (with_reducible refine (wakes7 _).mono ?_); rintro e w2 ⟨rfl, hb2⟩)
  (try go_wp2_with fail)
  refine hK.out _ _ (keep14 hOld.out Hn.out Hz0.out hb2) (fun hHeld => ?_)
  clear hK K hOld
  try simp only [Act.put, List.setIfInBounds_toArray, List.set_cons_zero, List.set_cons_succ]
  refine wpAnyH_take (i := 1) (oi := { dst := some 7, op := Op.move (Operand.tmp 6), type := 4, pos := "law.go:34", after := #[{ on := 0, ground := Ground.data }, { on := 0, ground := Ground.chain }], guard := none }) (v := ?_) rfl (by kernel_rfl) (by kernel_rfl) (by kernel_rfl) (fun _ _ _ h => h) (Or.inl ⟨by kernel_rfl, ?_⟩) hHeld ?_
  rotate_left
  · (intro w hSw; (try dsimp only at hSw); go_simp); try with_reducible rfl
  try simp only [Act.put, List.setIfInBounds_toArray, List.set_cons_zero, List.set_cons_succ]
  refine wpAnyH_take (i := 2) (oi := { dst := some 8, op := Op.load 27 (Operand.tmp 3), type := 27, pos := "law.go:34", after := #[{ on := 1, ground := Ground.guard }], guard := some (1, true) }) (v := ?_) rfl (by kernel_rfl) (by kernel_rfl) (by kernel_rfl) (fun _ _ _ h => h) (Or.inl ⟨by kernel_rfl, ?_⟩) hHeld ?_
  rotate_left
  · (intro w hSw; (try dsimp only at hSw); go_simp); try with_reducible rfl
  try simp only [Act.put, List.setIfInBounds_toArray, List.set_cons_zero, List.set_cons_succ]
  refine wpAnyH_take (i := 4) (oi := { dst := some 10, op := Op.load 23 (Operand.tmp 1), type := 23, pos := "law.go:34", after := #[{ on := 1, ground := Ground.guard }], guard := some (1, true) }) (v := ?_) rfl (by kernel_rfl) (by kernel_rfl) (by kernel_rfl) (fun _ _ _ h => h) (Or.inl ⟨by kernel_rfl, ?_⟩) hHeld ?_
  rotate_left
  · (intro w hSw; (try dsimp only at hSw); go_simp); try with_reducible rfl
  try simp only [Act.put, List.setIfInBounds_toArray, List.set_cons_zero, List.set_cons_succ]
  refine wpAnyH_ready (rs := [3]) (by kernel_rfl) (by simp) ?_
  refine AllReadyH.cons (o := { dst := some 9, op := Op.call { callee := Callee.value (Operand.func 9), args := #[Operand.tmp 8], argTypes := #[27] }, type := 30, pos := "law.go:34", after := #[{ on := 2, ground := Ground.data }, { on := 1, ground := Ground.chain }, { on := 1, ground := Ground.guard }], guard := some (1, true) }) rfl (fun K hK => ?_) AllReadyH.nil
  have hOld := hide hHeld
  clear hHeld
  go_simp
  (go_at_call 9; (with_reducible refine (G1.out _).mono ?_); rintro e w2 ⟨rfl, hb2⟩)
  (try go_wp2_with fail)
  refine hK.out _ _ (keep14 hOld.out Hn.out Hz0.out hb2) (fun hHeld => ?_)
  clear hK K hOld
  try simp only [Act.put, List.setIfInBounds_toArray, List.set_cons_zero, List.set_cons_succ]
  refine wpAnyH_ready (rs := [5]) (by kernel_rfl) (by simp) ?_
  refine AllReadyH.cons (o := { dst := some 11, op := Op.call { callee := Callee.value (Operand.func 10), args := #[Operand.tmp 10], argTypes := #[33] }, type := 3, pos := "law.go:34", after := #[{ on := 4, ground := Ground.data }, { on := 3, ground := Ground.chain }, { on := 1, ground := Ground.guard }], guard := some (1, true) }) rfl (fun K hK => ?_) AllReadyH.nil
  have hOld := hide hHeld
  clear hHeld
  go_simp
  (go_at_call 10; (with_reducible refine (G2.out _).mono ?_); rintro e w2 ⟨rfl, hb2⟩)
  (try go_wp2_with fail)
  refine hK.out _ _ (keep14 hOld.out Hn.out Hz0.out hb2) (fun hHeld => ?_)
  clear hK K hOld
  try simp only [Act.put, List.setIfInBounds_toArray, List.set_cons_zero, List.set_cons_succ]
  refine wpAnyH_take (i := 6) (oi := { dst := some 12, op := Op.binOp BinOp.eql 3 (Operand.tmp 9) (Operand.tmp 11) 3, type := 4, pos := "law.go:34", after := #[{ on := 3, ground := Ground.data }, { on := 5, ground := Ground.data }, { on := 1, ground := Ground.guard }], guard := some (1, true) }) (v := ?_) rfl (by kernel_rfl) (by kernel_rfl) (by kernel_rfl) (fun _ _ _ h => h) (Or.inl ⟨by kernel_rfl, ?_⟩) hHeld ?_
  rotate_left
  · (intro w hSw; (try dsimp only at hSw); go_simp); try with_reducible rfl
  try simp only [Act.put, List.setIfInBounds_toArray, List.set_cons_zero, List.set_cons_succ]
  refine wpAnyH_take (i := 7) (oi := { dst := some 13, op := Op.pick (Operand.tmp 7) (Operand.tmp 12) (Operand.const (Value.bool false)), type := 4, pos := "law.go:34", after := #[{ on := 1, ground := Ground.data }, { on := 6, ground := Ground.data }], guard := none }) (v := ?_) rfl (by kernel_rfl) (by kernel_rfl) (by kernel_rfl) (fun _ _ _ h => h) (Or.inl ⟨by kernel_rfl, ?_⟩) hHeld ?_
  rotate_left
  · (intro w hSw; (try dsimp only at hSw); go_simp); try with_reducible rfl
  try simp only [Act.put, List.setIfInBounds_toArray, List.set_cons_zero, List.set_cons_succ]
  refine wpAnyH_take (i := 8) (oi := { dst := some 14, op := Op.move (Operand.tmp 13), type := 4, pos := "law.go:34", after := #[{ on := 7, ground := Ground.data }, { on := 5, ground := Ground.chain }], guard := none }) (v := ?_) rfl (by kernel_rfl) (by kernel_rfl) (by kernel_rfl) (fun _ _ _ h => h) (Or.inl ⟨by kernel_rfl, ?_⟩) hHeld ?_
  rotate_left
  · (intro w hSw; (try dsimp only at hSw); go_simp); try with_reducible rfl
  try simp only [Act.put, List.setIfInBounds_toArray, List.set_cons_zero, List.set_cons_succ]
  refine wpAnyH_take (i := 9) (oi := { dst := some 15, op := Op.load 27 (Operand.tmp 3), type := 27, pos := "law.go:34", after := #[{ on := 8, ground := Ground.guard }], guard := some (8, true) }) (v := ?_) rfl (by kernel_rfl) (by kernel_rfl) (by kernel_rfl) (fun _ _ _ h => h) (Or.inl ⟨by kernel_rfl, ?_⟩) hHeld ?_
  rotate_left
  · (intro w hSw; (try dsimp only at hSw); go_simp); try with_reducible rfl
  try simp only [Act.put, List.setIfInBounds_toArray, List.set_cons_zero, List.set_cons_succ]
  refine wpAnyH_take (i := 11) (oi := { dst := some 17, op := Op.load 23 (Operand.tmp 1), type := 23, pos := "law.go:34", after := #[{ on := 8, ground := Ground.guard }], guard := some (8, true) }) (v := ?_) rfl (by kernel_rfl) (by kernel_rfl) (by kernel_rfl) (fun _ _ _ h => h) (Or.inl ⟨by kernel_rfl, ?_⟩) hHeld ?_
  rotate_left
  · (intro w hSw; (try dsimp only at hSw); go_simp); try with_reducible rfl
  try simp only [Act.put, List.setIfInBounds_toArray, List.set_cons_zero, List.set_cons_succ]
  refine wpAnyH_ready (rs := [10]) (by kernel_rfl) (by simp) ?_
  refine AllReadyH.cons (o := { dst := some 16, op := Op.call { callee := Callee.value (Operand.func 11), args := #[Operand.tmp 15], argTypes := #[27] }, type := 3, pos := "law.go:34", after := #[{ on := 9, ground := Ground.data }, { on := 8, ground := Ground.chain }, { on := 8, ground := Ground.guard }], guard := some (8, true) }) rfl (fun K hK => ?_) AllReadyH.nil
  have hOld := hide hHeld
  clear hHeld
  go_simp
  (go_at_call 11; (with_reducible refine (G3.out _).mono ?_); rintro e w2 ⟨rfl, hb2⟩)
  (try go_wp2_with fail)
  refine hK.out _ _ (keep14 hOld.out Hn.out Hz0.out hb2) (fun hHeld => ?_)
  clear hK K hOld
  try simp only [Act.put, List.setIfInBounds_toArray, List.set_cons_zero, List.set_cons_succ]
  refine wpAnyH_ready (rs := [12]) (by kernel_rfl) (by simp) ?_
  refine AllReadyH.cons (o := { dst := some 18, op := Op.call { callee := Callee.value (Operand.func 12), args := #[Operand.tmp 17], argTypes := #[33] }, type := 3, pos := "law.go:34", after := #[{ on := 11, ground := Ground.data }, { on := 10, ground := Ground.chain }, { on := 8, ground := Ground.guard }], guard := some (8, true) }) rfl (fun K hK => ?_) AllReadyH.nil
  have hOld := hide hHeld
  clear hHeld
  go_simp
  (go_at_call 12; (with_reducible refine (G4.out _).mono ?_); rintro e w2 ⟨rfl, hb2⟩)
  (try go_wp2_with fail)
  refine hK.out _ _ (keep14 hOld.out Hn.out Hz0.out hb2) (fun hHeld => ?_)
  clear hK K hOld
  try simp only [Act.put, List.setIfInBounds_toArray, List.set_cons_zero, List.set_cons_succ]
  refine wpAnyH_take (i := 13) (oi := { dst := some 19, op := Op.binOp BinOp.eql 3 (Operand.tmp 16) (Operand.tmp 18) 3, type := 4, pos := "law.go:34", after := #[{ on := 10, ground := Ground.data }, { on := 12, ground := Ground.data }, { on := 8, ground := Ground.guard }], guard := some (8, true) }) (v := ?_) rfl (by kernel_rfl) (by kernel_rfl) (by kernel_rfl) (fun _ _ _ h => h) (Or.inl ⟨by kernel_rfl, ?_⟩) hHeld ?_
  rotate_left
  · (intro w hSw; (try dsimp only at hSw); go_simp); try with_reducible rfl
  try simp only [Act.put, List.setIfInBounds_toArray, List.set_cons_zero, List.set_cons_succ]
  refine wpAnyH_take (i := 14) (oi := { dst := some 20, op := Op.pick (Operand.tmp 14) (Operand.tmp 19) (Operand.const (Value.bool false)), type := 4, pos := "law.go:34", after := #[{ on := 8, ground := Ground.data }, { on := 13, ground := Ground.data }], guard := none }) (v := ?_) rfl (by kernel_rfl) (by kernel_rfl) (by kernel_rfl) (fun _ _ _ h => h) (Or.inl ⟨by kernel_rfl, ?_⟩) hHeld ?_
  rotate_left
  · (intro w hSw; (try dsimp only at hSw); go_simp); try with_reducible rfl
  try simp only [Act.put, List.setIfInBounds_toArray, List.set_cons_zero, List.set_cons_succ]
  refine wpAnyH_take (i := 15) (oi := { dst := some 2, op := Op.assign (Operand.tmp 20), type := 4, pos := "law.go:34", after := #[{ on := 14, ground := Ground.data }, { on := 12, ground := Ground.chain }, { on := 0, ground := Ground.phase }, { on := 1, ground := Ground.phase }, { on := 2, ground := Ground.phase }, { on := 3, ground := Ground.phase }, { on := 4, ground := Ground.phase }, { on := 5, ground := Ground.phase }, { on := 6, ground := Ground.phase }, { on := 7, ground := Ground.phase }, { on := 8, ground := Ground.phase }, { on := 9, ground := Ground.phase }, { on := 10, ground := Ground.phase }, { on := 11, ground := Ground.phase }, { on := 12, ground := Ground.phase }, { on := 13, ground := Ground.phase }, { on := 14, ground := Ground.phase }], guard := none }) (v := ?_) rfl (by kernel_rfl) (by kernel_rfl) (by kernel_rfl) (fun _ _ _ h => h) (Or.inl ⟨by kernel_rfl, ?_⟩) hHeld ?_
  rotate_left
  · (intro w hSw; (try dsimp only at hSw); go_simp); try with_reducible rfl
  try simp only [Act.put, List.setIfInBounds_toArray, List.set_cons_zero, List.set_cons_succ]
  refine wpAnyH_done (by kernel_rfl) ?_ _
  go_wp2
  go_ret
  exact ⟨rfl, by rw [HN.out]; exact HB.out.trans (hHeld.2.2.mono (by have := Hn.out; omega))⟩

set_option maxRecDepth 100000 in
theorem geoChecks_lifted (os : Os) (started : os.Started) (H : Type) (enc : TypeId × Value → H) :
    ReturnsInHanded {} Try.checked os 3 .any (Rows.geoChecksSpec.pre6 enc Try.prog Try.f3 Rows.geoChecksRow.domain false) (Rows.geoChecksSpec.post enc Try.prog Try.f3 false true false false) := by
  refine returnsInHanded_of_change (C := Try.checked) own started (by kernel_rfl) Try.func3
    (ChangeSpec.witness6 (enc := enc) (C := Try.checked) false ⟨#[], #[.agg #[.int .i64 0, .int .i64 0, .int .i64 0, .int .i64 0, .int .i64 0, .int .i64 0, .int .i64 0]], []⟩ 8 (by kernel_rfl) (by kernel_rfl) (by kernel_rfl) (by kernel_rfl)) ?_
  intro W base args ds gs before hval0 hW _ _
  have hval : ∀ (j : Nat) t v, Try.f3.params[j]? = some t → args[j]? = some v → Value.okWide Try.prog W .any base t v := hval0
  have hW' := hW
  obtain ⟨p, q, hA0, hV, rfl, hfz, hnd⟩ := hW
  have hA : DataW.TrodAll enc Try.prog W 0 (fun _ => true) true Try.f3.params.toList args.toList ds p := hA0
  rw [Try.params3] at hA hval
  obtain ⟨v0, vs0, d0, ds0, p0, q0, hargs, rfl, rfl, h0, r0⟩ := trodAll_cons hA
  obtain ⟨rfl, rfl, rfl⟩ := trodAll_nil r0
  obtain rfl : args = #[v0] := by cases args; simp_all
  obtain ⟨rfl, rfl⟩ := trodVars_none hV
  have z0 := open_nums_struct 7 Try.underlying23 Try.underlying3 (by kernel_rfl) (by kernel_rfl) (of_decide_eq_true (by kernel_rfl)) (hval 0 23 v0 rfl rfl) h0
  clear hA0 hval0
  refine (geoChecks_walk v0 z0 W).mono fun e W' ⟨he, hb⟩ => ?_
  subst he
  exact ⟨_, rfl, post_law laidOut (of_decide_eq_true (by kernel_rfl)) rfl rfl Try.underlying4 hW' ⟨rfl, rfl, rfl⟩ hb⟩

/-- THE STATEMENT -/
theorem geoChecks_holds : Rows.GeoChecksSaid :=
  OpenClaim.holds_of_wide 3 Try.f3 rfl rfl rfl rfl rfl rfl rfl ⟨rfl, rfl, rfl, rfl, rfl⟩ rfl rfl rfl rfl rfl (by kernel_rfl) Try.func3 (by kernel_rfl)
    (of_decide_eq_true (by kernel_rfl)) (by unfold Func.isWrapper; first | (rw [if_pos (by decide +kernel)]; kernel_rfl) | (rw [if_neg (by decide +kernel)]; exact ⟨rfl, rfl⟩))
    (fun os started H enc _ => geoChecks_lifted os started H enc)

end Go.Proofs.Ytmhpnlfjonfghaa
