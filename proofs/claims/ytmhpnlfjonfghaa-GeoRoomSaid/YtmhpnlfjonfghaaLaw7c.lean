/-
  Layer 7: GeoRoom returns true at every shape.
-/
import Derived.Test.YtmhpnlfjonfghaaLaw7b
namespace Go.Proofs.Ytmhpnlfjonfghaa
set_option linter.unusedSimpArgs false
set_option linter.unusedVariables false
open Go.RowKit Go.WideShapes Go.ChangeShapes Go.ChangeAt

theorem keep_room {w W W' : World} {n m : Nat} {b p s x0 x1 : Int} (h : W.cell? ⟨n, 0, none⟩ = some (.int .i64 b) ∧ W.cell? ⟨n, 1, none⟩ = some (.int .i64 p) ∧ W.cell? ⟨n, 2, none⟩ = some (.int .i64 s) ∧ W.cell? ⟨n + 1, 0, none⟩ = some (.int .i64 b) ∧ W.cell? ⟨n + 1, 1, none⟩ = some (.int .i64 p) ∧ W.cell? ⟨n + 1, 2, none⟩ = some (.int .i64 s) ∧ W.cell? ⟨m, 0, none⟩ = some (.int .i64 x0) ∧ W.cell? ⟨m, 1, none⟩ = some (.int .i64 x1) ∧ n < W.heap.size ∧ n + 1 < W.heap.size ∧ m < W.heap.size ∧ Below w.heap.size w W) (hb : Below W.heap.size W W') : W'.cell? ⟨n, 0, none⟩ = some (.int .i64 b) ∧ W'.cell? ⟨n, 1, none⟩ = some (.int .i64 p) ∧ W'.cell? ⟨n, 2, none⟩ = some (.int .i64 s) ∧ W'.cell? ⟨n + 1, 0, none⟩ = some (.int .i64 b) ∧ W'.cell? ⟨n + 1, 1, none⟩ = some (.int .i64 p) ∧ W'.cell? ⟨n + 1, 2, none⟩ = some (.int .i64 s) ∧ W'.cell? ⟨m, 0, none⟩ = some (.int .i64 x0) ∧ W'.cell? ⟨m, 1, none⟩ = some (.int .i64 x1) ∧ n < W'.heap.size ∧ n + 1 < W'.heap.size ∧ m < W'.heap.size ∧ Below w.heap.size w W' := by
  obtain ⟨c0, c1, c2, c3, c4, c5, c6, c7, l0, l1, l2, hB⟩ := h
  exact ⟨cell_keep c0 l0 hb, cell_keep c1 l0 hb, cell_keep c2 l0 hb, cell_keep c3 l1 hb, cell_keep c4 l1 hb, cell_keep c5 l1 hb, cell_keep c6 l2 hb, cell_keep c7 l2 hb, Nat.lt_of_lt_of_le l0 hb.size, Nat.lt_of_lt_of_le l1 hb.size, Nat.lt_of_lt_of_le l2 hb.size, below_trans hB hb⟩
theorem drew_room {w W : World} {n m : Nat} {b p s x0 x1 : Int} (h : W.cell? ⟨n, 0, none⟩ = some (.int .i64 b) ∧ W.cell? ⟨n, 1, none⟩ = some (.int .i64 p) ∧ W.cell? ⟨n, 2, none⟩ = some (.int .i64 s) ∧ W.cell? ⟨n + 1, 0, none⟩ = some (.int .i64 b) ∧ W.cell? ⟨n + 1, 1, none⟩ = some (.int .i64 p) ∧ W.cell? ⟨n + 1, 2, none⟩ = some (.int .i64 s) ∧ W.cell? ⟨m, 0, none⟩ = some (.int .i64 x0) ∧ W.cell? ⟨m, 1, none⟩ = some (.int .i64 x1) ∧ n < W.heap.size ∧ n + 1 < W.heap.size ∧ m < W.heap.size ∧ Below w.heap.size w W) : W.drew.cell? ⟨n, 0, none⟩ = some (.int .i64 b) ∧ W.drew.cell? ⟨n, 1, none⟩ = some (.int .i64 p) ∧ W.drew.cell? ⟨n, 2, none⟩ = some (.int .i64 s) ∧ W.drew.cell? ⟨n + 1, 0, none⟩ = some (.int .i64 b) ∧ W.drew.cell? ⟨n + 1, 1, none⟩ = some (.int .i64 p) ∧ W.drew.cell? ⟨n + 1, 2, none⟩ = some (.int .i64 s) ∧ W.drew.cell? ⟨m, 0, none⟩ = some (.int .i64 x0) ∧ W.drew.cell? ⟨m, 1, none⟩ = some (.int .i64 x1) ∧ n < W.drew.heap.size ∧ n + 1 < W.drew.heap.size ∧ m < W.drew.heap.size ∧ Below w.heap.size w W.drew := by
  obtain ⟨c0, c1, c2, c3, c4, c5, c6, c7, l0, l1, l2, hB⟩ := h
  exact ⟨c0, c1, c2, c3, c4, c5, c6, c7, l0, l1, l2, hB.drew⟩

theorem start_room {w w1 : World} {b p s x0 x1 : Int} (hb : Below ((w.alloc (.cells #[.int .i64 b, .int .i64 p, .int .i64 s] 36)).alloc (.cells #[.int .i64 b, .int .i64 p, .int .i64 s] 25)).heap.size
    ((w.alloc (.cells #[.int .i64 b, .int .i64 p, .int .i64 s] 36)).alloc (.cells #[.int .i64 b, .int .i64 p, .int .i64 s] 25)) w1) :
    ∀ n m W, w.heap.size = n → w1.heap.size = m → W = w1.alloc (.cells #[.int .i64 x0, .int .i64 x1] 3) → W.cell? ⟨n, 0, none⟩ = some (.int .i64 b) ∧ W.cell? ⟨n, 1, none⟩ = some (.int .i64 p) ∧ W.cell? ⟨n, 2, none⟩ = some (.int .i64 s) ∧ W.cell? ⟨n + 1, 0, none⟩ = some (.int .i64 b) ∧ W.cell? ⟨n + 1, 1, none⟩ = some (.int .i64 p) ∧ W.cell? ⟨n + 1, 2, none⟩ = some (.int .i64 s) ∧ W.cell? ⟨m, 0, none⟩ = some (.int .i64 x0) ∧ W.cell? ⟨m, 1, none⟩ = some (.int .i64 x1) ∧ n < W.heap.size ∧ n + 1 < W.heap.size ∧ m < W.heap.size ∧ Below w.heap.size w W := by
  rintro n m W rfl rfl rfl
  obtain ⟨hc, _⟩ := bcell hb
  have hs := hb.size
  simp at hs
  have hq : ∀ k o, k < w.heap.size + 2 → (w1.alloc (.cells #[.int .i64 x0, .int .i64 x1] 3)).cell? ⟨k, o, none⟩ = _ := fun k o hk => by
    rw [World.cell?_alloc_lt _ _ _ (by simp; omega), hc _ _ (by simp; omega)]
  have e0 : w.heap.size < w.heap.size + 2 := by omega
  have e1 : w.heap.size + 1 < w.heap.size + 2 := by omega
  refine ⟨?_, ?_, ?_, ?_, ?_, ?_, ?_, ?_, by simp; omega, by simp; omega, by simp, ((((Below.refl _ _).alloc (Nat.le_refl _) _).alloc (by simp) _).trans (hb.mono (by simp; omega))).alloc (by omega) _⟩
  · rw [hq _ _ e0, World.cell?_alloc_lt _ _ _ (by simp)]; simp [World.cell?_alloc_new]
  · rw [hq _ _ e0, World.cell?_alloc_lt _ _ _ (by simp)]; simp [World.cell?_alloc_new]
  · rw [hq _ _ e0, World.cell?_alloc_lt _ _ _ (by simp)]; simp [World.cell?_alloc_new]
  · rw [hq _ _ e1]; have := World.cell?_alloc_new (w.alloc (.cells #[.int .i64 b, .int .i64 p, .int .i64 s] 36)); simp at this; simp [this]
  · rw [hq _ _ e1]; have := World.cell?_alloc_new (w.alloc (.cells #[.int .i64 b, .int .i64 p, .int .i64 s] 36)); simp at this; simp [this]
  · rw [hq _ _ e1]; have := World.cell?_alloc_new (w.alloc (.cells #[.int .i64 b, .int .i64 p, .int .i64 s] 36)); simp at this; simp [this]
  · simp [World.cell?_alloc_new]
  · simp [World.cell?_alloc_new]

set_option maxRecDepth 100000 in
set_option maxHeartbeats 2000000 in
theorem geoRoom_walk (v : Value) (hv : ∃ xs : List Int, xs.length = 3 ∧ v = .agg (xs.map (Value.int .i64)).toArray ∧ ∀ x ∈ xs, (Lit.int .i64 x).wf = true) (sp : Int) (_ : -9223372036854775808 ≤ sp) (_ : sp ≤ 9223372036854775807) (w : World) :
    Calls Try.prog 4 #[v, .int .i64 sp] w fun e w' => e = .returned (.bool true) ∧ Below w.heap.size w w' := by
  obtain ⟨xs, hl, rfl, _⟩ := hv
  match xs, hl with
  | [b, p, s], _ =>
  have g1 := fun W => shapeRight_any b p s W
  have g2' := fun x W => room_any b p s x W
  have g3' := fun x W => refRoom_any b p s x W
  have g4' := fun W => each_any b p s W
  generalize roomZ b p s = R at *
  have g2 := hide g2'
  have g3 := hide g3'
  clear g2' g3'
  show Calls _ _ #[.agg #[.int .i64 b, .int .i64 p, .int .i64 s], _] _ _
  by_cases hr : rightB b p s = true
  · obtain ⟨b4, b256, p2, p64, s32, s1024⟩ := right_iff.1 hr
    rw [hr] at g1
    have G1 := hide g1
    have HE := hide (show p - 1 = eachZ b p s from (if_pos hr).symm)
    clear g1 hr
    generalize eachZ b p s = E at *
    have g4 := hide g4'
    clear g4'
    go_enter Try.func4, Try.ntmps4
    go_wp2_with (go_at_call 13; ((with_reducible refine (G1.out _).mono ?_); rintro e w1 ⟨rfl, hb1⟩; obtain ⟨hc1, hf1⟩ := bcell hb1; have hz1 : w.heap.size + 1 < w1.heap.size := by have := hb1.size; simp at this; omega))
    all_goals
      go_loopw [27] (fun i W => ∃ k : Nat, k ≤ 2 ∧ i = .int .i64 k ∧ ∃ x0 x1 : Int, W.cell? ⟨w.heap.size, 0, none⟩ = some (.int .i64 b) ∧ W.cell? ⟨w.heap.size, 1, none⟩ = some (.int .i64 p) ∧ W.cell? ⟨w.heap.size, 2, none⟩ = some (.int .i64 s) ∧ W.cell? ⟨w.heap.size + 1, 0, none⟩ = some (.int .i64 b) ∧ W.cell? ⟨w.heap.size + 1, 1, none⟩ = some (.int .i64 p) ∧ W.cell? ⟨w.heap.size + 1, 2, none⟩ = some (.int .i64 s) ∧ W.cell? ⟨w1.heap.size, 0, none⟩ = some (.int .i64 x0) ∧ W.cell? ⟨w1.heap.size, 1, none⟩ = some (.int .i64 x1) ∧ w.heap.size < W.heap.size ∧ w.heap.size + 1 < W.heap.size ∧ w1.heap.size < W.heap.size ∧ Below w.heap.size w W) (fun i _ => 2 - (intOf i).toNat)
      case atStart => exact ⟨0, by omega, rfl, _, _, start_room hb1 _ _ _ rfl rfl rfl⟩
      case round =>
        clear hc1 hf1 hb1
        obtain ⟨k, hk, rfl, x0, x1, hS⟩ := hrel
        by_cases hlt : k < 2
        · have HS := hide hS
          obtain ⟨y, hy⟩ : ∃ y : Int, wr.cell? ⟨w1.heap.size, k, none⟩ = some (.int .i64 y) := by
            obtain rfl | rfl : k = 0 ∨ k = 1 := by omega
            · exact ⟨_, hS.2.2.2.2.2.2.1⟩
            · exact ⟨_, hS.2.2.2.2.2.2.2.1⟩
          clear hS
          go_wp2_with fail
          clear hy
          refine wp_region_held_drew (S := (fun W => W.cell? ⟨w.heap.size, 0, none⟩ = some (.int .i64 b) ∧ W.cell? ⟨w.heap.size, 1, none⟩ = some (.int .i64 p) ∧ W.cell? ⟨w.heap.size, 2, none⟩ = some (.int .i64 s) ∧ W.cell? ⟨w.heap.size + 1, 0, none⟩ = some (.int .i64 b) ∧ W.cell? ⟨w.heap.size + 1, 1, none⟩ = some (.int .i64 p) ∧ W.cell? ⟨w.heap.size + 1, 2, none⟩ = some (.int .i64 s) ∧ W.cell? ⟨w1.heap.size, 0, none⟩ = some (.int .i64 x0) ∧ W.cell? ⟨w1.heap.size, 1, none⟩ = some (.int .i64 x1) ∧ w.heap.size < W.heap.size ∧ w.heap.size + 1 < W.heap.size ∧ w1.heap.size < W.heap.size ∧ Below w.heap.size w W)) (by kernel_rfl) (drew_room HS.out) (fun hHeld => ?_)
          refine wpAnyH_take (i := 0) (oi := { dst := some 31, op := Op.load 25 (Operand.tmp 5), type := 25, pos := "law.go:45", after := #[], guard := none }) (v := ?_) rfl (by kernel_rfl) (by kernel_rfl) (by kernel_rfl) (fun _ _ _ h => h) (Or.inl ⟨by kernel_rfl, ?_⟩) hHeld ?_
          rotate_left
          · (intro w hSw; (try dsimp only at hSw); go_simp); try with_reducible rfl
          try simp only [Act.put, List.setIfInBounds_toArray, List.set_cons_zero, List.set_cons_succ]
          refine wpAnyH_take (i := 1) (oi := { dst := some 32, op := Op.move (Operand.tmp 8), type := 3, pos := "law.go:45", after := #[], guard := none }) (v := ?_) rfl (by kernel_rfl) (by kernel_rfl) (by kernel_rfl) (fun _ _ _ h => h) (Or.inl ⟨by kernel_rfl, ?_⟩) hHeld ?_
          rotate_left
          · (intro w hSw; (try dsimp only at hSw); go_simp); try with_reducible rfl
          try simp only [Act.put, List.setIfInBounds_toArray, List.set_cons_zero, List.set_cons_succ]
          refine wpAnyH_take (i := 3) (oi := { dst := some 34, op := Op.indexAddr 36 (Operand.tmp 2) (Operand.const (Value.int IntKind.i64 0)), type := 0, pos := "law.go:45", after := #[], guard := none }) (v := ?_) rfl (by kernel_rfl) (by kernel_rfl) (by kernel_rfl) (fun _ _ _ h => h) (Or.inl ⟨by kernel_rfl, ?_⟩) hHeld ?_
          rotate_left
          · (intro w hSw; (try dsimp only at hSw); go_simp); try with_reducible rfl
          try simp only [Act.put, List.setIfInBounds_toArray, List.set_cons_zero, List.set_cons_succ]
          refine wpAnyH_take (i := 4) (oi := { dst := some 35, op := Op.load 3 (Operand.tmp 34), type := 3, pos := "law.go:45", after := #[{ on := 3, ground := Ground.data }], guard := none }) (v := ?_) rfl (by kernel_rfl) (by kernel_rfl) (by kernel_rfl) (fun _ _ _ h => h) (Or.inl ⟨by kernel_rfl, ?_⟩) hHeld ?_
          rotate_left
          · (intro w hSw; (try dsimp only at hSw); go_simp); try with_reducible rfl
          try simp only [Act.put, List.setIfInBounds_toArray, List.set_cons_zero, List.set_cons_succ]
          refine wpAnyH_take (i := 5) (oi := { dst := some 36, op := Op.indexAddr 36 (Operand.tmp 2) (Operand.const (Value.int IntKind.i64 1)), type := 0, pos := "law.go:45", after := #[], guard := none }) (v := ?_) rfl (by kernel_rfl) (by kernel_rfl) (by kernel_rfl) (fun _ _ _ h => h) (Or.inl ⟨by kernel_rfl, ?_⟩) hHeld ?_
          rotate_left
          · (intro w hSw; (try dsimp only at hSw); go_simp); try with_reducible rfl
          try simp only [Act.put, List.setIfInBounds_toArray, List.set_cons_zero, List.set_cons_succ]
          refine wpAnyH_take (i := 6) (oi := { dst := some 37, op := Op.load 3 (Operand.tmp 36), type := 3, pos := "law.go:45", after := #[{ on := 5, ground := Ground.data }], guard := none }) (v := ?_) rfl (by kernel_rfl) (by kernel_rfl) (by kernel_rfl) (fun _ _ _ h => h) (Or.inl ⟨by kernel_rfl, ?_⟩) hHeld ?_
          rotate_left
          · (intro w hSw; (try dsimp only at hSw); go_simp); try with_reducible rfl
          try simp only [Act.put, List.setIfInBounds_toArray, List.set_cons_zero, List.set_cons_succ]
          refine wpAnyH_take (i := 7) (oi := { dst := some 38, op := Op.indexAddr 36 (Operand.tmp 2) (Operand.const (Value.int IntKind.i64 2)), type := 0, pos := "law.go:45", after := #[], guard := none }) (v := ?_) rfl (by kernel_rfl) (by kernel_rfl) (by kernel_rfl) (fun _ _ _ h => h) (Or.inl ⟨by kernel_rfl, ?_⟩) hHeld ?_
          rotate_left
          · (intro w hSw; (try dsimp only at hSw); go_simp); try with_reducible rfl
          try simp only [Act.put, List.setIfInBounds_toArray, List.set_cons_zero, List.set_cons_succ]
          refine wpAnyH_take (i := 8) (oi := { dst := some 39, op := Op.load 3 (Operand.tmp 38), type := 3, pos := "law.go:45", after := #[{ on := 7, ground := Ground.data }], guard := none }) (v := ?_) rfl (by kernel_rfl) (by kernel_rfl) (by kernel_rfl) (fun _ _ _ h => h) (Or.inl ⟨by kernel_rfl, ?_⟩) hHeld ?_
          rotate_left
          · (intro w hSw; (try dsimp only at hSw); go_simp); try with_reducible rfl
          try simp only [Act.put, List.setIfInBounds_toArray, List.set_cons_zero, List.set_cons_succ]
          refine wpAnyH_take (i := 9) (oi := { dst := some 40, op := Op.move (Operand.tmp 8), type := 3, pos := "law.go:45", after := #[], guard := none }) (v := ?_) rfl (by kernel_rfl) (by kernel_rfl) (by kernel_rfl) (fun _ _ _ h => h) (Or.inl ⟨by kernel_rfl, ?_⟩) hHeld ?_
          rotate_left
          · (intro w hSw; (try dsimp only at hSw); go_simp); try with_reducible rfl
          try simp only [Act.put, List.setIfInBounds_toArray, List.set_cons_zero, List.set_cons_succ]
          refine wpAnyH_ready (rs := [2]) (by kernel_rfl) (by simp) ?_
          refine AllReadyH.cons (o := { dst := some 33, op := Op.call { callee := Callee.value (Operand.func 14), args := #[Operand.tmp 31, Operand.tmp 32], argTypes := #[25, 3] }, type := 3, pos := "law.go:45", after := #[{ on := 0, ground := Ground.data }, { on := 1, ground := Ground.data }], guard := none }) rfl (fun K hK => ?_) AllReadyH.nil
          have hOld := hide hHeld
          clear hHeld
          go_simp
          (go_at_call 14; (with_reducible refine (g2.out _ _).mono ?_); rintro e w2 ⟨rfl, hb2⟩)
          (try go_wp2_with fail)
          refine hK.out _ _ (keep_room hOld.out hb2) (fun hHeld => ?_)
          clear hK K hOld
          try simp only [Act.put, List.setIfInBounds_toArray, List.set_cons_zero, List.set_cons_succ]
          refine wpAnyH_ready (rs := [10]) (by kernel_rfl) (by simp) ?_
          refine AllReadyH.cons (o := { dst := some 41, op := Op.call { callee := Callee.value (Operand.func 15), args := #[Operand.tmp 35, Operand.tmp 37, Operand.tmp 39, Operand.tmp 40], argTypes := #[3, 3, 3, 3] }, type := 3, pos := "law.go:45", after := #[{ on := 4, ground := Ground.data }, { on := 6, ground := Ground.data }, { on := 8, ground := Ground.data }, { on := 9, ground := Ground.data }, { on := 2, ground := Ground.chain }], guard := none }) rfl (fun K hK => ?_) AllReadyH.nil
          have hOld := hide hHeld
          clear hHeld
          go_simp
          (go_at_call 15; (with_reducible refine (g3.out _ _).mono ?_); rintro e w3 ⟨rfl, rfl⟩)
          (try go_wp2_with fail)
          refine hK.out _ _ (hOld.out) (fun hHeld => ?_)
          clear hK K hOld
          try simp only [Act.put, List.setIfInBounds_toArray, List.set_cons_zero, List.set_cons_succ]
          refine wpAnyH_take (i := 11) (oi := { dst := some 42, op := Op.binOp BinOp.neq 3 (Operand.tmp 33) (Operand.tmp 41) 3, type := 4, pos := "law.go:45", after := #[{ on := 2, ground := Ground.data }, { on := 10, ground := Ground.data }], guard := none }) (v := ?_) rfl (by kernel_rfl) (by kernel_rfl) (by kernel_rfl) (fun _ _ _ h => h) (Or.inl ⟨by kernel_rfl, ?_⟩) hHeld ?_
          rotate_left
          · (intro w hSw; (try dsimp only at hSw); go_simp); try with_reducible rfl
          try simp only [Act.put, List.setIfInBounds_toArray, List.set_cons_zero, List.set_cons_succ]
          refine wpAnyH_done (by kernel_rfl) ?_ _
          go_wp2
          go_roundw
          case rel => exact ⟨k + 1, by omega, by go_num, x0, x1, hHeld⟩
          case measure => simp [intOf]; omega
        · have HS := hide hS
          obtain ⟨c0, c1, c2, c3, c4, c5, c6, c7, l0, l1, l2, hB⟩ := hS
          go_wp2_with fail
          refine (wakes7 _).mono ?_
          rintro e w4 ⟨rfl, hb4⟩
          obtain ⟨c0, c1, c2, c3, c4, c5, c6, c7, l0, l1, l2, hB⟩ := keep_room HS.out hb4
          go_wp2_with fail
          refine (g4.out _).mono ?_
          rintro e w5 ⟨rfl, hb5⟩
          go_wp2
          go_ret
          exact ⟨ret_bool (by simp [HE.out]), below_trans hB hb5⟩
  · have hr : rightB b p s = false := by simpa using hr
    rw [hr] at g1
    have G1 := hide g1
    have HE := hide (show 0 = eachZ b p s from (if_neg (by simp [hr])).symm)
    clear g1 hr
    generalize eachZ b p s = E at *
    have g4 := hide g4'
    clear g4'
    go_enter Try.func4, Try.ntmps4
    go_wp2_with (go_at_call 13; ((with_reducible refine (G1.out _).mono ?_); rintro e w1 ⟨rfl, hb1⟩; obtain ⟨hc1, hf1⟩ := bcell hb1; have hz1 : w.heap.size + 1 < w1.heap.size := by have := hb1.size; simp at this; omega))
    all_goals
      go_loopw [27] (fun i W => ∃ k : Nat, k ≤ 2 ∧ i = .int .i64 k ∧ ∃ x0 x1 : Int, W.cell? ⟨w.heap.size, 0, none⟩ = some (.int .i64 b) ∧ W.cell? ⟨w.heap.size, 1, none⟩ = some (.int .i64 p) ∧ W.cell? ⟨w.heap.size, 2, none⟩ = some (.int .i64 s) ∧ W.cell? ⟨w.heap.size + 1, 0, none⟩ = some (.int .i64 b) ∧ W.cell? ⟨w.heap.size + 1, 1, none⟩ = some (.int .i64 p) ∧ W.cell? ⟨w.heap.size + 1, 2, none⟩ = some (.int .i64 s) ∧ W.cell? ⟨w1.heap.size, 0, none⟩ = some (.int .i64 x0) ∧ W.cell? ⟨w1.heap.size, 1, none⟩ = some (.int .i64 x1) ∧ w.heap.size < W.heap.size ∧ w.heap.size + 1 < W.heap.size ∧ w1.heap.size < W.heap.size ∧ Below w.heap.size w W) (fun i _ => 2 - (intOf i).toNat)
      case atStart => exact ⟨0, by omega, rfl, _, _, start_room hb1 _ _ _ rfl rfl rfl⟩
      case round =>
        clear hc1 hf1 hb1
        obtain ⟨k, hk, rfl, x0, x1, hS⟩ := hrel
        by_cases hlt : k < 2
        · have HS := hide hS
          obtain ⟨y, hy⟩ : ∃ y : Int, wr.cell? ⟨w1.heap.size, k, none⟩ = some (.int .i64 y) := by
            obtain rfl | rfl : k = 0 ∨ k = 1 := by omega
            · exact ⟨_, hS.2.2.2.2.2.2.1⟩
            · exact ⟨_, hS.2.2.2.2.2.2.2.1⟩
          clear hS
          go_wp2_with fail
          clear hy
          refine wp_region_held_drew (S := (fun W => W.cell? ⟨w.heap.size, 0, none⟩ = some (.int .i64 b) ∧ W.cell? ⟨w.heap.size, 1, none⟩ = some (.int .i64 p) ∧ W.cell? ⟨w.heap.size, 2, none⟩ = some (.int .i64 s) ∧ W.cell? ⟨w.heap.size + 1, 0, none⟩ = some (.int .i64 b) ∧ W.cell? ⟨w.heap.size + 1, 1, none⟩ = some (.int .i64 p) ∧ W.cell? ⟨w.heap.size + 1, 2, none⟩ = some (.int .i64 s) ∧ W.cell? ⟨w1.heap.size, 0, none⟩ = some (.int .i64 x0) ∧ W.cell? ⟨w1.heap.size, 1, none⟩ = some (.int .i64 x1) ∧ w.heap.size < W.heap.size ∧ w.heap.size + 1 < W.heap.size ∧ w1.heap.size < W.heap.size ∧ Below w.heap.size w W)) (by kernel_rfl) (drew_room HS.out) (fun hHeld => ?_)
          refine wpAnyH_take (i := 0) (oi := { dst := some 31, op := Op.load 25 (Operand.tmp 5), type := 25, pos := "law.go:45", after := #[], guard := none }) (v := ?_) rfl (by kernel_rfl) (by kernel_rfl) (by kernel_rfl) (fun _ _ _ h => h) (Or.inl ⟨by kernel_rfl, ?_⟩) hHeld ?_
          rotate_left
          · (intro w hSw; (try dsimp only at hSw); go_simp); try with_reducible rfl
          try simp only [Act.put, List.setIfInBounds_toArray, List.set_cons_zero, List.set_cons_succ]
          refine wpAnyH_take (i := 1) (oi := { dst := some 32, op := Op.move (Operand.tmp 8), type := 3, pos := "law.go:45", after := #[], guard := none }) (v := ?_) rfl (by kernel_rfl) (by kernel_rfl) (by kernel_rfl) (fun _ _ _ h => h) (Or.inl ⟨by kernel_rfl, ?_⟩) hHeld ?_
          rotate_left
          · (intro w hSw; (try dsimp only at hSw); go_simp); try with_reducible rfl
          try simp only [Act.put, List.setIfInBounds_toArray, List.set_cons_zero, List.set_cons_succ]
          refine wpAnyH_take (i := 3) (oi := { dst := some 34, op := Op.indexAddr 36 (Operand.tmp 2) (Operand.const (Value.int IntKind.i64 0)), type := 0, pos := "law.go:45", after := #[], guard := none }) (v := ?_) rfl (by kernel_rfl) (by kernel_rfl) (by kernel_rfl) (fun _ _ _ h => h) (Or.inl ⟨by kernel_rfl, ?_⟩) hHeld ?_
          rotate_left
          · (intro w hSw; (try dsimp only at hSw); go_simp); try with_reducible rfl
          try simp only [Act.put, List.setIfInBounds_toArray, List.set_cons_zero, List.set_cons_succ]
          refine wpAnyH_take (i := 4) (oi := { dst := some 35, op := Op.load 3 (Operand.tmp 34), type := 3, pos := "law.go:45", after := #[{ on := 3, ground := Ground.data }], guard := none }) (v := ?_) rfl (by kernel_rfl) (by kernel_rfl) (by kernel_rfl) (fun _ _ _ h => h) (Or.inl ⟨by kernel_rfl, ?_⟩) hHeld ?_
          rotate_left
          · (intro w hSw; (try dsimp only at hSw); go_simp); try with_reducible rfl
          try simp only [Act.put, List.setIfInBounds_toArray, List.set_cons_zero, List.set_cons_succ]
          refine wpAnyH_take (i := 5) (oi := { dst := some 36, op := Op.indexAddr 36 (Operand.tmp 2) (Operand.const (Value.int IntKind.i64 1)), type := 0, pos := "law.go:45", after := #[], guard := none }) (v := ?_) rfl (by kernel_rfl) (by kernel_rfl) (by kernel_rfl) (fun _ _ _ h => h) (Or.inl ⟨by kernel_rfl, ?_⟩) hHeld ?_
          rotate_left
          · (intro w hSw; (try dsimp only at hSw); go_simp); try with_reducible rfl
          try simp only [Act.put, List.setIfInBounds_toArray, List.set_cons_zero, List.set_cons_succ]
          refine wpAnyH_take (i := 6) (oi := { dst := some 37, op := Op.load 3 (Operand.tmp 36), type := 3, pos := "law.go:45", after := #[{ on := 5, ground := Ground.data }], guard := none }) (v := ?_) rfl (by kernel_rfl) (by kernel_rfl) (by kernel_rfl) (fun _ _ _ h => h) (Or.inl ⟨by kernel_rfl, ?_⟩) hHeld ?_
          rotate_left
          · (intro w hSw; (try dsimp only at hSw); go_simp); try with_reducible rfl
          try simp only [Act.put, List.setIfInBounds_toArray, List.set_cons_zero, List.set_cons_succ]
          refine wpAnyH_take (i := 7) (oi := { dst := some 38, op := Op.indexAddr 36 (Operand.tmp 2) (Operand.const (Value.int IntKind.i64 2)), type := 0, pos := "law.go:45", after := #[], guard := none }) (v := ?_) rfl (by kernel_rfl) (by kernel_rfl) (by kernel_rfl) (fun _ _ _ h => h) (Or.inl ⟨by kernel_rfl, ?_⟩) hHeld ?_
          rotate_left
          · (intro w hSw; (try dsimp only at hSw); go_simp); try with_reducible rfl
          try simp only [Act.put, List.setIfInBounds_toArray, List.set_cons_zero, List.set_cons_succ]
          refine wpAnyH_take (i := 8) (oi := { dst := some 39, op := Op.load 3 (Operand.tmp 38), type := 3, pos := "law.go:45", after := #[{ on := 7, ground := Ground.data }], guard := none }) (v := ?_) rfl (by kernel_rfl) (by kernel_rfl) (by kernel_rfl) (fun _ _ _ h => h) (Or.inl ⟨by kernel_rfl, ?_⟩) hHeld ?_
          rotate_left
          · (intro w hSw; (try dsimp only at hSw); go_simp); try with_reducible rfl
          try simp only [Act.put, List.setIfInBounds_toArray, List.set_cons_zero, List.set_cons_succ]
          refine wpAnyH_take (i := 9) (oi := { dst := some 40, op := Op.move (Operand.tmp 8), type := 3, pos := "law.go:45", after := #[], guard := none }) (v := ?_) rfl (by kernel_rfl) (by kernel_rfl) (by kernel_rfl) (fun _ _ _ h => h) (Or.inl ⟨by kernel_rfl, ?_⟩) hHeld ?_
          rotate_left
          · (intro w hSw; (try dsimp only at hSw); go_simp); try with_reducible rfl
          try simp only [Act.put, List.setIfInBounds_toArray, List.set_cons_zero, List.set_cons_succ]
          refine wpAnyH_ready (rs := [2]) (by kernel_rfl) (by simp) ?_
          refine AllReadyH.cons (o := { dst := some 33, op := Op.call { callee := Callee.value (Operand.func 14), args := #[Operand.tmp 31, Operand.tmp 32], argTypes := #[25, 3] }, type := 3, pos := "law.go:45", after := #[{ on := 0, ground := Ground.data }, { on := 1, ground := Ground.data }], guard := none }) rfl (fun K hK => ?_) AllReadyH.nil
          have hOld := hide hHeld
          clear hHeld
          go_simp
          (go_at_call 14; (with_reducible refine (g2.out _ _).mono ?_); rintro e w2 ⟨rfl, hb2⟩)
          (try go_wp2_with fail)
          refine hK.out _ _ (keep_room hOld.out hb2) (fun hHeld => ?_)
          clear hK K hOld
          try simp only [Act.put, List.setIfInBounds_toArray, List.set_cons_zero, List.set_cons_succ]
          refine wpAnyH_ready (rs := [10]) (by kernel_rfl) (by simp) ?_
          refine AllReadyH.cons (o := { dst := some 41, op := Op.call { callee := Callee.value (Operand.func 15), args := #[Operand.tmp 35, Operand.tmp 37, Operand.tmp 39, Operand.tmp 40], argTypes := #[3, 3, 3, 3] }, type := 3, pos := "law.go:45", after := #[{ on := 4, ground := Ground.data }, { on := 6, ground := Ground.data }, { on := 8, ground := Ground.data }, { on := 9, ground := Ground.data }, { on := 2, ground := Ground.chain }], guard := none }) rfl (fun K hK => ?_) AllReadyH.nil
          have hOld := hide hHeld
          clear hHeld
          go_simp
          (go_at_call 15; (with_reducible refine (g3.out _ _).mono ?_); rintro e w3 ⟨rfl, rfl⟩)
          (try go_wp2_with fail)
          refine hK.out _ _ (hOld.out) (fun hHeld => ?_)
          clear hK K hOld
          try simp only [Act.put, List.setIfInBounds_toArray, List.set_cons_zero, List.set_cons_succ]
          refine wpAnyH_take (i := 11) (oi := { dst := some 42, op := Op.binOp BinOp.neq 3 (Operand.tmp 33) (Operand.tmp 41) 3, type := 4, pos := "law.go:45", after := #[{ on := 2, ground := Ground.data }, { on := 10, ground := Ground.data }], guard := none }) (v := ?_) rfl (by kernel_rfl) (by kernel_rfl) (by kernel_rfl) (fun _ _ _ h => h) (Or.inl ⟨by kernel_rfl, ?_⟩) hHeld ?_
          rotate_left
          · (intro w hSw; (try dsimp only at hSw); go_simp); try with_reducible rfl
          try simp only [Act.put, List.setIfInBounds_toArray, List.set_cons_zero, List.set_cons_succ]
          refine wpAnyH_done (by kernel_rfl) ?_ _
          go_wp2
          go_roundw
          case rel => exact ⟨k + 1, by omega, by go_num, x0, x1, hHeld⟩
          case measure => simp [intOf]; omega
        · have HS := hide hS
          obtain ⟨c0, c1, c2, c3, c4, c5, c6, c7, l0, l1, l2, hB⟩ := hS
          go_wp2_with fail
          refine (wakes7 _).mono ?_
          rintro e w4 ⟨rfl, hb4⟩
          obtain ⟨c0, c1, c2, c3, c4, c5, c6, c7, l0, l1, l2, hB⟩ := keep_room HS.out hb4
          go_wp2_with fail
          refine (g4.out _).mono ?_
          rintro e w5 ⟨rfl, hb5⟩
          go_wp2
          go_ret
          exact ⟨ret_bool (by simp [HE.out]), below_trans hB hb5⟩

set_option maxRecDepth 100000 in
theorem geoRoom_lifted (os : Os) (started : os.Started) (H : Type) (enc : TypeId × Value → H) :
    ReturnsInHanded {} Try.checked os 4 .any (Rows.geoRoomSpec.pre6 enc Try.prog Try.f4 Rows.geoRoomRow.domain false) (Rows.geoRoomSpec.post enc Try.prog Try.f4 false true false false) := by
  refine returnsInHanded_of_change (C := Try.checked) own started (by kernel_rfl) Try.func4
    (ChangeSpec.witness6 (enc := enc) (C := Try.checked) false ⟨#[], #[.agg #[.int .i64 0, .int .i64 0, .int .i64 0], .int .i64 0], []⟩ 8 (by kernel_rfl) (by kernel_rfl) (by kernel_rfl) (by kernel_rfl)) ?_
  intro W base args ds gs before hval0 hW _ _
  have hval : ∀ (j : Nat) t v, Try.f4.params[j]? = some t → args[j]? = some v → Value.okWide Try.prog W .any base t v := hval0
  have hW' := hW
  obtain ⟨p, q, hA0, hV, rfl, hfz, hnd⟩ := hW
  have hA : DataW.TrodAll enc Try.prog W 0 (fun _ => true) true Try.f4.params.toList args.toList ds p := hA0
  rw [Try.params4] at hA hval
  obtain ⟨v0, vs0, d0, ds0, p0, q0, hargs, rfl, rfl, h0, r0⟩ := trodAll_cons hA
  obtain ⟨v1, vs1, d1, ds1, p1, q1, rfl, rfl, rfl, h1, r1⟩ := trodAll_cons r0
  obtain ⟨rfl, rfl, rfl⟩ := trodAll_nil r1
  obtain rfl : args = #[v0, v1] := by cases args; simp_all
  obtain ⟨rfl, rfl⟩ := trodVars_none hV
  have z0 := open_nums_array 3 Try.underlying36 Try.underlying3 (by kernel_rfl) (by kernel_rfl) (hval 0 36 v0 rfl rfl) h0
  obtain ⟨sp, rfl, rfl, rfl, w1⟩ := open_int Try.underlying3 (hval 1 3 v1 rfl rfl) h1
  have z1 := wf_i64 w1
  clear hA0 hval0
  refine (geoRoom_walk v0 z0 sp z1.1 z1.2 W).mono fun e W' ⟨he, hb⟩ => ?_
  subst he
  exact ⟨_, rfl, post_law laidOut (of_decide_eq_true (by kernel_rfl)) rfl rfl Try.underlying4 hW' ⟨rfl, rfl, rfl⟩ hb⟩

/-- THE STATEMENT -/
theorem geoRoom_holds : Rows.GeoRoomSaid :=
  OpenClaim.holds_of_wide 4 Try.f4 rfl rfl rfl rfl rfl rfl rfl ⟨rfl, rfl, rfl, rfl, rfl⟩ rfl rfl rfl rfl rfl (by kernel_rfl) Try.func4 (by kernel_rfl)
    (of_decide_eq_true (by kernel_rfl)) (by unfold Func.isWrapper; first | (rw [if_pos (by decide +kernel)]; kernel_rfl) | (rw [if_neg (by decide +kernel)]; exact ⟨rfl, rfl⟩))
    (fun os started H enc _ => geoRoom_lifted os started H enc)

end Go.Proofs.Ytmhpnlfjonfghaa
