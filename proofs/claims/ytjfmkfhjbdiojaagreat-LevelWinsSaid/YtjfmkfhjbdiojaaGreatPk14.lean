/-
  Lemmas and contracts of this project's own, put together: Pool2, Pool3, KitRow.
-/
import Derived.Deep.DeepCutAuto
import Derived.Deep.RegionHeld3
import Derived.Test.YtjfmkfhjbdiojaaGreatPk13
namespace Go.Proofs.YtjfmkfhjbdiojaaGreat
set_option linter.unusedSimpArgs false
set_option linter.unusedVariables false
open Go.RowKit

def aheadB (most : Bool) (x y : Int) : Bool := if most then decide (y < x) else decide (x < y)
/-- the best of the first k blocks; -1: none -/
def bestK (most : Bool) (L : List (Int × Int)) : Nat → Int
  | 0 => -1
  | k + 1 => if (L.getD k (0, 0)).1 = 1 ∧ (bestK most L k < 0 ∨ aheadB most (L.getD k (0, 0)).2 (L.getD (bestK most L k).toNat (0, 0)).2 = true) then (k : Int) else bestK most L k
theorem bestK_bd (most : Bool) (L : List (Int × Int)) : ∀ k : Nat, -1 ≤ bestK most L k ∧ bestK most L k < k
  | 0 => by simp [bestK]
  | k + 1 => by
    have := bestK_bd most L k
    unfold bestK
    split <;> omega
theorem bestK_next (most : Bool) (L : List (Int × Int)) (k : Nat) :
    ((L.getD k (0, 0)).1 = 1 → (bestK most L k < 0 ∨ aheadB most (L.getD k (0, 0)).2 (L.getD (bestK most L k).toNat (0, 0)).2 = true) → bestK most L (k + 1) = (k : Int)) ∧
    (((L.getD k (0, 0)).1 = 1 → ¬ bestK most L k < 0 ∧ ¬ aheadB most (L.getD k (0, 0)).2 (L.getD (bestK most L k).toNat (0, 0)).2 = true) → bestK most L (k + 1) = bestK most L k) := by
  refine ⟨fun h1 h2 => if_pos ⟨h1, h2⟩, fun h => if_neg ?_⟩
  rintro ⟨h1, h2⟩
  obtain ⟨h3, h4⟩ := h h1
  rcases h2 with h2 | h2
  · exact h3 h2
  · exact h4 h2
def takeZ (most : Bool) (L : List (Int × Int)) : Int × Int := if bestK most L L.length < 0 then (0, 13) else (bestK most L L.length, 0)
def takeL (most : Bool) (L : List (Int × Int)) : List (Int × Int) := if bestK most L L.length < 0 then L else L.set (bestK most L L.length).toNat (2, (L.getD (bestK most L L.length).toNat (0, 0)).2)
theorem keep_pick {w W W' : World} {nb p q n : Nat} {x y : Int} (h : W.cell? ⟨nb, 0, none⟩ = some (.int .i64 x) ∧ W.cell? ⟨nb, 1, none⟩ = some (.int .i64 y) ∧ W.cell? ⟨p, 0, none⟩ = some (.slice (some ⟨q, 0, none⟩) n n) ∧ nb < W.heap.size ∧ p < W.heap.size ∧ Below w.heap.size w W) (hb : Below W.heap.size W W') : W'.cell? ⟨nb, 0, none⟩ = some (.int .i64 x) ∧ W'.cell? ⟨nb, 1, none⟩ = some (.int .i64 y) ∧ W'.cell? ⟨p, 0, none⟩ = some (.slice (some ⟨q, 0, none⟩) n n) ∧ nb < W'.heap.size ∧ p < W'.heap.size ∧ Below w.heap.size w W' := by
  obtain ⟨c0, c1, c2, l0, l1, hB⟩ := h
  exact ⟨cell_keep c0 l0 hb, cell_keep c1 l0 hb, cell_keep c2 l1 hb, Nat.lt_of_lt_of_le l0 hb.size, Nat.lt_of_lt_of_le l1 hb.size, below_trans hB hb⟩
theorem drew_pick {w W : World} {nb p q n : Nat} {x y : Int} (h : W.cell? ⟨nb, 0, none⟩ = some (.int .i64 x) ∧ W.cell? ⟨nb, 1, none⟩ = some (.int .i64 y) ∧ W.cell? ⟨p, 0, none⟩ = some (.slice (some ⟨q, 0, none⟩) n n) ∧ nb < W.heap.size ∧ p < W.heap.size ∧ Below w.heap.size w W) : W.drew.cell? ⟨nb, 0, none⟩ = some (.int .i64 x) ∧ W.drew.cell? ⟨nb, 1, none⟩ = some (.int .i64 y) ∧ W.drew.cell? ⟨p, 0, none⟩ = some (.slice (some ⟨q, 0, none⟩) n n) ∧ nb < W.drew.heap.size ∧ p < W.drew.heap.size ∧ Below w.heap.size w W.drew := by
  obtain ⟨c0, c1, c2, l0, l1, hB⟩ := h
  exact ⟨c0, c1, c2, l0, l1, hB.drew⟩
theorem keep_pick3 {w W W' : World} {nb p q n j : Nat} {x y u v : Int} (h : W.cell? ⟨nb, 0, none⟩ = some (.int .i64 x) ∧ W.cell? ⟨nb, 1, none⟩ = some (.int .i64 y) ∧ W.cell? ⟨p, 0, none⟩ = some (.slice (some ⟨q, 0, none⟩) n n) ∧ W.cell? ⟨q, j * 2, none⟩ = some (.int .i64 u) ∧ W.cell? ⟨q, j * 2 + 1, none⟩ = some (.int .i64 v) ∧ nb < W.heap.size ∧ p < W.heap.size ∧ q < W.heap.size ∧ Below w.heap.size w W) (hb : Below W.heap.size W W') : W'.cell? ⟨nb, 0, none⟩ = some (.int .i64 x) ∧ W'.cell? ⟨nb, 1, none⟩ = some (.int .i64 y) ∧ W'.cell? ⟨p, 0, none⟩ = some (.slice (some ⟨q, 0, none⟩) n n) ∧ W'.cell? ⟨q, j * 2, none⟩ = some (.int .i64 u) ∧ W'.cell? ⟨q, j * 2 + 1, none⟩ = some (.int .i64 v) ∧ nb < W'.heap.size ∧ p < W'.heap.size ∧ q < W'.heap.size ∧ Below w.heap.size w W' := by
  obtain ⟨c0, c1, c2, c3, c4, l0, l1, l2, hB⟩ := h
  exact ⟨cell_keep c0 l0 hb, cell_keep c1 l0 hb, cell_keep c2 l1 hb, cell_keep c3 l2 hb, cell_keep c4 l2 hb, Nat.lt_of_lt_of_le l0 hb.size, Nat.lt_of_lt_of_le l1 hb.size, Nat.lt_of_lt_of_le l2 hb.size, below_trans hB hb⟩
theorem drew_pick3 {w W : World} {nb p q n j : Nat} {x y u v : Int} (h : W.cell? ⟨nb, 0, none⟩ = some (.int .i64 x) ∧ W.cell? ⟨nb, 1, none⟩ = some (.int .i64 y) ∧ W.cell? ⟨p, 0, none⟩ = some (.slice (some ⟨q, 0, none⟩) n n) ∧ W.cell? ⟨q, j * 2, none⟩ = some (.int .i64 u) ∧ W.cell? ⟨q, j * 2 + 1, none⟩ = some (.int .i64 v) ∧ nb < W.heap.size ∧ p < W.heap.size ∧ q < W.heap.size ∧ Below w.heap.size w W) : W.drew.cell? ⟨nb, 0, none⟩ = some (.int .i64 x) ∧ W.drew.cell? ⟨nb, 1, none⟩ = some (.int .i64 y) ∧ W.drew.cell? ⟨p, 0, none⟩ = some (.slice (some ⟨q, 0, none⟩) n n) ∧ W.drew.cell? ⟨q, j * 2, none⟩ = some (.int .i64 u) ∧ W.drew.cell? ⟨q, j * 2 + 1, none⟩ = some (.int .i64 v) ∧ nb < W.drew.heap.size ∧ p < W.drew.heap.size ∧ q < W.drew.heap.size ∧ Below w.heap.size w W.drew := by
  obtain ⟨c0, c1, c2, c3, c4, l0, l1, l2, hB⟩ := h
  exact ⟨c0, c1, c2, c3, c4, l0, l1, l2, hB.drew⟩

theorem ahead_Take (x y u v : Int) (w : World) : Calls Tryz.prog 116 #[.agg #[.int .i64 x, .int .i64 y], .agg #[.int .i64 u, .int .i64 v]] w fun e w' => e = .returned (.bool (aheadB false y v)) ∧ Below w.heap.size w w' := by
  go_enter Tryz.func116, Tryz.ntmps116
  go_wp2
  go_ret
  exact ⟨ret_bb (by simp [aheadB]), by go_grown⟩

set_option maxRecDepth 100000 in
set_option maxHeartbeats 4000000 in
theorem pick_Take (p q : Nat) (L : List (Int × Int)) (hl : L.length ≤ 1000000) (w : World) (h : PoolAt w p q L) :
    Calls Tryz.prog 115 #[.pointer (some ⟨p, 0, none⟩), .func (.func 116) #[] #[]] w fun e w' => e = .returned (.tuple #[.int .i64 (takeZ false L).1, .int .i64 (takeZ false L).2]) ∧ PoolAt w' p q (takeL false L) ∧ Only q w w' := by
  have H := hide h
  obtain ⟨c0, f0⟩ := h.cells
  have lp := heap_lt h.head
  have lq := heap_lt h.row
  have HLP := hide lp
  have HLQ := hide lq
  clear h lp lq
  generalize hn : L.length = n at *
  have HN := hide hn
  clear hn
  go_enter Tryz.func115, Tryz.ntmps115
  go_wp2_with fail
  clear f0
  go_loopw [6, 16] (fun best i W => ∃ k : Nat, k ≤ n ∧ i = .int .i64 k ∧ best = .int .i64 (bestK false L k) ∧ Below w.heap.size w W) (fun _ i _ => n - (intOf i).toNat)
  case atStart => exact ⟨0, by omega, rfl, rfl, Below.refl _ _⟩
  case round =>
    clear c0
    obtain ⟨k, hk, rfl, rfl, hB⟩ := hrel
    have hP := H.out.below hB
    have HB := hide hB
    have HP := hide hP
    obtain ⟨c0, f0⟩ := hP.cells
    rw [HN.out] at c0
    have hbb := bestK_bd false L k
    by_cases hlt : k < n
    · obtain ⟨c1, c2, f1, f2⟩ := hP.at k (by rw [HN.out]; exact hlt)
      have hnx := hide (bestK_next false L k)
      have lp := heap_lt hP.head
      have lq := heap_lt hP.row
      clear hP hB f0 f1 f2
      generalize (L.getD k (0, 0)).1 = x at *
      generalize hyy : (L.getD k (0, 0)).2 = y at *
      have HYY := hide hyy
      clear hyy
      go_upto_region 7 with (fail)
      have HNB := hide (show wr.heap.size = wr.heap.size from rfl)
      by_cases hx : x = 1
      · by_cases hb : bestK false L k < 0
        · have x1 : (x == 1) = true := by simp [hx]
          have x2 : decide (bestK false L k < 0) = true := by simpa using hb
          have HR := hide (show bestK false L (k + 1) = (k : Int) from hnx.out.1 hx (Or.inl hb))
          generalize bestK false L k = bz at *
          have hS : (wr.alloc (.cells #[.int .i64 x, .int .i64 y] 117)).cell? ⟨wr.heap.size, 0, none⟩ = some (.int .i64 x) ∧ (wr.alloc (.cells #[.int .i64 x, .int .i64 y] 117)).cell? ⟨wr.heap.size, 1, none⟩ = some (.int .i64 y) ∧ (wr.alloc (.cells #[.int .i64 x, .int .i64 y] 117)).cell? ⟨p, 0, none⟩ = some (.slice (some ⟨q, 0, none⟩) n n) ∧ wr.heap.size < (wr.alloc (.cells #[.int .i64 x, .int .i64 y] 117)).heap.size ∧ p < (wr.alloc (.cells #[.int .i64 x, .int .i64 y] 117)).heap.size ∧ Below w.heap.size w (wr.alloc (.cells #[.int .i64 x, .int .i64 y] 117)) := by
            refine ⟨by simp [World.cell?_alloc_new], by simp [World.cell?_alloc_new], by rw [World.cell?_alloc_lt _ _ _ lp, c0], by simp, by simp; omega, HB.out.alloc HB.out.size _⟩
          have HS := hide hS
          clear hS c0 c1 c2 lp lq hx hb hbb hnx
          refine wp_region_held_drew (S := (fun W => W.cell? ⟨wr.heap.size, 0, none⟩ = some (.int .i64 x) ∧ W.cell? ⟨wr.heap.size, 1, none⟩ = some (.int .i64 y) ∧ W.cell? ⟨p, 0, none⟩ = some (.slice (some ⟨q, 0, none⟩) n n) ∧ wr.heap.size < W.heap.size ∧ p < W.heap.size ∧ Below w.heap.size w W)) (by kernel_rfl) (drew_pick HS.out) (fun hHeld => ?_)
          refine wpAnyH_take (i := 0) (oi := { dst := some 21, op := Op.fieldAddr 117 (Operand.tmp 8) 0, type := 0, pos := "pool.go:103", after := #[], guard := none }) (v := ?_) rfl (by kernel_rfl) (by kernel_rfl) (by kernel_rfl) (fun _ _ _ h => h) (Or.inl ⟨by kernel_rfl, ?_⟩) hHeld ?_
          rotate_left
          · (intro w hSw; (try dsimp only at hSw); go_simp); try with_reducible rfl
          try simp only [Act.put, List.setIfInBounds_toArray, List.set_cons_zero, List.set_cons_succ]
          refine wpAnyH_take (i := 1) (oi := { dst := some 22, op := Op.load 74 (Operand.tmp 21), type := 74, pos := "pool.go:103", after := #[{ on := 0, ground := Ground.data }], guard := none }) (v := ?_) rfl (by kernel_rfl) (by kernel_rfl) (by kernel_rfl) (fun _ _ _ h => h) (Or.inl ⟨by kernel_rfl, ?_⟩) hHeld ?_
          rotate_left
          · (intro w hSw; (try dsimp only at hSw); go_simp); try with_reducible rfl
          try simp only [Act.put, List.setIfInBounds_toArray, List.set_cons_zero, List.set_cons_succ]
          refine wpAnyH_take (i := 2) (oi := { dst := some 23, op := Op.binOp BinOp.eql 74 (Operand.tmp 22) (Operand.const (Value.int IntKind.i64 1)) 74, type := 4, pos := "pool.go:103", after := #[{ on := 1, ground := Ground.data }], guard := none }) (v := ?_) rfl (by kernel_rfl) (by kernel_rfl) (by kernel_rfl) (fun _ _ _ h => h) (Or.inl ⟨by kernel_rfl, ?_⟩) hHeld ?_
          rotate_left
          · (intro w hSw; (try dsimp only at hSw); go_simp); try with_reducible rfl
          try simp only [Act.put, List.setIfInBounds_toArray, List.set_cons_zero, List.set_cons_succ]
          refine wpAnyH_take (i := 3) (oi := { dst := some 24, op := Op.move (Operand.tmp 23), type := 4, pos := "pool.go:103", after := #[{ on := 2, ground := Ground.data }], guard := none }) (v := ?_) rfl (by kernel_rfl) (by kernel_rfl) (by kernel_rfl) (fun _ _ _ h => h) (Or.inl ⟨by kernel_rfl, ?_⟩) hHeld ?_
          rotate_left
          · (intro w hSw; (try dsimp only at hSw); go_simp); try with_reducible rfl
          try simp only [Act.put, List.setIfInBounds_toArray, List.set_cons_zero, List.set_cons_succ]
          refine wpAnyH_take (i := 4) (oi := { dst := some 25, op := Op.move (Operand.tmp 6), type := 3, pos := "pool.go:103", after := #[{ on := 3, ground := Ground.guard }], guard := some (3, true) }) (v := ?_) rfl (by kernel_rfl) (by kernel_rfl) (by kernel_rfl) (fun _ _ _ h => h) (Or.inl ⟨by kernel_rfl, ?_⟩) hHeld ?_
          rotate_left
          · (intro w hSw; (try dsimp only at hSw); go_simp); try with_reducible rfl
          try simp only [Act.put, List.setIfInBounds_toArray, List.set_cons_zero, List.set_cons_succ]
          refine wpAnyH_take (i := 5) (oi := { dst := some 26, op := Op.binOp BinOp.lss 3 (Operand.tmp 25) (Operand.const (Value.int IntKind.i64 0)) 3, type := 4, pos := "pool.go:103", after := #[{ on := 4, ground := Ground.data }, { on := 3, ground := Ground.guard }], guard := some (3, true) }) (v := ?_) rfl (by kernel_rfl) (by kernel_rfl) (by kernel_rfl) (fun _ _ _ h => h) (Or.inl ⟨by kernel_rfl, ?_⟩) hHeld ?_
          rotate_left
          · (intro w hSw; (try dsimp only at hSw); go_simp); try with_reducible rfl
          try simp only [Act.put, List.setIfInBounds_toArray, List.set_cons_zero, List.set_cons_succ]
          refine wpAnyH_take (i := 6) (oi := { dst := some 27, op := Op.move (Operand.tmp 26), type := 4, pos := "pool.go:103", after := #[{ on := 5, ground := Ground.data }, { on := 3, ground := Ground.chain }, { on := 3, ground := Ground.guard }], guard := some (3, true) }) (v := ?_) rfl (by kernel_rfl) (by kernel_rfl) (by kernel_rfl) (fun _ _ _ h => h) (Or.inl ⟨by kernel_rfl, ?_⟩) hHeld ?_
          rotate_left
          · (intro w hSw; (try dsimp only at hSw); go_simp); try with_reducible rfl
          try simp only [Act.put, List.setIfInBounds_toArray, List.set_cons_zero, List.set_cons_succ]
          refine wpAnyH_take (i := 7) (oi := { dst := some 28, op := Op.move (Operand.tmp 1), type := 197, pos := "pool.go:103", after := #[{ on := 6, ground := Ground.guard }], guard := some (6, false) }) (v := undef) rfl (by kernel_rfl) (by kernel_rfl) (by kernel_rfl) (fun _ _ _ h => h) (Or.inr ⟨by kernel_rfl, rfl⟩) hHeld ?_
          try simp only [Act.put, List.setIfInBounds_toArray, List.set_cons_zero, List.set_cons_succ]
          refine wpAnyH_take (i := 8) (oi := { dst := some 29, op := Op.load 117 (Operand.tmp 8), type := 117, pos := "pool.go:103", after := #[{ on := 6, ground := Ground.guard }], guard := some (6, false) }) (v := undef) rfl (by kernel_rfl) (by kernel_rfl) (by kernel_rfl) (fun _ _ _ h => h) (Or.inr ⟨by kernel_rfl, rfl⟩) hHeld ?_
          try simp only [Act.put, List.setIfInBounds_toArray, List.set_cons_zero, List.set_cons_succ]
          refine wpAnyH_take (i := 9) (oi := { dst := some 30, op := Op.move (Operand.tmp 0), type := 25, pos := "pool.go:103", after := #[{ on := 6, ground := Ground.guard }], guard := some (6, false) }) (v := undef) rfl (by kernel_rfl) (by kernel_rfl) (by kernel_rfl) (fun _ _ _ h => h) (Or.inr ⟨by kernel_rfl, rfl⟩) hHeld ?_
          try simp only [Act.put, List.setIfInBounds_toArray, List.set_cons_zero, List.set_cons_succ]
          refine wpAnyH_take (i := 10) (oi := { dst := some 31, op := Op.nilCheck (Operand.tmp 30), type := 0, pos := "pool.go:103", after := #[{ on := 9, ground := Ground.data }, { on := 6, ground := Ground.guard }], guard := some (6, false) }) (v := undef) rfl (by kernel_rfl) (by kernel_rfl) (by kernel_rfl) (fun _ _ _ h => h) (Or.inr ⟨by kernel_rfl, rfl⟩) hHeld ?_
          try simp only [Act.put, List.setIfInBounds_toArray, List.set_cons_zero, List.set_cons_succ]
          refine wpAnyH_take (i := 11) (oi := { dst := some 32, op := Op.fieldAddr 115 (Operand.tmp 31) 0, type := 0, pos := "pool.go:103", after := #[{ on := 10, ground := Ground.data }, { on := 6, ground := Ground.guard }], guard := some (6, false) }) (v := undef) rfl (by kernel_rfl) (by kernel_rfl) (by kernel_rfl) (fun _ _ _ h => h) (Or.inr ⟨by kernel_rfl, rfl⟩) hHeld ?_
          try simp only [Act.put, List.setIfInBounds_toArray, List.set_cons_zero, List.set_cons_succ]
          refine wpAnyH_take (i := 12) (oi := { dst := some 33, op := Op.load 113 (Operand.tmp 32), type := 113, pos := "pool.go:103", after := #[{ on := 11, ground := Ground.data }, { on := 6, ground := Ground.guard }], guard := some (6, false) }) (v := undef) rfl (by kernel_rfl) (by kernel_rfl) (by kernel_rfl) (fun _ _ _ h => h) (Or.inr ⟨by kernel_rfl, rfl⟩) hHeld ?_
          try simp only [Act.put, List.setIfInBounds_toArray, List.set_cons_zero, List.set_cons_succ]
          refine wpAnyH_take (i := 13) (oi := { dst := some 34, op := Op.move (Operand.tmp 6), type := 3, pos := "pool.go:103", after := #[{ on := 6, ground := Ground.guard }], guard := some (6, false) }) (v := undef) rfl (by kernel_rfl) (by kernel_rfl) (by kernel_rfl) (fun _ _ _ h => h) (Or.inr ⟨by kernel_rfl, rfl⟩) hHeld ?_
          try simp only [Act.put, List.setIfInBounds_toArray, List.set_cons_zero, List.set_cons_succ]
          refine wpAnyH_take (i := 14) (oi := { dst := some 35, op := Op.indexAddr 113 (Operand.tmp 33) (Operand.tmp 34), type := 0, pos := "pool.go:103", after := #[{ on := 12, ground := Ground.data }, { on := 13, ground := Ground.data }, { on := 6, ground := Ground.guard }], guard := some (6, false) }) (v := undef) rfl (by kernel_rfl) (by kernel_rfl) (by kernel_rfl) (fun _ _ _ h => h) (Or.inr ⟨by kernel_rfl, rfl⟩) hHeld ?_
          try simp only [Act.put, List.setIfInBounds_toArray, List.set_cons_zero, List.set_cons_succ]
          refine wpAnyH_take (i := 15) (oi := { dst := some 36, op := Op.load 117 (Operand.tmp 35), type := 117, pos := "pool.go:103", after := #[{ on := 14, ground := Ground.data }, { on := 6, ground := Ground.guard }], guard := some (6, false) }) (v := undef) rfl (by kernel_rfl) (by kernel_rfl) (by kernel_rfl) (fun _ _ _ h => h) (Or.inr ⟨by kernel_rfl, rfl⟩) hHeld ?_
          try simp only [Act.put, List.setIfInBounds_toArray, List.set_cons_zero, List.set_cons_succ]
          refine wpAnyH_take (i := 16) (oi := { dst := some 37, op := Op.call { callee := Callee.value (Operand.tmp 28), args := #[Operand.tmp 29, Operand.tmp 36], argTypes := #[117, 117] }, type := 4, pos := "pool.go:103", after := #[{ on := 7, ground := Ground.data }, { on := 8, ground := Ground.data }, { on := 15, ground := Ground.data }, { on := 6, ground := Ground.chain }, { on := 6, ground := Ground.guard }], guard := some (6, false) }) (v := undef) rfl (by kernel_rfl) (by kernel_rfl) (by kernel_rfl) (fun _ _ _ h => h) (Or.inr ⟨by kernel_rfl, rfl⟩) hHeld ?_
          try simp only [Act.put, List.setIfInBounds_toArray, List.set_cons_zero, List.set_cons_succ]
          refine wpAnyH_take (i := 17) (oi := { dst := some 38, op := Op.pick (Operand.tmp 27) (Operand.const (Value.bool true)) (Operand.tmp 37), type := 4, pos := "pool.go:103", after := #[{ on := 6, ground := Ground.data }, { on := 16, ground := Ground.data }, { on := 3, ground := Ground.guard }], guard := some (3, true) }) (v := ?_) rfl (by kernel_rfl) (by kernel_rfl) (by kernel_rfl) (fun _ _ _ h => h) (Or.inl ⟨by kernel_rfl, ?_⟩) hHeld ?_
          rotate_left
          · (intro w hSw; (try dsimp only at hSw); go_simp); try with_reducible rfl
          try simp only [Act.put, List.setIfInBounds_toArray, List.set_cons_zero, List.set_cons_succ]
          refine wpAnyH_take (i := 18) (oi := { dst := some 39, op := Op.pick (Operand.tmp 24) (Operand.tmp 38) (Operand.const (Value.bool false)), type := 4, pos := "pool.go:103", after := #[{ on := 3, ground := Ground.data }, { on := 17, ground := Ground.data }], guard := none }) (v := ?_) rfl (by kernel_rfl) (by kernel_rfl) (by kernel_rfl) (fun _ _ _ h => h) (Or.inl ⟨by kernel_rfl, ?_⟩) hHeld ?_
          rotate_left
          · (intro w hSw; (try dsimp only at hSw); go_simp); try with_reducible rfl
          try simp only [Act.put, List.setIfInBounds_toArray, List.set_cons_zero, List.set_cons_succ]
          refine wpAnyH_done (by kernel_rfl) ?_ _
          go_wp2
          go_roundw
          case rel => exact ⟨k + 1, by omega, by go_num, by rw [HR.out], hHeld.2.2.2.2.2⟩
          case measure => simp [intOf]; omega
        · obtain ⟨j, hj⟩ := Int.eq_ofNat_of_zero_le (show 0 ≤ bestK false L k by omega)
          have hjn : j < n := by omega
          obtain ⟨c3, c4, _, _⟩ := HP.out.at j (by rw [HN.out]; exact hjn)
          have x1 : (x == 1) = true := by simp [hx]
          have x2 : decide ((j : Int) < 0) = false := by simp
          have x3 : (0 : Int) ≤ (j : Int) := by omega
          have x4 : (j : Int) < (n : Int) := by omega
          have HR := hide (show bestK false L (k + 1) = if aheadB false y (L.getD j (0, 0)).2 = true then (k : Int) else j from by
            split
            · rename_i ha
              exact hnx.out.1 hx (Or.inr (by rw [hj, Int.toNat_natCast]; exact ha))
            · rename_i ha
              rw [← hj]
              exact hnx.out.2 (fun _ => ⟨hb, by rw [hj, Int.toNat_natCast]; exact ha⟩))
          rw [hj]
          have G7 := hide (fun W => ahead_Take x y (L.getD j (0, 0)).1 (L.getD j (0, 0)).2 W)
          generalize (L.getD j (0, 0)).1 = u at *
          generalize (L.getD j (0, 0)).2 = v at *
          have hS : (wr.alloc (.cells #[.int .i64 x, .int .i64 y] 117)).cell? ⟨wr.heap.size, 0, none⟩ = some (.int .i64 x) ∧ (wr.alloc (.cells #[.int .i64 x, .int .i64 y] 117)).cell? ⟨wr.heap.size, 1, none⟩ = some (.int .i64 y) ∧ (wr.alloc (.cells #[.int .i64 x, .int .i64 y] 117)).cell? ⟨p, 0, none⟩ = some (.slice (some ⟨q, 0, none⟩) n n) ∧ (wr.alloc (.cells #[.int .i64 x, .int .i64 y] 117)).cell? ⟨q, j * 2, none⟩ = some (.int .i64 u) ∧ (wr.alloc (.cells #[.int .i64 x, .int .i64 y] 117)).cell? ⟨q, j * 2 + 1, none⟩ = some (.int .i64 v) ∧ wr.heap.size < (wr.alloc (.cells #[.int .i64 x, .int .i64 y] 117)).heap.size ∧ p < (wr.alloc (.cells #[.int .i64 x, .int .i64 y] 117)).heap.size ∧ q < (wr.alloc (.cells #[.int .i64 x, .int .i64 y] 117)).heap.size ∧ Below w.heap.size w (wr.alloc (.cells #[.int .i64 x, .int .i64 y] 117)) := by
            refine ⟨by simp [World.cell?_alloc_new], by simp [World.cell?_alloc_new], by rw [World.cell?_alloc_lt _ _ _ lp, c0], by rw [World.cell?_alloc_lt _ _ _ lq, c3], by rw [World.cell?_alloc_lt _ _ _ lq, c4], by simp, by simp; omega, by simp; omega, HB.out.alloc HB.out.size _⟩
          have HS := hide hS
          clear hS c0 c1 c2 c3 c4 lp lq hx hb hbb hnx hj
          generalize aheadB false y v = av at *
          cases av
          all_goals
            refine wp_region_held_drew (S := (fun W => W.cell? ⟨wr.heap.size, 0, none⟩ = some (.int .i64 x) ∧ W.cell? ⟨wr.heap.size, 1, none⟩ = some (.int .i64 y) ∧ W.cell? ⟨p, 0, none⟩ = some (.slice (some ⟨q, 0, none⟩) n n) ∧ W.cell? ⟨q, j * 2, none⟩ = some (.int .i64 u) ∧ W.cell? ⟨q, j * 2 + 1, none⟩ = some (.int .i64 v) ∧ wr.heap.size < W.heap.size ∧ p < W.heap.size ∧ q < W.heap.size ∧ Below w.heap.size w W)) (by kernel_rfl) (drew_pick3 HS.out) (fun hHeld => ?_)
            refine wpAnyH_take (i := 0) (oi := { dst := some 21, op := Op.fieldAddr 117 (Operand.tmp 8) 0, type := 0, pos := "pool.go:103", after := #[], guard := none }) (v := ?_) rfl (by kernel_rfl) (by kernel_rfl) (by kernel_rfl) (fun _ _ _ h => h) (Or.inl ⟨by kernel_rfl, ?_⟩) hHeld ?_
            rotate_left
            · (intro w hSw; (try dsimp only at hSw); go_simp); try with_reducible rfl
            try simp only [Act.put, List.setIfInBounds_toArray, List.set_cons_zero, List.set_cons_succ]
            refine wpAnyH_take (i := 1) (oi := { dst := some 22, op := Op.load 74 (Operand.tmp 21), type := 74, pos := "pool.go:103", after := #[{ on := 0, ground := Ground.data }], guard := none }) (v := ?_) rfl (by kernel_rfl) (by kernel_rfl) (by kernel_rfl) (fun _ _ _ h => h) (Or.inl ⟨by kernel_rfl, ?_⟩) hHeld ?_
            rotate_left
            · (intro w hSw; (try dsimp only at hSw); go_simp); try with_reducible rfl
            try simp only [Act.put, List.setIfInBounds_toArray, List.set_cons_zero, List.set_cons_succ]
            refine wpAnyH_take (i := 2) (oi := { dst := some 23, op := Op.binOp BinOp.eql 74 (Operand.tmp 22) (Operand.const (Value.int IntKind.i64 1)) 74, type := 4, pos := "pool.go:103", after := #[{ on := 1, ground := Ground.data }], guard := none }) (v := ?_) rfl (by kernel_rfl) (by kernel_rfl) (by kernel_rfl) (fun _ _ _ h => h) (Or.inl ⟨by kernel_rfl, ?_⟩) hHeld ?_
            rotate_left
            · (intro w hSw; (try dsimp only at hSw); go_simp); try with_reducible rfl
            try simp only [Act.put, List.setIfInBounds_toArray, List.set_cons_zero, List.set_cons_succ]
            refine wpAnyH_take (i := 3) (oi := { dst := some 24, op := Op.move (Operand.tmp 23), type := 4, pos := "pool.go:103", after := #[{ on := 2, ground := Ground.data }], guard := none }) (v := ?_) rfl (by kernel_rfl) (by kernel_rfl) (by kernel_rfl) (fun _ _ _ h => h) (Or.inl ⟨by kernel_rfl, ?_⟩) hHeld ?_
            rotate_left
            · (intro w hSw; (try dsimp only at hSw); go_simp); try with_reducible rfl
            try simp only [Act.put, List.setIfInBounds_toArray, List.set_cons_zero, List.set_cons_succ]
            refine wpAnyH_take (i := 4) (oi := { dst := some 25, op := Op.move (Operand.tmp 6), type := 3, pos := "pool.go:103", after := #[{ on := 3, ground := Ground.guard }], guard := some (3, true) }) (v := ?_) rfl (by kernel_rfl) (by kernel_rfl) (by kernel_rfl) (fun _ _ _ h => h) (Or.inl ⟨by kernel_rfl, ?_⟩) hHeld ?_
            rotate_left
            · (intro w hSw; (try dsimp only at hSw); go_simp); try with_reducible rfl
            try simp only [Act.put, List.setIfInBounds_toArray, List.set_cons_zero, List.set_cons_succ]
            refine wpAnyH_take (i := 5) (oi := { dst := some 26, op := Op.binOp BinOp.lss 3 (Operand.tmp 25) (Operand.const (Value.int IntKind.i64 0)) 3, type := 4, pos := "pool.go:103", after := #[{ on := 4, ground := Ground.data }, { on := 3, ground := Ground.guard }], guard := some (3, true) }) (v := ?_) rfl (by kernel_rfl) (by kernel_rfl) (by kernel_rfl) (fun _ _ _ h => h) (Or.inl ⟨by kernel_rfl, ?_⟩) hHeld ?_
            rotate_left
            · (intro w hSw; (try dsimp only at hSw); go_simp); try with_reducible rfl
            try simp only [Act.put, List.setIfInBounds_toArray, List.set_cons_zero, List.set_cons_succ]
            refine wpAnyH_take (i := 6) (oi := { dst := some 27, op := Op.move (Operand.tmp 26), type := 4, pos := "pool.go:103", after := #[{ on := 5, ground := Ground.data }, { on := 3, ground := Ground.chain }, { on := 3, ground := Ground.guard }], guard := some (3, true) }) (v := ?_) rfl (by kernel_rfl) (by kernel_rfl) (by kernel_rfl) (fun _ _ _ h => h) (Or.inl ⟨by kernel_rfl, ?_⟩) hHeld ?_
            rotate_left
            · (intro w hSw; (try dsimp only at hSw); go_simp); try with_reducible rfl
            try simp only [Act.put, List.setIfInBounds_toArray, List.set_cons_zero, List.set_cons_succ]
            refine wpAnyH_take (i := 7) (oi := { dst := some 28, op := Op.move (Operand.tmp 1), type := 197, pos := "pool.go:103", after := #[{ on := 6, ground := Ground.guard }], guard := some (6, false) }) (v := ?_) rfl (by kernel_rfl) (by kernel_rfl) (by kernel_rfl) (fun _ _ _ h => h) (Or.inl ⟨by kernel_rfl, ?_⟩) hHeld ?_
            rotate_left
            · (intro w hSw; (try dsimp only at hSw); go_simp); try with_reducible rfl
            try simp only [Act.put, List.setIfInBounds_toArray, List.set_cons_zero, List.set_cons_succ]
            refine wpAnyH_take (i := 8) (oi := { dst := some 29, op := Op.load 117 (Operand.tmp 8), type := 117, pos := "pool.go:103", after := #[{ on := 6, ground := Ground.guard }], guard := some (6, false) }) (v := ?_) rfl (by kernel_rfl) (by kernel_rfl) (by kernel_rfl) (fun _ _ _ h => h) (Or.inl ⟨by kernel_rfl, ?_⟩) hHeld ?_
            rotate_left
            · (intro w hSw; (try dsimp only at hSw); go_simp); try with_reducible rfl
            try simp only [Act.put, List.setIfInBounds_toArray, List.set_cons_zero, List.set_cons_succ]
            refine wpAnyH_take (i := 9) (oi := { dst := some 30, op := Op.move (Operand.tmp 0), type := 25, pos := "pool.go:103", after := #[{ on := 6, ground := Ground.guard }], guard := some (6, false) }) (v := ?_) rfl (by kernel_rfl) (by kernel_rfl) (by kernel_rfl) (fun _ _ _ h => h) (Or.inl ⟨by kernel_rfl, ?_⟩) hHeld ?_
            rotate_left
            · (intro w hSw; (try dsimp only at hSw); go_simp); try with_reducible rfl
            try simp only [Act.put, List.setIfInBounds_toArray, List.set_cons_zero, List.set_cons_succ]
            refine wpAnyH_take (i := 10) (oi := { dst := some 31, op := Op.nilCheck (Operand.tmp 30), type := 0, pos := "pool.go:103", after := #[{ on := 9, ground := Ground.data }, { on := 6, ground := Ground.guard }], guard := some (6, false) }) (v := ?_) rfl (by kernel_rfl) (by kernel_rfl) (by kernel_rfl) (fun _ _ _ h => h) (Or.inl ⟨by kernel_rfl, ?_⟩) hHeld ?_
            rotate_left
            · (intro w hSw; (try dsimp only at hSw); go_simp); try with_reducible rfl
            try simp only [Act.put, List.setIfInBounds_toArray, List.set_cons_zero, List.set_cons_succ]
            refine wpAnyH_take (i := 11) (oi := { dst := some 32, op := Op.fieldAddr 115 (Operand.tmp 31) 0, type := 0, pos := "pool.go:103", after := #[{ on := 10, ground := Ground.data }, { on := 6, ground := Ground.guard }], guard := some (6, false) }) (v := ?_) rfl (by kernel_rfl) (by kernel_rfl) (by kernel_rfl) (fun _ _ _ h => h) (Or.inl ⟨by kernel_rfl, ?_⟩) hHeld ?_
            rotate_left
            · (intro w hSw; (try dsimp only at hSw); go_simp); try with_reducible rfl
            try simp only [Act.put, List.setIfInBounds_toArray, List.set_cons_zero, List.set_cons_succ]
            refine wpAnyH_take (i := 12) (oi := { dst := some 33, op := Op.load 113 (Operand.tmp 32), type := 113, pos := "pool.go:103", after := #[{ on := 11, ground := Ground.data }, { on := 6, ground := Ground.guard }], guard := some (6, false) }) (v := ?_) rfl (by kernel_rfl) (by kernel_rfl) (by kernel_rfl) (fun _ _ _ h => h) (Or.inl ⟨by kernel_rfl, ?_⟩) hHeld ?_
            rotate_left
            · (intro w hSw; (try dsimp only at hSw); go_simp); try with_reducible rfl
            try simp only [Act.put, List.setIfInBounds_toArray, List.set_cons_zero, List.set_cons_succ]
            refine wpAnyH_take (i := 13) (oi := { dst := some 34, op := Op.move (Operand.tmp 6), type := 3, pos := "pool.go:103", after := #[{ on := 6, ground := Ground.guard }], guard := some (6, false) }) (v := ?_) rfl (by kernel_rfl) (by kernel_rfl) (by kernel_rfl) (fun _ _ _ h => h) (Or.inl ⟨by kernel_rfl, ?_⟩) hHeld ?_
            rotate_left
            · (intro w hSw; (try dsimp only at hSw); go_simp); try with_reducible rfl
            try simp only [Act.put, List.setIfInBounds_toArray, List.set_cons_zero, List.set_cons_succ]
            refine wpAnyH_take (i := 14) (oi := { dst := some 35, op := Op.indexAddr 113 (Operand.tmp 33) (Operand.tmp 34), type := 0, pos := "pool.go:103", after := #[{ on := 12, ground := Ground.data }, { on := 13, ground := Ground.data }, { on := 6, ground := Ground.guard }], guard := some (6, false) }) (v := ?_) rfl (by kernel_rfl) (by kernel_rfl) (by kernel_rfl) (fun _ _ _ h => h) (Or.inl ⟨by kernel_rfl, ?_⟩) hHeld ?_
            rotate_left
            · (intro w hSw; (try dsimp only at hSw); go_simp); try with_reducible rfl
            try simp only [Act.put, List.setIfInBounds_toArray, List.set_cons_zero, List.set_cons_succ]
            refine wpAnyH_take (i := 15) (oi := { dst := some 36, op := Op.load 117 (Operand.tmp 35), type := 117, pos := "pool.go:103", after := #[{ on := 14, ground := Ground.data }, { on := 6, ground := Ground.guard }], guard := some (6, false) }) (v := ?_) rfl (by kernel_rfl) (by kernel_rfl) (by kernel_rfl) (fun _ _ _ h => h) (Or.inl ⟨by kernel_rfl, ?_⟩) hHeld ?_
            rotate_left
            · (intro w hSw; (try dsimp only at hSw); go_simp); try with_reducible rfl
            try simp only [Act.put, List.setIfInBounds_toArray, List.set_cons_zero, List.set_cons_succ]
            refine wpAnyH_ready (rs := [16]) (by kernel_rfl) (by simp) ?_
            refine AllReadyH.cons (o := { dst := some 37, op := Op.call { callee := Callee.value (Operand.tmp 28), args := #[Operand.tmp 29, Operand.tmp 36], argTypes := #[117, 117] }, type := 4, pos := "pool.go:103", after := #[{ on := 7, ground := Ground.data }, { on := 8, ground := Ground.data }, { on := 15, ground := Ground.data }, { on := 6, ground := Ground.chain }, { on := 6, ground := Ground.guard }], guard := some (6, false) }) rfl (fun K hK => ?_) AllReadyH.nil
            have hOld := hide hHeld
            clear hHeld
            go_simp
            (with_reducible refine (G7.out _).mono ?_); rintro e w2 ⟨rfl, hb2⟩
            (try go_wp2_with fail)
            refine hK.out _ _ (keep_pick3 hOld.out hb2) (fun hHeld => ?_)
            clear hK K hOld
            try simp only [Act.put, List.setIfInBounds_toArray, List.set_cons_zero, List.set_cons_succ]
            refine wpAnyH_take (i := 17) (oi := { dst := some 38, op := Op.pick (Operand.tmp 27) (Operand.const (Value.bool true)) (Operand.tmp 37), type := 4, pos := "pool.go:103", after := #[{ on := 6, ground := Ground.data }, { on := 16, ground := Ground.data }, { on := 3, ground := Ground.guard }], guard := some (3, true) }) (v := ?_) rfl (by kernel_rfl) (by kernel_rfl) (by kernel_rfl) (fun _ _ _ h => h) (Or.inl ⟨by kernel_rfl, ?_⟩) hHeld ?_
            rotate_left
            · (intro w hSw; (try dsimp only at hSw); go_simp); try with_reducible rfl
            try simp only [Act.put, List.setIfInBounds_toArray, List.set_cons_zero, List.set_cons_succ]
            refine wpAnyH_take (i := 18) (oi := { dst := some 39, op := Op.pick (Operand.tmp 24) (Operand.tmp 38) (Operand.const (Value.bool false)), type := 4, pos := "pool.go:103", after := #[{ on := 3, ground := Ground.data }, { on := 17, ground := Ground.data }], guard := none }) (v := ?_) rfl (by kernel_rfl) (by kernel_rfl) (by kernel_rfl) (fun _ _ _ h => h) (Or.inl ⟨by kernel_rfl, ?_⟩) hHeld ?_
            rotate_left
            · (intro w hSw; (try dsimp only at hSw); go_simp); try with_reducible rfl
            try simp only [Act.put, List.setIfInBounds_toArray, List.set_cons_zero, List.set_cons_succ]
            refine wpAnyH_done (by kernel_rfl) ?_ _
            go_wp2
            go_roundw
            case rel => exact ⟨k + 1, by omega, by go_num, by rw [HR.out]; rfl, hHeld.2.2.2.2.2.2.2.2⟩
            case measure => simp [intOf]; omega
      · have x1 : (x == 1) = false := by simp [hx]
        have HR := hide (show bestK false L (k + 1) = bestK false L k from hnx.out.2 (fun h => absurd h hx))
        generalize bestK false L k = bz at *
        have hS : (wr.alloc (.cells #[.int .i64 x, .int .i64 y] 117)).cell? ⟨wr.heap.size, 0, none⟩ = some (.int .i64 x) ∧ (wr.alloc (.cells #[.int .i64 x, .int .i64 y] 117)).cell? ⟨wr.heap.size, 1, none⟩ = some (.int .i64 y) ∧ (wr.alloc (.cells #[.int .i64 x, .int .i64 y] 117)).cell? ⟨p, 0, none⟩ = some (.slice (some ⟨q, 0, none⟩) n n) ∧ wr.heap.size < (wr.alloc (.cells #[.int .i64 x, .int .i64 y] 117)).heap.size ∧ p < (wr.alloc (.cells #[.int .i64 x, .int .i64 y] 117)).heap.size ∧ Below w.heap.size w (wr.alloc (.cells #[.int .i64 x, .int .i64 y] 117)) := by
          refine ⟨by simp [World.cell?_alloc_new], by simp [World.cell?_alloc_new], by rw [World.cell?_alloc_lt _ _ _ lp, c0], by simp, by simp; omega, HB.out.alloc HB.out.size _⟩
        have HS := hide hS
        clear hS c0 c1 c2 lp lq hx hbb hnx
        skip
        refine wp_region_held_drew (S := (fun W => W.cell? ⟨wr.heap.size, 0, none⟩ = some (.int .i64 x) ∧ W.cell? ⟨wr.heap.size, 1, none⟩ = some (.int .i64 y) ∧ W.cell? ⟨p, 0, none⟩ = some (.slice (some ⟨q, 0, none⟩) n n) ∧ wr.heap.size < W.heap.size ∧ p < W.heap.size ∧ Below w.heap.size w W)) (by kernel_rfl) (drew_pick HS.out) (fun hHeld => ?_)
        refine wpAnyH_take (i := 0) (oi := { dst := some 21, op := Op.fieldAddr 117 (Operand.tmp 8) 0, type := 0, pos := "pool.go:103", after := #[], guard := none }) (v := ?_) rfl (by kernel_rfl) (by kernel_rfl) (by kernel_rfl) (fun _ _ _ h => h) (Or.inl ⟨by kernel_rfl, ?_⟩) hHeld ?_
        rotate_left
        · (intro w hSw; (try dsimp only at hSw); go_simp); try with_reducible rfl
        try simp only [Act.put, List.setIfInBounds_toArray, List.set_cons_zero, List.set_cons_succ]
        refine wpAnyH_take (i := 1) (oi := { dst := some 22, op := Op.load 74 (Operand.tmp 21), type := 74, pos := "pool.go:103", after := #[{ on := 0, ground := Ground.data }], guard := none }) (v := ?_) rfl (by kernel_rfl) (by kernel_rfl) (by kernel_rfl) (fun _ _ _ h => h) (Or.inl ⟨by kernel_rfl, ?_⟩) hHeld ?_
        rotate_left
        · (intro w hSw; (try dsimp only at hSw); go_simp); try with_reducible rfl
        try simp only [Act.put, List.setIfInBounds_toArray, List.set_cons_zero, List.set_cons_succ]
        refine wpAnyH_take (i := 2) (oi := { dst := some 23, op := Op.binOp BinOp.eql 74 (Operand.tmp 22) (Operand.const (Value.int IntKind.i64 1)) 74, type := 4, pos := "pool.go:103", after := #[{ on := 1, ground := Ground.data }], guard := none }) (v := ?_) rfl (by kernel_rfl) (by kernel_rfl) (by kernel_rfl) (fun _ _ _ h => h) (Or.inl ⟨by kernel_rfl, ?_⟩) hHeld ?_
        rotate_left
        · (intro w hSw; (try dsimp only at hSw); go_simp); try with_reducible rfl
        try simp only [Act.put, List.setIfInBounds_toArray, List.set_cons_zero, List.set_cons_succ]
        refine wpAnyH_take (i := 3) (oi := { dst := some 24, op := Op.move (Operand.tmp 23), type := 4, pos := "pool.go:103", after := #[{ on := 2, ground := Ground.data }], guard := none }) (v := ?_) rfl (by kernel_rfl) (by kernel_rfl) (by kernel_rfl) (fun _ _ _ h => h) (Or.inl ⟨by kernel_rfl, ?_⟩) hHeld ?_
        rotate_left
        · (intro w hSw; (try dsimp only at hSw); go_simp); try with_reducible rfl
        try simp only [Act.put, List.setIfInBounds_toArray, List.set_cons_zero, List.set_cons_succ]
        refine wpAnyH_take (i := 4) (oi := { dst := some 25, op := Op.move (Operand.tmp 6), type := 3, pos := "pool.go:103", after := #[{ on := 3, ground := Ground.guard }], guard := some (3, true) }) (v := undef) rfl (by kernel_rfl) (by kernel_rfl) (by kernel_rfl) (fun _ _ _ h => h) (Or.inr ⟨by kernel_rfl, rfl⟩) hHeld ?_
        try simp only [Act.put, List.setIfInBounds_toArray, List.set_cons_zero, List.set_cons_succ]
        refine wpAnyH_take (i := 5) (oi := { dst := some 26, op := Op.binOp BinOp.lss 3 (Operand.tmp 25) (Operand.const (Value.int IntKind.i64 0)) 3, type := 4, pos := "pool.go:103", after := #[{ on := 4, ground := Ground.data }, { on := 3, ground := Ground.guard }], guard := some (3, true) }) (v := undef) rfl (by kernel_rfl) (by kernel_rfl) (by kernel_rfl) (fun _ _ _ h => h) (Or.inr ⟨by kernel_rfl, rfl⟩) hHeld ?_
        try simp only [Act.put, List.setIfInBounds_toArray, List.set_cons_zero, List.set_cons_succ]
        refine wpAnyH_take (i := 6) (oi := { dst := some 27, op := Op.move (Operand.tmp 26), type := 4, pos := "pool.go:103", after := #[{ on := 5, ground := Ground.data }, { on := 3, ground := Ground.chain }, { on := 3, ground := Ground.guard }], guard := some (3, true) }) (v := undef) rfl (by kernel_rfl) (by kernel_rfl) (by kernel_rfl) (fun _ _ _ h => h) (Or.inr ⟨by kernel_rfl, rfl⟩) hHeld ?_
        try simp only [Act.put, List.setIfInBounds_toArray, List.set_cons_zero, List.set_cons_succ]
        refine wpAnyH_take (i := 7) (oi := { dst := some 28, op := Op.move (Operand.tmp 1), type := 197, pos := "pool.go:103", after := #[{ on := 6, ground := Ground.guard }], guard := some (6, false) }) (v := undef) rfl (by kernel_rfl) (by kernel_rfl) (by kernel_rfl) (fun _ _ _ h => h) (Or.inr ⟨by kernel_rfl, rfl⟩) hHeld ?_
        try simp only [Act.put, List.setIfInBounds_toArray, List.set_cons_zero, List.set_cons_succ]
        refine wpAnyH_take (i := 8) (oi := { dst := some 29, op := Op.load 117 (Operand.tmp 8), type := 117, pos := "pool.go:103", after := #[{ on := 6, ground := Ground.guard }], guard := some (6, false) }) (v := undef) rfl (by kernel_rfl) (by kernel_rfl) (by kernel_rfl) (fun _ _ _ h => h) (Or.inr ⟨by kernel_rfl, rfl⟩) hHeld ?_
        try simp only [Act.put, List.setIfInBounds_toArray, List.set_cons_zero, List.set_cons_succ]
        refine wpAnyH_take (i := 9) (oi := { dst := some 30, op := Op.move (Operand.tmp 0), type := 25, pos := "pool.go:103", after := #[{ on := 6, ground := Ground.guard }], guard := some (6, false) }) (v := undef) rfl (by kernel_rfl) (by kernel_rfl) (by kernel_rfl) (fun _ _ _ h => h) (Or.inr ⟨by kernel_rfl, rfl⟩) hHeld ?_
        try simp only [Act.put, List.setIfInBounds_toArray, List.set_cons_zero, List.set_cons_succ]
        refine wpAnyH_take (i := 10) (oi := { dst := some 31, op := Op.nilCheck (Operand.tmp 30), type := 0, pos := "pool.go:103", after := #[{ on := 9, ground := Ground.data }, { on := 6, ground := Ground.guard }], guard := some (6, false) }) (v := undef) rfl (by kernel_rfl) (by kernel_rfl) (by kernel_rfl) (fun _ _ _ h => h) (Or.inr ⟨by kernel_rfl, rfl⟩) hHeld ?_
        try simp only [Act.put, List.setIfInBounds_toArray, List.set_cons_zero, List.set_cons_succ]
        refine wpAnyH_take (i := 11) (oi := { dst := some 32, op := Op.fieldAddr 115 (Operand.tmp 31) 0, type := 0, pos := "pool.go:103", after := #[{ on := 10, ground := Ground.data }, { on := 6, ground := Ground.guard }], guard := some (6, false) }) (v := undef) rfl (by kernel_rfl) (by kernel_rfl) (by kernel_rfl) (fun _ _ _ h => h) (Or.inr ⟨by kernel_rfl, rfl⟩) hHeld ?_
        try simp only [Act.put, List.setIfInBounds_toArray, List.set_cons_zero, List.set_cons_succ]
        refine wpAnyH_take (i := 12) (oi := { dst := some 33, op := Op.load 113 (Operand.tmp 32), type := 113, pos := "pool.go:103", after := #[{ on := 11, ground := Ground.data }, { on := 6, ground := Ground.guard }], guard := some (6, false) }) (v := undef) rfl (by kernel_rfl) (by kernel_rfl) (by kernel_rfl) (fun _ _ _ h => h) (Or.inr ⟨by kernel_rfl, rfl⟩) hHeld ?_
        try simp only [Act.put, List.setIfInBounds_toArray, List.set_cons_zero, List.set_cons_succ]
        refine wpAnyH_take (i := 13) (oi := { dst := some 34, op := Op.move (Operand.tmp 6), type := 3, pos := "pool.go:103", after := #[{ on := 6, ground := Ground.guard }], guard := some (6, false) }) (v := undef) rfl (by kernel_rfl) (by kernel_rfl) (by kernel_rfl) (fun _ _ _ h => h) (Or.inr ⟨by kernel_rfl, rfl⟩) hHeld ?_
        try simp only [Act.put, List.setIfInBounds_toArray, List.set_cons_zero, List.set_cons_succ]
        refine wpAnyH_take (i := 14) (oi := { dst := some 35, op := Op.indexAddr 113 (Operand.tmp 33) (Operand.tmp 34), type := 0, pos := "pool.go:103", after := #[{ on := 12, ground := Ground.data }, { on := 13, ground := Ground.data }, { on := 6, ground := Ground.guard }], guard := some (6, false) }) (v := undef) rfl (by kernel_rfl) (by kernel_rfl) (by kernel_rfl) (fun _ _ _ h => h) (Or.inr ⟨by kernel_rfl, rfl⟩) hHeld ?_
        try simp only [Act.put, List.setIfInBounds_toArray, List.set_cons_zero, List.set_cons_succ]
        refine wpAnyH_take (i := 15) (oi := { dst := some 36, op := Op.load 117 (Operand.tmp 35), type := 117, pos := "pool.go:103", after := #[{ on := 14, ground := Ground.data }, { on := 6, ground := Ground.guard }], guard := some (6, false) }) (v := undef) rfl (by kernel_rfl) (by kernel_rfl) (by kernel_rfl) (fun _ _ _ h => h) (Or.inr ⟨by kernel_rfl, rfl⟩) hHeld ?_
        try simp only [Act.put, List.setIfInBounds_toArray, List.set_cons_zero, List.set_cons_succ]
        refine wpAnyH_take (i := 16) (oi := { dst := some 37, op := Op.call { callee := Callee.value (Operand.tmp 28), args := #[Operand.tmp 29, Operand.tmp 36], argTypes := #[117, 117] }, type := 4, pos := "pool.go:103", after := #[{ on := 7, ground := Ground.data }, { on := 8, ground := Ground.data }, { on := 15, ground := Ground.data }, { on := 6, ground := Ground.chain }, { on := 6, ground := Ground.guard }], guard := some (6, false) }) (v := undef) rfl (by kernel_rfl) (by kernel_rfl) (by kernel_rfl) (fun _ _ _ h => h) (Or.inr ⟨by kernel_rfl, rfl⟩) hHeld ?_
        try simp only [Act.put, List.setIfInBounds_toArray, List.set_cons_zero, List.set_cons_succ]
        refine wpAnyH_take (i := 17) (oi := { dst := some 38, op := Op.pick (Operand.tmp 27) (Operand.const (Value.bool true)) (Operand.tmp 37), type := 4, pos := "pool.go:103", after := #[{ on := 6, ground := Ground.data }, { on := 16, ground := Ground.data }, { on := 3, ground := Ground.guard }], guard := some (3, true) }) (v := undef) rfl (by kernel_rfl) (by kernel_rfl) (by kernel_rfl) (fun _ _ _ h => h) (Or.inr ⟨by kernel_rfl, rfl⟩) hHeld ?_
        try simp only [Act.put, List.setIfInBounds_toArray, List.set_cons_zero, List.set_cons_succ]
        refine wpAnyH_take (i := 18) (oi := { dst := some 39, op := Op.pick (Operand.tmp 24) (Operand.tmp 38) (Operand.const (Value.bool false)), type := 4, pos := "pool.go:103", after := #[{ on := 3, ground := Ground.data }, { on := 17, ground := Ground.data }], guard := none }) (v := ?_) rfl (by kernel_rfl) (by kernel_rfl) (by kernel_rfl) (fun _ _ _ h => h) (Or.inl ⟨by kernel_rfl, ?_⟩) hHeld ?_
        rotate_left
        · (intro w hSw; (try dsimp only at hSw); go_simp); try with_reducible rfl
        try simp only [Act.put, List.setIfInBounds_toArray, List.set_cons_zero, List.set_cons_succ]
        refine wpAnyH_done (by kernel_rfl) ?_ _
        go_wp2
        go_roundw
        case rel => exact ⟨k + 1, by omega, by go_num, by rw [HR.out], hHeld.2.2.2.2.2⟩
        case measure => simp [intOf]; omega
    · obtain rfl : k = n := by omega
      clear hP hB f0
      by_cases hb : bestK false L k < 0
      · have HZ := hide (show takeZ false L = (0, 13) by rw [takeZ, HN.out]; exact if_pos hb)
        have HL := hide (show takeL false L = L by rw [takeL, HN.out]; exact if_pos hb)
        generalize bestK false L k = bz at *
        clear c0
        go_wp2
        go_ret2
        exact ⟨by rw [HZ.out]; rfl, by rw [HL.out]; exact HP.out, Only.of_below HB.out⟩
      · obtain ⟨j, hj⟩ := Int.eq_ofNat_of_zero_le (show 0 ≤ bestK false L k by omega)
        have hjn : j < L.length := by rw [HN.out]; omega
        have hjk : j < k := by omega
        have HZ := hide (show takeZ false L = ((j : Int), 0) by rw [takeZ, HN.out, if_neg hb, hj])
        have HL := hide (show takeL false L = L.set j (2, (L.getD j (0, 0)).2) by rw [takeL, HN.out, if_neg hb, hj, Int.toNat_natCast])
        obtain ⟨c1, c2, f1, f2⟩ := HP.out.at j hjn
        have HSET := hide (HP.out.setFst j hjn 2)
        rw [hj]
        clear hb hbb hj
        go_wp2
        go_ret2
        exact ⟨by rw [HZ.out]; rfl, by rw [HL.out]; exact HSET.out, (Only.of_below HB.out).trans (Only.setCell _ _ _)⟩
theorem ptake_any (p q : Nat) (L : List (Int × Int)) (hl : L.length ≤ 1000000) (w : World) (h : PoolAt w p q L) :
    Calls Tryz.prog 91 #[.pointer (some ⟨p, 0, none⟩)] w fun e w' => e = .returned (.tuple #[.int .i64 (takeZ false L).1, .int .i64 (takeZ false L).2]) ∧ PoolAt w' p q (takeL false L) ∧ Only q w w' := by
  have H := hide (pick_Take p q L hl w h)
  generalize takeZ false L = z at *
  generalize takeL false L = l at *
  clear h
  go_enter Tryz.func91, Tryz.ntmps91
  go_wp2_with fail
  refine H.out.mono ?_
  rintro e w1 ⟨rfl, hp, ho⟩
  have HP := hide hp
  have HO := hide ho
  clear hp ho
  go_wp2
  go_ret2
  exact ⟨rfl, HP.out, HO.out⟩
theorem pick_Take_nil {w : World} : Calls Tryz.prog 115 #[.pointer none, .func (.func 116) #[] #[]] w fun e w' => e = .returned (.tuple #[.int .i64 0, .int .i64 1]) ∧ w = w' := by
  go_enter Tryz.func115, Tryz.ntmps115
  go_wp2
  go_ret2
  exact ⟨rfl, rfl⟩
theorem ptake_nil (w : World) : Calls Tryz.prog 91 #[.pointer none] w fun e w' => e = .returned (.tuple #[.int .i64 0, .int .i64 1]) ∧ w = w' := by
  go_enter Tryz.func91, Tryz.ntmps91
  go_wp2_with fail
  refine pick_Take_nil.mono ?_
  rintro e w1 ⟨rfl, rfl⟩
  go_wp2
  go_ret2
  exact ⟨rfl, rfl⟩

end Go.Proofs.YtjfmkfhjbdiojaaGreat

namespace Go.Proofs.YtjfmkfhjbdiojaaGreat
set_option linter.unusedSimpArgs false
set_option linter.unusedVariables false
open Go.RowKit

/-- how many of the first k blocks are so -/
def cntK (L : List (Int × Int)) (s : Int) : Nat → Nat
  | 0 => 0
  | k + 1 => if ((L.getD k (0, 0)).1 == s) = true then cntK L s k + 1 else cntK L s k
theorem cntK_le (L : List (Int × Int)) (s : Int) : ∀ k, cntK L s k ≤ k
  | 0 => Nat.le_refl _
  | k + 1 => by have := cntK_le L s k; unfold cntK; split <;> omega
/-- the least and the greatest wear of the first k blocks that aren't bad -/
def spK (L : List (Int × Int)) : Nat → Int × Int
  | 0 => (-1, 0)
  | k + 1 => if (L.getD k (0, 0)).1 = 3 then spK L k else
      (if (spK L k).1 < 0 ∨ (L.getD k (0, 0)).2 < (spK L k).1 then (L.getD k (0, 0)).2 else (spK L k).1, if (spK L k).2 < (L.getD k (0, 0)).2 then (L.getD k (0, 0)).2 else (spK L k).2)
def spreadZ (L : List (Int × Int)) : Int × Int := (if (spK L L.length).1 < 0 then 0 else (spK L L.length).1, (spK L L.length).2)

theorem pcount_nil (s : Int) (w : World) : Calls Tryz.prog 25 #[.pointer none, .int .i64 s] w fun e w' => e = .returned (.int .i64 0) ∧ w = w' := by
  go_enter Tryz.func25, Tryz.ntmps25
  go_wp2
  go_ret
  exact ⟨rfl, rfl⟩
set_option maxRecDepth 100000 in
set_option maxHeartbeats 1000000 in
theorem pcount_any (p q : Nat) (L : List (Int × Int)) (hl : L.length ≤ 1000000) (s : Int) (w : World) (h : PoolAt w p q L) :
    Calls Tryz.prog 25 #[.pointer (some ⟨p, 0, none⟩), .int .i64 s] w fun e w' => e = .returned (.int .i64 (cntK L s L.length : Int)) ∧ Below w.heap.size w w' := by
  have H := hide h
  obtain ⟨c0, f0⟩ := h.cells
  clear h
  generalize hn : L.length = n at *
  have HN := hide hn
  clear hn f0
  go_enter Tryz.func25, Tryz.ntmps25
  go_wp2_with fail
  clear c0
  go_loopw [5, 15] (fun c i W => ∃ k : Nat, k ≤ n ∧ i = .int .i64 k ∧ c = .int .i64 (cntK L s k : Int) ∧ Below w.heap.size w W) (fun _ i _ => n - (intOf i).toNat)
  case atStart => exact ⟨0, by omega, rfl, rfl, Below.refl _ _⟩
  case round =>
    obtain ⟨k, hk, rfl, rfl, hB⟩ := hrel
    have hP := H.out.below hB
    have HB := hide hB
    have hck := cntK_le L s k
    by_cases hlt : k < n
    · obtain ⟨c1, c2, f1, f2⟩ := hP.at k (by rw [HN.out]; exact hlt)
      have hnx := hide (show cntK L s (k + 1) = if ((L.getD k (0, 0)).1 == s) = true then cntK L s k + 1 else cntK L s k from rfl)
      clear hP hB f1 f2
      generalize (L.getD k (0, 0)).1 = x at *
      generalize (L.getD k (0, 0)).2 = y at *
      generalize cntK L s k = c at *
      by_cases hx : (x == s) = true
      · go_wp2_with fail
        go_roundw
        case rel => exact ⟨k + 1, by omega, by go_num, by rw [hnx.out, if_pos hx]; go_num, HB.out.alloc HB.out.size _⟩
        case measure => simp [intOf]; omega
      · have hx' : (x == s) = false := by simpa using hx
        go_wp2_with fail
        go_roundw
        case rel => exact ⟨k + 1, by omega, by go_num, by rw [hnx.out, if_neg hx], HB.out.alloc HB.out.size _⟩
        case measure => simp [intOf]; omega
    · obtain rfl : k = n := by omega
      clear hP hB
      go_wp2_with fail
      go_ret
      exact ⟨rfl, HB.out⟩

theorem spread_nil (w : World) : Calls Tryz.prog 17 #[.pointer none] w fun e w' => e = .returned (.tuple #[.int .i64 0, .int .i64 0]) ∧ w = w' := by
  go_enter Tryz.func17, Tryz.ntmps17
  go_wp2
  go_ret2
  exact ⟨rfl, rfl⟩
theorem made_pairs (n : Nat) : madeCells #[Value.int .i64 0, Value.int .i64 0] (n * 2) = (flat2 (List.replicate n (0, 0))).toArray := by
  apply Array.toList_inj.1
  apply List.ext_getElem?
  intro j
  have hz : ∀ i, i < n → ((List.replicate n ((0 : Int), (0 : Int))).getD i (0, 0)) = (0, 0) := fun i hi => by simp [List.getD, hi]
  by_cases hj : j < n * 2
  · have h1 : (madeCells #[Value.int .i64 0, Value.int .i64 0] (n * 2)).toList[j]? = some (Value.int .i64 0) := by
      simp only [madeCells, Array.toList_map, Array.toList_range, List.getElem?_map, List.getElem?_range hj, Option.map_some]
      rcases Nat.mod_two_eq_zero_or_one j with h | h <;> simp [h]
    rw [h1]
    rcases Nat.mod_two_eq_zero_or_one j with h | h
    · have := flat2_fst (List.replicate n (0, 0)) (j / 2) (by simp; omega)
      rw [hz _ (by omega), show j / 2 * 2 = j by omega] at this
      simpa using this.symm
    · have := flat2_snd (List.replicate n (0, 0)) (j / 2) (by simp; omega)
      rw [hz _ (by omega), show j / 2 * 2 + 1 = j by omega] at this
      simpa using this.symm
  · rw [List.getElem?_eq_none (by simp [size_madeCells]; omega), List.getElem?_eq_none (by simp [flat2_length]; omega)]

/-- the blocks behind k rounds of New -/
def newK (n k : Nat) : List (Int × Int) := List.replicate k (1, 0) ++ List.replicate (n - k) (0, 0)
theorem newK_length (n k : Nat) (h : k ≤ n) : (newK n k).length = n := by simp [newK]; omega
theorem newK_next (n k : Nat) (h : k < n) : (newK n k).set k (1, ((newK n k).getD k (0, 0)).2) = newK n (k + 1) := by
  unfold newK
  rw [show n - k = (n - (k + 1)) + 1 by omega, List.replicate_succ, List.set_append_right _ _ (by simp)]
  simp [List.getD, List.replicate_succ', List.append_assoc]
theorem pnew_no (n : Int) (h : n < 1 ∨ 256 < n) (w : World) : Calls Tryz.prog 21 #[.int .i64 n] w fun e w' => e = .returned (.tuple #[.pointer none, .int .i64 2]) ∧ w = w' := by
  rcases h with h | h
  · go_enter Tryz.func21, Tryz.ntmps21
    go_wp2
    go_ret2
    exact ⟨rfl, rfl⟩
  · have h1 : ¬ n < 1 := by omega
    go_enter Tryz.func21, Tryz.ntmps21
    go_wp2
    go_ret2
    exact ⟨rfl, rfl⟩
theorem make_pairs (n : Nat) (h : n ≤ 256) (W : World) : (Instr.makeSlice 113 (.int .i64 (n : Int)) (.int .i64 (n : Int))).run Tryz.prog W = .ok (.slice (some ⟨W.heap.size, 0, none⟩) n n) (W.alloc (.cells (flat2 (List.replicate n (0, 0))).toArray 117)) := by
  obtain ⟨i, hi, hz, hs, hbb⟩ := info_parts (show (Tryz.prog.info? 117).map (fun i => (i.zero, i.size, i.bytes)) = some (some (.agg #[.int .i64 0, .int .i64 0]), 2, 16) by kernel_rfl)
  have hr := run_make (P := Tryz.prog) W 113 117 i _ Tryz.underlying113 hi hz .i64 .i64 n n (by omega) (Int.le_refl _) (by rw [hbb]; omega) (by omega)
  rw [hs, Int.toNat_natCast] at hr
  rw [hr, show (Value.agg #[.int .i64 0, .int .i64 0]).cells = #[.int .i64 0, .int .i64 0] from rfl, made_pairs]
set_option maxRecDepth 100000 in
set_option maxHeartbeats 1000000 in
theorem pnew_yes (n : Nat) (h0 : 1 ≤ n) (h1 : n ≤ 256) (w : World) :
    Calls Tryz.prog 21 #[.int .i64 (n : Int)] w fun e w' => e = .returned (.tuple #[.pointer (some ⟨w.heap.size + 1, 0, none⟩), .int .i64 0]) ∧ PoolAt w' (w.heap.size + 1) w.heap.size (List.replicate n (1, 0)) ∧ Below w.heap.size w w' := by
  have hmk := make_pairs n h1
  have H0 := hide (show PoolAt ((w.alloc (.cells (flat2 (List.replicate n (0, 0))).toArray 117)).alloc (.cells #[.slice (some ⟨w.heap.size, 0, none⟩) n n] 115)) (w.heap.size + 1) w.heap.size (newK n 0) from
    ⟨by have := heap_new (w.alloc (.cells (flat2 (List.replicate n (0, 0))).toArray 117)) (.cells #[.slice (some ⟨w.heap.size, 0, none⟩) n n] 115); rw [newK_length n 0 (by omega)]; simpa using this,
     by rw [heap_old _ _ _ (by simp), heap_new]; simp [newK], by omega⟩)
  go_enter Tryz.func21, Tryz.ntmps21
  go_wp2_with fail
  clear hmk
  go_loopw [21] (fun i W => ∃ k : Nat, k ≤ n ∧ i = .int .i64 k ∧ PoolAt W (w.heap.size + 1) w.heap.size (newK n k) ∧ Below w.heap.size w W) (fun i _ => n - (intOf i).toNat)
  case atStart => exact ⟨0, by omega, rfl, H0.out, ((Below.refl _ _).alloc (Nat.le_refl _) _).alloc (by simp) _⟩
  case round =>
    obtain ⟨k, hk, rfl, hP, hB⟩ := hrel
    have HP := hide hP
    have HB := hide hB
    by_cases hlt : k < n
    · obtain ⟨c0, f0⟩ := hP.cells
      rw [newK_length n k hk] at c0
      obtain ⟨c1, c2, f1, f2⟩ := hP.at k (by rw [newK_length n k hk]; exact hlt)
      have hset := hP.setFst k (by rw [newK_length n k hk]; exact hlt) 1
      rw [newK_next n k hlt] at hset
      have HSET := hide hset
      clear hP hB f0 f2 hset c2
      generalize ((newK n k).getD k (0, 0)).1 = x at *
      go_wp2_with fail
      go_roundw
      case rel => exact ⟨k + 1, by omega, by go_num, HSET.out, HB.out.setCell (Nat.le_refl _) _⟩
      case measure => simp [intOf]; omega
    · obtain rfl : k = n := by omega
      have HF := hide (show PoolAt wr (w.heap.size + 1) w.heap.size (List.replicate k (1, 0)) by have := hP; rw [show newK k k = List.replicate k (1, 0) by simp [newK]] at this; exact this)
      clear hP hB
      go_wp2_with fail
      go_ret2
      exact ⟨rfl, HF.out, HB.out⟩
end Go.Proofs.YtjfmkfhjbdiojaaGreat

namespace Go.Proofs.YtjfmkfhjbdiojaaGreat
set_option linter.unusedSimpArgs false
set_option linter.unusedVariables false
open Go.RowKit
theorem rw_load {P : Program} {ops : Array Oper} {rest : List Oper} {o : Oper} {a : Act} {w : World} {Q : Exit → Act → World → Prop} (hgd : o.guard = none) (ty : TypeId) (x : Operand) (ho : o.op = .load ty x)
    (g : Nat) (hx : a.eval x = .pointer (some ⟨g, 0, none⟩)) (t : TypeId) (cs : Array Value) (fr : Nat × Nat) (d : TypeDesc) (hg : w.heap[g]? = some (.cells cs t fr))
    (hu : P.underlying ty = some d) (hd : (match d with | .struct _ | .array _ _ => true | _ => false) = true) (hi : (P.info? ty).map (·.size) = some cs.size)
    (h : wpList P ops Q rest (a.put o.dst (.agg cs)) w) : wpList P ops Q (o :: rest) a w :=
  wpList_plain hgd fun _ hK => wp_load_row ty x ho g hx t cs fr d hg hu hd hi (hK _ _ h)
theorem rw_storeO {P : Program} {o : Oper} {a : Act} {w : World} {K : Act → World → Prop} {Q : Exit → Act → World → Prop} (ty : TypeId) (x y : Operand) (ho : o.op = .store ty x y)
    (g : Nat) (hx : a.eval x = .pointer (some ⟨g, 0, none⟩)) (cs : Array Value) (hy : a.eval y = .agg cs) (old : Array Value) (hg : w.heap[g]? = some (.cells old ty (0, 0)))
    (hi : (P.info? ty).map (·.size) = some cs.size) (hs : old.size = cs.size) (h1 : cs.all (·.oneCell') = true)
    (h : K (a.put o.dst undef) (w.setRow g cs)) : o.wp P a w K Q := by
  unfold Oper.wp execOp
  simp only [ho, hx, hy, Instr.storeAt, Instr.sureAddr, Sem.run_bind, Sem.run_pure, Result.andThen_ok, run_storeVar_row w g ty ty old cs hg hi hs h1]
  exact h
theorem rw_store {P : Program} {ops : Array Oper} {rest : List Oper} {o : Oper} {a : Act} {w : World} {Q : Exit → Act → World → Prop} (hgd : o.guard = none) (ty : TypeId) (x y : Operand) (ho : o.op = .store ty x y)
    (g : Nat) (hx : a.eval x = .pointer (some ⟨g, 0, none⟩)) (cs : Array Value) (hy : a.eval y = .agg cs) (old : Array Value) (hg : w.heap[g]? = some (.cells old ty (0, 0)))
    (hi : (P.info? ty).map (·.size) = some cs.size) (hs : old.size = cs.size) (h1 : cs.all (·.oneCell') = true)
    (h : wpList P ops Q rest (a.put o.dst undef) (w.setRow g cs)) : wpList P ops Q (o :: rest) a w :=
  wpList_plain hgd fun _ hK => rw_storeO ty x y ho g hx cs hy old hg hi hs h1 (hK _ _ h)
theorem setRow_same {w : World} {g : Nat} {old cs : Array Value} {t : TypeId} {fr : Nat × Nat} (h : w.heap[g]? = some (.cells old t fr)) : (w.setRow g cs).heap[g]? = some (.cells cs t fr) := by
  unfold World.setRow
  simp [Array.getElem?_modify, h]
theorem setRow_diff {w : World} {g k : Nat} {cs : Array Value} (h : g ≠ k) : (w.setRow g cs).heap[k]? = w.heap[k]? := by
  unfold World.setRow
  simp [Array.getElem?_modify, h]
theorem setRow_size (w : World) (g : Nat) (cs : Array Value) : (w.setRow g cs).heap.size = w.heap.size := by
  unfold World.setRow
  simp
theorem setRow_only (w : World) (g : Nat) (cs : Array Value) : Only g w (w.setRow g cs) := ⟨rfl, rfl, rfl, by rw [setRow_size]; exact Nat.le_refl _, fun k _ hk => setRow_diff (Ne.symm hk)⟩
theorem setRow_below {B : Nat} {w0 w : World} {g : Nat} (h : Below B w0 w) (hg : B ≤ g) (hB : B ≤ w.heap.size) (cs : Array Value) : Below B w0 (w.setRow g cs) := (setRow_only w g cs).below h hg hB
theorem setRow_keeps {Ts : List TypeId} {w : World} {g : Nat} {c : Array Value} {t : TypeId} {fz : Nat × Nat} (h : w.heap[g]? = some (.cells c t fz)) (ht : t ∈ Ts) (cs : Array Value) : KeepsT Ts w (w.setRow g cs) := fun k o hk hn => by
  have hne : g ≠ k := fun e => by
    subst e
    rw [h] at hk
    exact hn _ _ _ (Option.some.inj hk).symm ht
  rw [setRow_diff hne]
  exact hk
end Go.Proofs.YtjfmkfhjbdiojaaGreat
