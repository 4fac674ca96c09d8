/-
  Layer 7: GeoGrows returns true at every config.
-/
import Derived.Test.YtmhpnlfjonfghaaLaw7b
import Derived.Deep.DeepCutAuto
namespace Go.Proofs.Ytmhpnlfjonfghaa
set_option linter.unusedSimpArgs false
set_option linter.unusedVariables false
open Go.RowKit Go.WideShapes Go.ChangeShapes Go.ChangeAt

theorem keep_grow {w W W' : World} {m A B : Nat} {b c p s sp lo ba le : Int} (h : W.cell? ⟨m, 0, none⟩ = some (.int .i64 b) ∧ W.cell? ⟨m, 1, none⟩ = some (.int .i64 p) ∧ W.cell? ⟨m, 2, none⟩ = some (.int .i64 s) ∧ W.cell? ⟨m, 3, none⟩ = some (.int .i64 sp) ∧ W.cell? ⟨m, 4, none⟩ = some (.int .i64 lo) ∧ W.cell? ⟨m, 5, none⟩ = some (.int .i64 ba) ∧ W.cell? ⟨m, 6, none⟩ = some (.int .i64 le) ∧ W.cell? ⟨A, 0, none⟩ = some (.int .i64 b) ∧ W.cell? ⟨A, 1, none⟩ = some (.int .i64 p) ∧ W.cell? ⟨A, 2, none⟩ = some (.int .i64 s) ∧ W.cell? ⟨B, 0, none⟩ = some (.int .i64 c) ∧ W.cell? ⟨B, 1, none⟩ = some (.int .i64 p) ∧ W.cell? ⟨B, 2, none⟩ = some (.int .i64 s) ∧ W.frozen? ⟨B, 0, none⟩ = false ∧ W.frozen? ⟨m, 4, none⟩ = false ∧ m < W.heap.size ∧ A < W.heap.size ∧ B < W.heap.size ∧ Below w.heap.size w W) (hb : Below W.heap.size W W') : W'.cell? ⟨m, 0, none⟩ = some (.int .i64 b) ∧ W'.cell? ⟨m, 1, none⟩ = some (.int .i64 p) ∧ W'.cell? ⟨m, 2, none⟩ = some (.int .i64 s) ∧ W'.cell? ⟨m, 3, none⟩ = some (.int .i64 sp) ∧ W'.cell? ⟨m, 4, none⟩ = some (.int .i64 lo) ∧ W'.cell? ⟨m, 5, none⟩ = some (.int .i64 ba) ∧ W'.cell? ⟨m, 6, none⟩ = some (.int .i64 le) ∧ W'.cell? ⟨A, 0, none⟩ = some (.int .i64 b) ∧ W'.cell? ⟨A, 1, none⟩ = some (.int .i64 p) ∧ W'.cell? ⟨A, 2, none⟩ = some (.int .i64 s) ∧ W'.cell? ⟨B, 0, none⟩ = some (.int .i64 c) ∧ W'.cell? ⟨B, 1, none⟩ = some (.int .i64 p) ∧ W'.cell? ⟨B, 2, none⟩ = some (.int .i64 s) ∧ W'.frozen? ⟨B, 0, none⟩ = false ∧ W'.frozen? ⟨m, 4, none⟩ = false ∧ m < W'.heap.size ∧ A < W'.heap.size ∧ B < W'.heap.size ∧ Below w.heap.size w W' := by
  obtain ⟨c0, c1, c2, c3, c4, c5, c6, c7, c8, c9, c10, c11, c12, f0, f1, l0, l1, l2, hB⟩ := h
  exact ⟨cell_keep c0 l0 hb, cell_keep c1 l0 hb, cell_keep c2 l0 hb, cell_keep c3 l0 hb, cell_keep c4 l0 hb, cell_keep c5 l0 hb, cell_keep c6 l0 hb, cell_keep c7 l1 hb, cell_keep c8 l1 hb, cell_keep c9 l1 hb, cell_keep c10 l2 hb, cell_keep c11 l2 hb, cell_keep c12 l2 hb, free_keep f0 l2 hb, free_keep f1 l0 hb, Nat.lt_of_lt_of_le l0 hb.size, Nat.lt_of_lt_of_le l1 hb.size, Nat.lt_of_lt_of_le l2 hb.size, below_trans hB hb⟩
theorem drew_grow {w W : World} {m A B : Nat} {b c p s sp lo ba le : Int} (h : W.cell? ⟨m, 0, none⟩ = some (.int .i64 b) ∧ W.cell? ⟨m, 1, none⟩ = some (.int .i64 p) ∧ W.cell? ⟨m, 2, none⟩ = some (.int .i64 s) ∧ W.cell? ⟨m, 3, none⟩ = some (.int .i64 sp) ∧ W.cell? ⟨m, 4, none⟩ = some (.int .i64 lo) ∧ W.cell? ⟨m, 5, none⟩ = some (.int .i64 ba) ∧ W.cell? ⟨m, 6, none⟩ = some (.int .i64 le) ∧ W.cell? ⟨A, 0, none⟩ = some (.int .i64 b) ∧ W.cell? ⟨A, 1, none⟩ = some (.int .i64 p) ∧ W.cell? ⟨A, 2, none⟩ = some (.int .i64 s) ∧ W.cell? ⟨B, 0, none⟩ = some (.int .i64 c) ∧ W.cell? ⟨B, 1, none⟩ = some (.int .i64 p) ∧ W.cell? ⟨B, 2, none⟩ = some (.int .i64 s) ∧ W.frozen? ⟨B, 0, none⟩ = false ∧ W.frozen? ⟨m, 4, none⟩ = false ∧ m < W.heap.size ∧ A < W.heap.size ∧ B < W.heap.size ∧ Below w.heap.size w W) : W.drew.cell? ⟨m, 0, none⟩ = some (.int .i64 b) ∧ W.drew.cell? ⟨m, 1, none⟩ = some (.int .i64 p) ∧ W.drew.cell? ⟨m, 2, none⟩ = some (.int .i64 s) ∧ W.drew.cell? ⟨m, 3, none⟩ = some (.int .i64 sp) ∧ W.drew.cell? ⟨m, 4, none⟩ = some (.int .i64 lo) ∧ W.drew.cell? ⟨m, 5, none⟩ = some (.int .i64 ba) ∧ W.drew.cell? ⟨m, 6, none⟩ = some (.int .i64 le) ∧ W.drew.cell? ⟨A, 0, none⟩ = some (.int .i64 b) ∧ W.drew.cell? ⟨A, 1, none⟩ = some (.int .i64 p) ∧ W.drew.cell? ⟨A, 2, none⟩ = some (.int .i64 s) ∧ W.drew.cell? ⟨B, 0, none⟩ = some (.int .i64 c) ∧ W.drew.cell? ⟨B, 1, none⟩ = some (.int .i64 p) ∧ W.drew.cell? ⟨B, 2, none⟩ = some (.int .i64 s) ∧ W.drew.frozen? ⟨B, 0, none⟩ = false ∧ W.drew.frozen? ⟨m, 4, none⟩ = false ∧ m < W.drew.heap.size ∧ A < W.drew.heap.size ∧ B < W.drew.heap.size ∧ Below w.heap.size w W.drew := by
  obtain ⟨c0, c1, c2, c3, c4, c5, c6, c7, c8, c9, c10, c11, c12, f0, f1, l0, l1, l2, hB⟩ := h
  exact ⟨c0, c1, c2, c3, c4, c5, c6, c7, c8, c9, c10, c11, c12, f0, f1, l0, l1, l2, hB.drew⟩

theorem store_growB {w W : World} {m A B : Nat} {b c p s sp lo ba le : Int} {y : Int} (n0 : B ≠ m) (n1 : B ≠ A) (hbase : w.heap.size ≤ B) (h : W.cell? ⟨m, 0, none⟩ = some (.int .i64 b) ∧ W.cell? ⟨m, 1, none⟩ = some (.int .i64 p) ∧ W.cell? ⟨m, 2, none⟩ = some (.int .i64 s) ∧ W.cell? ⟨m, 3, none⟩ = some (.int .i64 sp) ∧ W.cell? ⟨m, 4, none⟩ = some (.int .i64 lo) ∧ W.cell? ⟨m, 5, none⟩ = some (.int .i64 ba) ∧ W.cell? ⟨m, 6, none⟩ = some (.int .i64 le) ∧ W.cell? ⟨A, 0, none⟩ = some (.int .i64 b) ∧ W.cell? ⟨A, 1, none⟩ = some (.int .i64 p) ∧ W.cell? ⟨A, 2, none⟩ = some (.int .i64 s) ∧ W.cell? ⟨B, 0, none⟩ = some (.int .i64 c) ∧ W.cell? ⟨B, 1, none⟩ = some (.int .i64 p) ∧ W.cell? ⟨B, 2, none⟩ = some (.int .i64 s) ∧ W.frozen? ⟨B, 0, none⟩ = false ∧ W.frozen? ⟨m, 4, none⟩ = false ∧ m < W.heap.size ∧ A < W.heap.size ∧ B < W.heap.size ∧ Below w.heap.size w W) : (W.setCell ⟨B, 0, none⟩ (.int .i64 y)).cell? ⟨m, 0, none⟩ = some (.int .i64 b) ∧ (W.setCell ⟨B, 0, none⟩ (.int .i64 y)).cell? ⟨m, 1, none⟩ = some (.int .i64 p) ∧ (W.setCell ⟨B, 0, none⟩ (.int .i64 y)).cell? ⟨m, 2, none⟩ = some (.int .i64 s) ∧ (W.setCell ⟨B, 0, none⟩ (.int .i64 y)).cell? ⟨m, 3, none⟩ = some (.int .i64 sp) ∧ (W.setCell ⟨B, 0, none⟩ (.int .i64 y)).cell? ⟨m, 4, none⟩ = some (.int .i64 lo) ∧ (W.setCell ⟨B, 0, none⟩ (.int .i64 y)).cell? ⟨m, 5, none⟩ = some (.int .i64 ba) ∧ (W.setCell ⟨B, 0, none⟩ (.int .i64 y)).cell? ⟨m, 6, none⟩ = some (.int .i64 le) ∧ (W.setCell ⟨B, 0, none⟩ (.int .i64 y)).cell? ⟨A, 0, none⟩ = some (.int .i64 b) ∧ (W.setCell ⟨B, 0, none⟩ (.int .i64 y)).cell? ⟨A, 1, none⟩ = some (.int .i64 p) ∧ (W.setCell ⟨B, 0, none⟩ (.int .i64 y)).cell? ⟨A, 2, none⟩ = some (.int .i64 s) ∧ (W.setCell ⟨B, 0, none⟩ (.int .i64 y)).cell? ⟨B, 0, none⟩ = some (.int .i64 y) ∧ (W.setCell ⟨B, 0, none⟩ (.int .i64 y)).cell? ⟨B, 1, none⟩ = some (.int .i64 p) ∧ (W.setCell ⟨B, 0, none⟩ (.int .i64 y)).cell? ⟨B, 2, none⟩ = some (.int .i64 s) ∧ (W.setCell ⟨B, 0, none⟩ (.int .i64 y)).frozen? ⟨B, 0, none⟩ = false ∧ (W.setCell ⟨B, 0, none⟩ (.int .i64 y)).frozen? ⟨m, 4, none⟩ = false ∧ m < (W.setCell ⟨B, 0, none⟩ (.int .i64 y)).heap.size ∧ A < (W.setCell ⟨B, 0, none⟩ (.int .i64 y)).heap.size ∧ B < (W.setCell ⟨B, 0, none⟩ (.int .i64 y)).heap.size ∧ Below w.heap.size w (W.setCell ⟨B, 0, none⟩ (.int .i64 y)) := by
  obtain ⟨c0, c1, c2, c3, c4, c5, c6, c7, c8, c9, c10, c11, c12, f0, f1, l0, l1, l2, hB⟩ := h
  exact ⟨(World.cell?_setCell_other _ _ _ _ (fun h => n0 (congrArg Addr.block h))).trans c0, (World.cell?_setCell_other _ _ _ _ (fun h => n0 (congrArg Addr.block h))).trans c1, (World.cell?_setCell_other _ _ _ _ (fun h => n0 (congrArg Addr.block h))).trans c2, (World.cell?_setCell_other _ _ _ _ (fun h => n0 (congrArg Addr.block h))).trans c3, (World.cell?_setCell_other _ _ _ _ (fun h => n0 (congrArg Addr.block h))).trans c4, (World.cell?_setCell_other _ _ _ _ (fun h => n0 (congrArg Addr.block h))).trans c5, (World.cell?_setCell_other _ _ _ _ (fun h => n0 (congrArg Addr.block h))).trans c6, (World.cell?_setCell_other _ _ _ _ (fun h => n1 (congrArg Addr.block h))).trans c7, (World.cell?_setCell_other _ _ _ _ (fun h => n1 (congrArg Addr.block h))).trans c8, (World.cell?_setCell_other _ _ _ _ (fun h => n1 (congrArg Addr.block h))).trans c9, World.cell?_setCell_same _ _ _ c10, (World.cell?_setCell_other _ _ _ _ (fun h => absurd (show (0 : Nat) = 1 from congrArg Addr.off h) (by decide))).trans c11, (World.cell?_setCell_other _ _ _ _ (fun h => absurd (show (0 : Nat) = 2 from congrArg Addr.off h) (by decide))).trans c12, (World.frozen?_setCell _ _ _ _).trans f0, (World.frozen?_setCell _ _ _ _).trans f1, Nat.lt_of_lt_of_eq l0 (World.size_setCell _ _ _).symm, Nat.lt_of_lt_of_eq l1 (World.size_setCell _ _ _).symm, Nat.lt_of_lt_of_eq l2 (World.size_setCell _ _ _).symm, hB.setCell hbase _⟩

theorem store_growL {w W : World} {m A B : Nat} {b c p s sp lo ba le : Int} {y : Int} (n0 : m ≠ A) (n1 : m ≠ B) (hbase : w.heap.size ≤ m) (h : W.cell? ⟨m, 0, none⟩ = some (.int .i64 b) ∧ W.cell? ⟨m, 1, none⟩ = some (.int .i64 p) ∧ W.cell? ⟨m, 2, none⟩ = some (.int .i64 s) ∧ W.cell? ⟨m, 3, none⟩ = some (.int .i64 sp) ∧ W.cell? ⟨m, 4, none⟩ = some (.int .i64 lo) ∧ W.cell? ⟨m, 5, none⟩ = some (.int .i64 ba) ∧ W.cell? ⟨m, 6, none⟩ = some (.int .i64 le) ∧ W.cell? ⟨A, 0, none⟩ = some (.int .i64 b) ∧ W.cell? ⟨A, 1, none⟩ = some (.int .i64 p) ∧ W.cell? ⟨A, 2, none⟩ = some (.int .i64 s) ∧ W.cell? ⟨B, 0, none⟩ = some (.int .i64 c) ∧ W.cell? ⟨B, 1, none⟩ = some (.int .i64 p) ∧ W.cell? ⟨B, 2, none⟩ = some (.int .i64 s) ∧ W.frozen? ⟨B, 0, none⟩ = false ∧ W.frozen? ⟨m, 4, none⟩ = false ∧ m < W.heap.size ∧ A < W.heap.size ∧ B < W.heap.size ∧ Below w.heap.size w W) : (W.setCell ⟨m, 4, none⟩ (.int .i64 y)).cell? ⟨m, 0, none⟩ = some (.int .i64 b) ∧ (W.setCell ⟨m, 4, none⟩ (.int .i64 y)).cell? ⟨m, 1, none⟩ = some (.int .i64 p) ∧ (W.setCell ⟨m, 4, none⟩ (.int .i64 y)).cell? ⟨m, 2, none⟩ = some (.int .i64 s) ∧ (W.setCell ⟨m, 4, none⟩ (.int .i64 y)).cell? ⟨m, 3, none⟩ = some (.int .i64 sp) ∧ (W.setCell ⟨m, 4, none⟩ (.int .i64 y)).cell? ⟨m, 4, none⟩ = some (.int .i64 y) ∧ (W.setCell ⟨m, 4, none⟩ (.int .i64 y)).cell? ⟨m, 5, none⟩ = some (.int .i64 ba) ∧ (W.setCell ⟨m, 4, none⟩ (.int .i64 y)).cell? ⟨m, 6, none⟩ = some (.int .i64 le) ∧ (W.setCell ⟨m, 4, none⟩ (.int .i64 y)).cell? ⟨A, 0, none⟩ = some (.int .i64 b) ∧ (W.setCell ⟨m, 4, none⟩ (.int .i64 y)).cell? ⟨A, 1, none⟩ = some (.int .i64 p) ∧ (W.setCell ⟨m, 4, none⟩ (.int .i64 y)).cell? ⟨A, 2, none⟩ = some (.int .i64 s) ∧ (W.setCell ⟨m, 4, none⟩ (.int .i64 y)).cell? ⟨B, 0, none⟩ = some (.int .i64 c) ∧ (W.setCell ⟨m, 4, none⟩ (.int .i64 y)).cell? ⟨B, 1, none⟩ = some (.int .i64 p) ∧ (W.setCell ⟨m, 4, none⟩ (.int .i64 y)).cell? ⟨B, 2, none⟩ = some (.int .i64 s) ∧ (W.setCell ⟨m, 4, none⟩ (.int .i64 y)).frozen? ⟨B, 0, none⟩ = false ∧ (W.setCell ⟨m, 4, none⟩ (.int .i64 y)).frozen? ⟨m, 4, none⟩ = false ∧ m < (W.setCell ⟨m, 4, none⟩ (.int .i64 y)).heap.size ∧ A < (W.setCell ⟨m, 4, none⟩ (.int .i64 y)).heap.size ∧ B < (W.setCell ⟨m, 4, none⟩ (.int .i64 y)).heap.size ∧ Below w.heap.size w (W.setCell ⟨m, 4, none⟩ (.int .i64 y)) := by
  obtain ⟨c0, c1, c2, c3, c4, c5, c6, c7, c8, c9, c10, c11, c12, f0, f1, l0, l1, l2, hB⟩ := h
  exact ⟨(World.cell?_setCell_other _ _ _ _ (fun h => absurd (show (4 : Nat) = 0 from congrArg Addr.off h) (by decide))).trans c0, (World.cell?_setCell_other _ _ _ _ (fun h => absurd (show (4 : Nat) = 1 from congrArg Addr.off h) (by decide))).trans c1, (World.cell?_setCell_other _ _ _ _ (fun h => absurd (show (4 : Nat) = 2 from congrArg Addr.off h) (by decide))).trans c2, (World.cell?_setCell_other _ _ _ _ (fun h => absurd (show (4 : Nat) = 3 from congrArg Addr.off h) (by decide))).trans c3, World.cell?_setCell_same _ _ _ c4, (World.cell?_setCell_other _ _ _ _ (fun h => absurd (show (4 : Nat) = 5 from congrArg Addr.off h) (by decide))).trans c5, (World.cell?_setCell_other _ _ _ _ (fun h => absurd (show (4 : Nat) = 6 from congrArg Addr.off h) (by decide))).trans c6, (World.cell?_setCell_other _ _ _ _ (fun h => n0 (congrArg Addr.block h))).trans c7, (World.cell?_setCell_other _ _ _ _ (fun h => n0 (congrArg Addr.block h))).trans c8, (World.cell?_setCell_other _ _ _ _ (fun h => n0 (congrArg Addr.block h))).trans c9, (World.cell?_setCell_other _ _ _ _ (fun h => n1 (congrArg Addr.block h))).trans c10, (World.cell?_setCell_other _ _ _ _ (fun h => n1 (congrArg Addr.block h))).trans c11, (World.cell?_setCell_other _ _ _ _ (fun h => n1 (congrArg Addr.block h))).trans c12, (World.frozen?_setCell _ _ _ _).trans f0, (World.frozen?_setCell _ _ _ _).trans f1, Nat.lt_of_lt_of_eq l0 (World.size_setCell _ _ _).symm, Nat.lt_of_lt_of_eq l1 (World.size_setCell _ _ _).symm, Nat.lt_of_lt_of_eq l2 (World.size_setCell _ _ _).symm, hB.setCell hbase _⟩

theorem roomZ_block (b p s k : Int) (hr : rightB b p s = true) (hr1 : rightB (b + 1) p s = true) : roomZ b p s k ≤ roomZ (b + 1) p s k := by
  obtain ⟨b4, b256, p2, p64, s32, s1024⟩ := right_iff.1 hr
  unfold roomZ
  split
  · rename_i h
    rw [if_pos ⟨hr1, h.2.1, by omega⟩]
    exact Int.mul_le_mul_of_nonneg_right (by omega) (by omega)
  · have := (roomZ_bd (b + 1) p s k).1
    unfold roomZ at this
    exact this
theorem roomZ_spare (b p s k : Int) (k0 : 0 ≤ k) : roomZ b p s (k + 1) ≤ roomZ b p s k := by
  unfold roomZ
  split
  · rename_i h
    obtain ⟨b4, b256, p2, p64, s32, s1024⟩ := right_iff.1 h.1
    rw [if_pos ⟨h.1, k0, by omega⟩]
    exact Int.mul_le_mul_of_nonneg_right (by omega) (by omega)
  · have := (roomZ_bd b p s k).1
    unfold roomZ at this
    exact this

theorem grow_start {w W0 : World} {m : Nat} {b p s sp lo ba le : Int} (c0 : W0.cell? ⟨m, 0, none⟩ = some (.int .i64 b)) (c1 : W0.cell? ⟨m, 1, none⟩ = some (.int .i64 p)) (c2 : W0.cell? ⟨m, 2, none⟩ = some (.int .i64 s)) (c3 : W0.cell? ⟨m, 3, none⟩ = some (.int .i64 sp))
    (c4 : W0.cell? ⟨m, 4, none⟩ = some (.int .i64 lo)) (c5 : W0.cell? ⟨m, 5, none⟩ = some (.int .i64 ba)) (c6 : W0.cell? ⟨m, 6, none⟩ = some (.int .i64 le)) (f4 : W0.frozen? ⟨m, 4, none⟩ = false) (lm : m < W0.heap.size) (hm0 : w.heap.size ≤ m) (hB : Below w.heap.size w W0)
    (t : TypeId) (A B : Nat) (h : (A = W0.heap.size ∧ B = W0.heap.size + 1) ∨ (A = W0.heap.size + 1 ∧ B = W0.heap.size)) :
    ∀ W, W = ((W0.alloc (.cells #[.int .i64 b, .int .i64 p, .int .i64 s] t)).alloc (.cells #[.int .i64 b, .int .i64 p, .int .i64 s] t)).drew → A ≠ B ∧ A ≠ m ∧ B ≠ m ∧ w.heap.size ≤ B ∧ w.heap.size ≤ m ∧ W.cell? ⟨m, 0, none⟩ = some (.int .i64 b) ∧ W.cell? ⟨m, 1, none⟩ = some (.int .i64 p) ∧ W.cell? ⟨m, 2, none⟩ = some (.int .i64 s) ∧ W.cell? ⟨m, 3, none⟩ = some (.int .i64 sp) ∧ W.cell? ⟨m, 4, none⟩ = some (.int .i64 lo) ∧ W.cell? ⟨m, 5, none⟩ = some (.int .i64 ba) ∧ W.cell? ⟨m, 6, none⟩ = some (.int .i64 le) ∧ W.cell? ⟨A, 0, none⟩ = some (.int .i64 b) ∧ W.cell? ⟨A, 1, none⟩ = some (.int .i64 p) ∧ W.cell? ⟨A, 2, none⟩ = some (.int .i64 s) ∧ W.cell? ⟨B, 0, none⟩ = some (.int .i64 b) ∧ W.cell? ⟨B, 1, none⟩ = some (.int .i64 p) ∧ W.cell? ⟨B, 2, none⟩ = some (.int .i64 s) ∧ W.frozen? ⟨B, 0, none⟩ = false ∧ W.frozen? ⟨m, 4, none⟩ = false ∧ m < W.heap.size ∧ A < W.heap.size ∧ B < W.heap.size ∧ Below w.heap.size w W := by
  rintro W rfl
  have hBB := hB.size
  have hx : ∀ k, W0.cell? ⟨m, k, none⟩ = ((W0.alloc (.cells #[.int .i64 b, .int .i64 p, .int .i64 s] t)).alloc (.cells #[.int .i64 b, .int .i64 p, .int .i64 s] t)).drew.cell? ⟨m, k, none⟩ := fun k => by
    rw [World.cell?_drew, World.cell?_alloc_lt _ _ _ (by simp; omega), World.cell?_alloc_lt _ _ _ (by simp; omega)]
  have e0 : ∀ k, ((W0.alloc (.cells #[.int .i64 b, .int .i64 p, .int .i64 s] t)).alloc (.cells #[.int .i64 b, .int .i64 p, .int .i64 s] t)).drew.cell? ⟨W0.heap.size, k, none⟩ = #[Value.int .i64 b, .int .i64 p, .int .i64 s][k]? := fun k => by
    rw [World.cell?_drew, World.cell?_alloc_lt _ _ _ (by simp), World.cell?_alloc_new]
  have e1 : ∀ k, ((W0.alloc (.cells #[.int .i64 b, .int .i64 p, .int .i64 s] t)).alloc (.cells #[.int .i64 b, .int .i64 p, .int .i64 s] t)).drew.cell? ⟨W0.heap.size + 1, k, none⟩ = #[Value.int .i64 b, .int .i64 p, .int .i64 s][k]? := fun k => by
    simp
  have hb : Below w.heap.size w ((W0.alloc (.cells #[.int .i64 b, .int .i64 p, .int .i64 s] t)).alloc (.cells #[.int .i64 b, .int .i64 p, .int .i64 s] t)).drew := ((hB.alloc hBB _).alloc (by simp; omega) _).drew
  refine ⟨by omega, by omega, by omega, by omega, hm0, by rw [← hx, c0], by rw [← hx, c1], by rw [← hx, c2], by rw [← hx, c3], by rw [← hx, c4], by rw [← hx, c5], by rw [← hx, c6], ?_, ?_, ?_, ?_, ?_, ?_, ?_, ?_, by simp; omega, by simp; omega, by simp; omega, hb⟩
  all_goals rcases h with ⟨rfl, rfl⟩ | ⟨rfl, rfl⟩
  all_goals first | (rw [e0]; rfl) | (rw [e1]; rfl) | (simp [lm]; done) | (simp; rw [World.frozen?_alloc_past _ _ _ (by simp; omega), World.frozen?_alloc_past _ _ _ lm, f4])
set_option maxRecDepth 100000 in
set_option maxHeartbeats 4000000 in
theorem geoGrows_walk (v : Value) (hv : ∃ xs : List Int, xs.length = 7 ∧ v = .agg (xs.map (Value.int .i64)).toArray ∧ ∀ x ∈ xs, (Lit.int .i64 x).wf = true) (w : World) :
    Calls Try.prog 6 #[v] w fun e w' => e = .returned (.bool true) ∧ Below w.heap.size w w' := by
  obtain ⟨xs, hl, rfl, _⟩ := hv
  match xs, hl with
  | [b, p, s, sp, lo, ba, le], _ =>
  have g0 := fun W => of7 b p s sp lo ba le W
  have g1 := fun W => shapeRight_any b p s W
  have hst := fun w1 w0 n m => @start14 w w1 w0 n m b p s sp lo ba le
  unfold conf at g0 hst
  have G0 := hide g0
  have HST := hide hst
  clear g0 hst
  show Calls _ _ #[.agg #[.int .i64 b, .int .i64 p, .int .i64 s, .int .i64 sp, .int .i64 lo, .int .i64 ba, .int .i64 le]] _ _
  go_enter Try.func6, Try.ntmps6
  go_wp2_with fail
  refine (G0.out _).mono ?_
  rintro e w1 ⟨rfl, hb1⟩
  go_upto_region 2 with (fail)
  obtain ⟨m, hm⟩ : ∃ m : Nat, m = w1.heap.size := ⟨_, rfl⟩
  obtain ⟨W0, hW0⟩ : ∃ W0 : World, W0 = w1.alloc (.cells #[.int .i64 b, .int .i64 p, .int .i64 s, .int .i64 sp, .int .i64 lo, .int .i64 ba, .int .i64 le] 27) := ⟨_, rfl⟩
  rw [← hm, ← hW0]
  obtain ⟨⟨_, ⟨c0, c1, c2, c3, c4, c5, c6⟩, _⟩, hnm, hz0, hbw⟩ := HST.out _ _ _ _ rfl rfl hb1 hW0
  rw [← hm] at c0 c1 c2 c3 c4 c5 c6 hz0
  have f4 : W0.frozen? ⟨m, 4, none⟩ = false := by rw [hW0, hm]; simp
  have lm : m < W0.heap.size := by omega
  have Hwm := hide (show w.heap.size ≤ m by rw [hm]; omega)
  have Hz := hide hz0
  have HB := hide hbw
  clear hnm hz0 hbw hb1
  have HW := hide hW0
  have Hm := hide hm
  clear hW0 hm
  go_cut [4, 5] (fun s4 s5 W => ∃ A B : Nat, s4 = .pointer (some ⟨A, 0, none⟩) ∧ s5 = .pointer (some ⟨B, 0, none⟩) ∧ A ≠ B ∧ A ≠ m ∧ B ≠ m ∧ w.heap.size ≤ B ∧ w.heap.size ≤ m ∧ W.cell? ⟨m, 0, none⟩ = some (.int .i64 b) ∧ W.cell? ⟨m, 1, none⟩ = some (.int .i64 p) ∧ W.cell? ⟨m, 2, none⟩ = some (.int .i64 s) ∧ W.cell? ⟨m, 3, none⟩ = some (.int .i64 sp) ∧ W.cell? ⟨m, 4, none⟩ = some (.int .i64 lo) ∧ W.cell? ⟨m, 5, none⟩ = some (.int .i64 ba) ∧ W.cell? ⟨m, 6, none⟩ = some (.int .i64 le) ∧ W.cell? ⟨A, 0, none⟩ = some (.int .i64 b) ∧ W.cell? ⟨A, 1, none⟩ = some (.int .i64 p) ∧ W.cell? ⟨A, 2, none⟩ = some (.int .i64 s) ∧ W.cell? ⟨B, 0, none⟩ = some (.int .i64 b) ∧ W.cell? ⟨B, 1, none⟩ = some (.int .i64 p) ∧ W.cell? ⟨B, 2, none⟩ = some (.int .i64 s) ∧ W.frozen? ⟨B, 0, none⟩ = false ∧ W.frozen? ⟨m, 4, none⟩ = false ∧ m < W.heap.size ∧ A < W.heap.size ∧ B < W.heap.size ∧ Below w.heap.size w W)
  case first =>
    go_region
    all_goals go_wp2_with fail
    all_goals go_meet
    all_goals (have g := grow_start c0 c1 c2 c3 c4 c5 c6 f4 lm Hwm.out HB.out 25; first | exact ⟨_, _, rfl, rfl, g _ _ (Or.inl ⟨rfl, rfl⟩) _ rfl⟩ | exact ⟨_, _, rfl, rfl, g _ _ (Or.inr ⟨rfl, rfl⟩) _ rfl⟩)
  case rest =>
    obtain ⟨A, B, rfl, rfl, hAB, hAm, hBm, hwB, hwm, hS⟩ := hcut
    have HS := hide hS
    have HNE := hide (And.intro hAB (And.intro hAm (And.intro hBm (And.intro hwB hwm))))
    clear hAB hAm hBm hwB hwm HST Hz HB HW Hm Hwm lm c0 c1 c2 c3 c4 c5 c6 f4
    obtain ⟨c0, c1, c2, c3, c4, c5, c6, c7, c8, c9, c10, c11, c12, f0, f1, l0, l1, l2, hB⟩ := hS
    clear hB
    by_cases hr : rightB b p s = true
    · have HR := hide hr
      obtain ⟨b4, b256, p2, p64, s32, s1024⟩ := right_iff.1 hr
      rw [hr] at g1
      clear hr
      have G1 := hide g1
      clear g1
      obtain ⟨mx, hmx, m0⟩ : ∃ mx, (if 0 < sp then sp else 0) = mx ∧ 0 ≤ mx := ⟨_, rfl, by split <;> omega⟩
      have k0 : 0 ≤ mx % 300 := by omega
      have k1 : mx % 300 < 300 := by omega
      go_wp2_with fail
      refine (G1.out _).mono ?_
      rintro e w5 ⟨rfl, hb5⟩
      have hS := keep_grow HS.out hb5
      clear HS hb5
      have HS := hide hS
      clear c0 c1 c2 c3 c4 c5 c6 c7 c8 c9 c10 c11 c12 f0 f1 l0 l1 l2
      obtain ⟨c0, c1, c2, c3, c4, c5, c6, c7, c8, c9, c10, c11, c12, f0, f1, l0, l1, l2, hB⟩ := hS
      clear hB
      go_upto_region 7 with (fail)
      clear c0 c1 c2 c3 c4 c5 c6 c7 c8 c9 c10 c11 c12 f0 f1 l0 l1 l2
      have hS2 := store_growB (y := b + 1) HNE.out.2.2.1 (Ne.symm HNE.out.1) HNE.out.2.2.2.1 HS.out
      clear HS
      have HS := hide hS2
      clear hS2 hmx
      generalize mx % 300 = k at *
      have g7 := fun W => shapeRight_any (b + 1) p s W
      have g8 := fun W => room_any (b + 1) p s k W
      have g9 := fun W => room_any b p s k W
      have g10 := fun W => room_any b p s (k + 1) W
      have x9 : decide (roomZ b p s k < roomZ b p s (k + 1)) = false := by have := roomZ_spare b p s k k0; simp; omega
      have y1 : IntKind.i64.wrap (k + 1) = k + 1 := IntWalk.i64_in _ (by omega)
      have hx8 := hide (roomZ_block b p s k HR.out)
      generalize roomZ (b + 1) p s k = R1 at *
      generalize roomZ b p s (k + 1) = R2 at *
      generalize roomZ b p s k = R0 at *
      have G8 := hide g8
      have G9 := hide g9
      have G10 := hide g10
      clear g8 g9 g10
      go_cut [45] (fun t W => t = .bool false ∧ W.cell? ⟨m, 0, none⟩ = some (.int .i64 b) ∧ W.cell? ⟨m, 1, none⟩ = some (.int .i64 p) ∧ W.cell? ⟨m, 2, none⟩ = some (.int .i64 s) ∧ W.cell? ⟨m, 3, none⟩ = some (.int .i64 sp) ∧ W.cell? ⟨m, 4, none⟩ = some (.int .i64 lo) ∧ W.cell? ⟨m, 5, none⟩ = some (.int .i64 ba) ∧ W.cell? ⟨m, 6, none⟩ = some (.int .i64 le) ∧ W.cell? ⟨A, 0, none⟩ = some (.int .i64 b) ∧ W.cell? ⟨A, 1, none⟩ = some (.int .i64 p) ∧ W.cell? ⟨A, 2, none⟩ = some (.int .i64 s) ∧ W.cell? ⟨B, 0, none⟩ = some (.int .i64 (b + 1)) ∧ W.cell? ⟨B, 1, none⟩ = some (.int .i64 p) ∧ W.cell? ⟨B, 2, none⟩ = some (.int .i64 s) ∧ W.frozen? ⟨B, 0, none⟩ = false ∧ W.frozen? ⟨m, 4, none⟩ = false ∧ m < W.heap.size ∧ A < W.heap.size ∧ B < W.heap.size ∧ Below w.heap.size w W)
      case first =>
        by_cases hr1 : rightB (b + 1) p s = true
        · rw [hr1] at g7
          have G7 := hide g7
          have x8 : decide (R1 < R0) = false := by have := hx8.out hr1; simp; omega
          clear g7 hr1
          refine wp_region_held_drew (S := (fun W => W.cell? ⟨m, 0, none⟩ = some (.int .i64 b) ∧ W.cell? ⟨m, 1, none⟩ = some (.int .i64 p) ∧ W.cell? ⟨m, 2, none⟩ = some (.int .i64 s) ∧ W.cell? ⟨m, 3, none⟩ = some (.int .i64 sp) ∧ W.cell? ⟨m, 4, none⟩ = some (.int .i64 lo) ∧ W.cell? ⟨m, 5, none⟩ = some (.int .i64 ba) ∧ W.cell? ⟨m, 6, none⟩ = some (.int .i64 le) ∧ W.cell? ⟨A, 0, none⟩ = some (.int .i64 b) ∧ W.cell? ⟨A, 1, none⟩ = some (.int .i64 p) ∧ W.cell? ⟨A, 2, none⟩ = some (.int .i64 s) ∧ W.cell? ⟨B, 0, none⟩ = some (.int .i64 (b + 1)) ∧ W.cell? ⟨B, 1, none⟩ = some (.int .i64 p) ∧ W.cell? ⟨B, 2, none⟩ = some (.int .i64 s) ∧ W.frozen? ⟨B, 0, none⟩ = false ∧ W.frozen? ⟨m, 4, none⟩ = false ∧ m < W.heap.size ∧ A < W.heap.size ∧ B < W.heap.size ∧ Below w.heap.size w W)) (by kernel_rfl) (drew_grow HS.out) (fun hHeld => ?_)
          refine wpAnyH_take (i := 0) (oi := { dst := some 25, op := Op.load 25 (Operand.tmp 5), type := 25, pos := "law.go:88", after := #[], guard := none }) (v := ?_) rfl (by kernel_rfl) (by kernel_rfl) (by kernel_rfl) (fun _ _ _ h => h) (Or.inl ⟨by kernel_rfl, ?_⟩) hHeld ?_
          rotate_left
          · (intro w hSw; (try dsimp only at hSw); go_simp); try with_reducible rfl
          try simp only [Act.put, List.setIfInBounds_toArray, List.set_cons_zero, List.set_cons_succ]
          refine wpAnyH_ready (rs := [1]) (by kernel_rfl) (by simp) ?_
          refine AllReadyH.cons (o := { dst := some 26, op := Op.call { callee := Callee.value (Operand.func 13), args := #[Operand.tmp 25], argTypes := #[25] }, type := 4, pos := "law.go:88", after := #[{ on := 0, ground := Ground.data }], guard := none }) rfl (fun K hK => ?_) AllReadyH.nil
          have hOld := hide hHeld
          clear hHeld
          go_simp
          (go_at_call 13; (with_reducible refine (G7.out _).mono ?_); rintro e w2 ⟨rfl, hb2⟩)
          (try go_wp2_with fail)
          refine hK.out _ _ (keep_grow hOld.out hb2) (fun hHeld => ?_)
          clear hK K hOld
          try simp only [Act.put, List.setIfInBounds_toArray, List.set_cons_zero, List.set_cons_succ]
          refine wpAnyH_take (i := 2) (oi := { dst := some 27, op := Op.move (Operand.tmp 26), type := 4, pos := "law.go:88", after := #[{ on := 1, ground := Ground.data }, { on := 1, ground := Ground.chain }], guard := none }) (v := ?_) rfl (by kernel_rfl) (by kernel_rfl) (by kernel_rfl) (fun _ _ _ h => h) (Or.inl ⟨by kernel_rfl, ?_⟩) hHeld ?_
          rotate_left
          · (intro w hSw; (try dsimp only at hSw); go_simp); try with_reducible rfl
          try simp only [Act.put, List.setIfInBounds_toArray, List.set_cons_zero, List.set_cons_succ]
          refine wpAnyH_take (i := 3) (oi := { dst := some 28, op := Op.load 25 (Operand.tmp 5), type := 25, pos := "law.go:88", after := #[{ on := 2, ground := Ground.guard }], guard := some (2, true) }) (v := ?_) rfl (by kernel_rfl) (by kernel_rfl) (by kernel_rfl) (fun _ _ _ h => h) (Or.inl ⟨by kernel_rfl, ?_⟩) hHeld ?_
          rotate_left
          · (intro w hSw; (try dsimp only at hSw); go_simp); try with_reducible rfl
          try simp only [Act.put, List.setIfInBounds_toArray, List.set_cons_zero, List.set_cons_succ]
          refine wpAnyH_take (i := 4) (oi := { dst := some 29, op := Op.move (Operand.tmp 6), type := 3, pos := "law.go:88", after := #[{ on := 2, ground := Ground.guard }], guard := some (2, true) }) (v := ?_) rfl (by kernel_rfl) (by kernel_rfl) (by kernel_rfl) (fun _ _ _ h => h) (Or.inl ⟨by kernel_rfl, ?_⟩) hHeld ?_
          rotate_left
          · (intro w hSw; (try dsimp only at hSw); go_simp); try with_reducible rfl
          try simp only [Act.put, List.setIfInBounds_toArray, List.set_cons_zero, List.set_cons_succ]
          refine wpAnyH_take (i := 6) (oi := { dst := some 31, op := Op.load 25 (Operand.tmp 4), type := 25, pos := "law.go:88", after := #[{ on := 2, ground := Ground.guard }], guard := some (2, true) }) (v := ?_) rfl (by kernel_rfl) (by kernel_rfl) (by kernel_rfl) (fun _ _ _ h => h) (Or.inl ⟨by kernel_rfl, ?_⟩) hHeld ?_
          rotate_left
          · (intro w hSw; (try dsimp only at hSw); go_simp); try with_reducible rfl
          try simp only [Act.put, List.setIfInBounds_toArray, List.set_cons_zero, List.set_cons_succ]
          refine wpAnyH_take (i := 7) (oi := { dst := some 32, op := Op.move (Operand.tmp 6), type := 3, pos := "law.go:88", after := #[{ on := 2, ground := Ground.guard }], guard := some (2, true) }) (v := ?_) rfl (by kernel_rfl) (by kernel_rfl) (by kernel_rfl) (fun _ _ _ h => h) (Or.inl ⟨by kernel_rfl, ?_⟩) hHeld ?_
          rotate_left
          · (intro w hSw; (try dsimp only at hSw); go_simp); try with_reducible rfl
          try simp only [Act.put, List.setIfInBounds_toArray, List.set_cons_zero, List.set_cons_succ]
          refine wpAnyH_ready (rs := [5]) (by kernel_rfl) (by simp) ?_
          refine AllReadyH.cons (o := { dst := some 30, op := Op.call { callee := Callee.value (Operand.func 14), args := #[Operand.tmp 28, Operand.tmp 29], argTypes := #[25, 3] }, type := 3, pos := "law.go:88", after := #[{ on := 3, ground := Ground.data }, { on := 4, ground := Ground.data }, { on := 2, ground := Ground.chain }, { on := 2, ground := Ground.guard }], guard := some (2, true) }) rfl (fun K hK => ?_) AllReadyH.nil
          have hOld := hide hHeld
          clear hHeld
          go_simp
          (go_at_call 14; (with_reducible refine (G8.out _).mono ?_); rintro e w2 ⟨rfl, hb2⟩)
          (try go_wp2_with fail)
          refine hK.out _ _ (keep_grow hOld.out hb2) (fun hHeld => ?_)
          clear hK K hOld
          try simp only [Act.put, List.setIfInBounds_toArray, List.set_cons_zero, List.set_cons_succ]
          refine wpAnyH_ready (rs := [8]) (by kernel_rfl) (by simp) ?_
          refine AllReadyH.cons (o := { dst := some 33, op := Op.call { callee := Callee.value (Operand.func 14), args := #[Operand.tmp 31, Operand.tmp 32], argTypes := #[25, 3] }, type := 3, pos := "law.go:88", after := #[{ on := 6, ground := Ground.data }, { on := 7, ground := Ground.data }, { on := 5, ground := Ground.chain }, { on := 2, ground := Ground.guard }], guard := some (2, true) }) rfl (fun K hK => ?_) AllReadyH.nil
          have hOld := hide hHeld
          clear hHeld
          go_simp
          (go_at_call 14; (with_reducible refine (G9.out _).mono ?_); rintro e w2 ⟨rfl, hb2⟩)
          (try go_wp2_with fail)
          refine hK.out _ _ (keep_grow hOld.out hb2) (fun hHeld => ?_)
          clear hK K hOld
          try simp only [Act.put, List.setIfInBounds_toArray, List.set_cons_zero, List.set_cons_succ]
          refine wpAnyH_take (i := 9) (oi := { dst := some 34, op := Op.binOp BinOp.lss 3 (Operand.tmp 30) (Operand.tmp 33) 3, type := 4, pos := "law.go:88", after := #[{ on := 5, ground := Ground.data }, { on := 8, ground := Ground.data }, { on := 2, ground := Ground.guard }], guard := some (2, true) }) (v := ?_) rfl (by kernel_rfl) (by kernel_rfl) (by kernel_rfl) (fun _ _ _ h => h) (Or.inl ⟨by kernel_rfl, ?_⟩) hHeld ?_
          rotate_left
          · (intro w hSw; (try dsimp only at hSw); go_simp); try with_reducible rfl
          try simp only [Act.put, List.setIfInBounds_toArray, List.set_cons_zero, List.set_cons_succ]
          refine wpAnyH_take (i := 10) (oi := { dst := some 35, op := Op.pick (Operand.tmp 27) (Operand.tmp 34) (Operand.const (Value.bool false)), type := 4, pos := "law.go:88", after := #[{ on := 2, ground := Ground.data }, { on := 9, ground := Ground.data }], guard := none }) (v := ?_) rfl (by kernel_rfl) (by kernel_rfl) (by kernel_rfl) (fun _ _ _ h => h) (Or.inl ⟨by kernel_rfl, ?_⟩) hHeld ?_
          rotate_left
          · (intro w hSw; (try dsimp only at hSw); go_simp); try with_reducible rfl
          try simp only [Act.put, List.setIfInBounds_toArray, List.set_cons_zero, List.set_cons_succ]
          refine wpAnyH_take (i := 11) (oi := { dst := some 36, op := Op.move (Operand.tmp 35), type := 4, pos := "law.go:88", after := #[{ on := 10, ground := Ground.data }, { on := 8, ground := Ground.chain }], guard := none }) (v := ?_) rfl (by kernel_rfl) (by kernel_rfl) (by kernel_rfl) (fun _ _ _ h => h) (Or.inl ⟨by kernel_rfl, ?_⟩) hHeld ?_
          rotate_left
          · (intro w hSw; (try dsimp only at hSw); go_simp); try with_reducible rfl
          try simp only [Act.put, List.setIfInBounds_toArray, List.set_cons_zero, List.set_cons_succ]
          refine wpAnyH_take (i := 12) (oi := { dst := some 37, op := Op.load 25 (Operand.tmp 4), type := 25, pos := "law.go:88", after := #[{ on := 11, ground := Ground.guard }], guard := some (11, false) }) (v := ?_) rfl (by kernel_rfl) (by kernel_rfl) (by kernel_rfl) (fun _ _ _ h => h) (Or.inl ⟨by kernel_rfl, ?_⟩) hHeld ?_
          rotate_left
          · (intro w hSw; (try dsimp only at hSw); go_simp); try with_reducible rfl
          try simp only [Act.put, List.setIfInBounds_toArray, List.set_cons_zero, List.set_cons_succ]
          refine wpAnyH_take (i := 13) (oi := { dst := some 38, op := Op.move (Operand.tmp 6), type := 3, pos := "law.go:88", after := #[{ on := 11, ground := Ground.guard }], guard := some (11, false) }) (v := ?_) rfl (by kernel_rfl) (by kernel_rfl) (by kernel_rfl) (fun _ _ _ h => h) (Or.inl ⟨by kernel_rfl, ?_⟩) hHeld ?_
          rotate_left
          · (intro w hSw; (try dsimp only at hSw); go_simp); try with_reducible rfl
          try simp only [Act.put, List.setIfInBounds_toArray, List.set_cons_zero, List.set_cons_succ]
          refine wpAnyH_take (i := 14) (oi := { dst := some 39, op := Op.binOp BinOp.add 3 (Operand.tmp 38) (Operand.const (Value.int IntKind.i64 1)) 3, type := 3, pos := "law.go:88", after := #[{ on := 13, ground := Ground.data }, { on := 11, ground := Ground.guard }], guard := some (11, false) }) (v := ?_) rfl (by kernel_rfl) (by kernel_rfl) (by kernel_rfl) (fun _ _ _ h => h) (Or.inl ⟨by kernel_rfl, ?_⟩) hHeld ?_
          rotate_left
          · (intro w hSw; (try dsimp only at hSw); go_simp); try with_reducible rfl
          try simp only [Act.put, List.setIfInBounds_toArray, List.set_cons_zero, List.set_cons_succ]
          refine wpAnyH_take (i := 16) (oi := { dst := some 41, op := Op.load 25 (Operand.tmp 4), type := 25, pos := "law.go:88", after := #[{ on := 11, ground := Ground.guard }], guard := some (11, false) }) (v := ?_) rfl (by kernel_rfl) (by kernel_rfl) (by kernel_rfl) (fun _ _ _ h => h) (Or.inl ⟨by kernel_rfl, ?_⟩) hHeld ?_
          rotate_left
          · (intro w hSw; (try dsimp only at hSw); go_simp); try with_reducible rfl
          try simp only [Act.put, List.setIfInBounds_toArray, List.set_cons_zero, List.set_cons_succ]
          refine wpAnyH_take (i := 17) (oi := { dst := some 42, op := Op.move (Operand.tmp 6), type := 3, pos := "law.go:88", after := #[{ on := 11, ground := Ground.guard }], guard := some (11, false) }) (v := ?_) rfl (by kernel_rfl) (by kernel_rfl) (by kernel_rfl) (fun _ _ _ h => h) (Or.inl ⟨by kernel_rfl, ?_⟩) hHeld ?_
          rotate_left
          · (intro w hSw; (try dsimp only at hSw); go_simp); try with_reducible rfl
          try simp only [Act.put, List.setIfInBounds_toArray, List.set_cons_zero, List.set_cons_succ]
          refine wpAnyH_ready (rs := [15]) (by kernel_rfl) (by simp) ?_
          refine AllReadyH.cons (o := { dst := some 40, op := Op.call { callee := Callee.value (Operand.func 14), args := #[Operand.tmp 37, Operand.tmp 39], argTypes := #[25, 3] }, type := 3, pos := "law.go:88", after := #[{ on := 12, ground := Ground.data }, { on := 14, ground := Ground.data }, { on := 11, ground := Ground.chain }, { on := 11, ground := Ground.guard }], guard := some (11, false) }) rfl (fun K hK => ?_) AllReadyH.nil
          have hOld := hide hHeld
          clear hHeld
          go_simp
          (go_at_call 14; (with_reducible refine (G10.out _).mono ?_); rintro e w2 ⟨rfl, hb2⟩)
          (try go_wp2_with fail)
          refine hK.out _ _ (keep_grow hOld.out hb2) (fun hHeld => ?_)
          clear hK K hOld
          try simp only [Act.put, List.setIfInBounds_toArray, List.set_cons_zero, List.set_cons_succ]
          refine wpAnyH_ready (rs := [18]) (by kernel_rfl) (by simp) ?_
          refine AllReadyH.cons (o := { dst := some 43, op := Op.call { callee := Callee.value (Operand.func 14), args := #[Operand.tmp 41, Operand.tmp 42], argTypes := #[25, 3] }, type := 3, pos := "law.go:88", after := #[{ on := 16, ground := Ground.data }, { on := 17, ground := Ground.data }, { on := 15, ground := Ground.chain }, { on := 11, ground := Ground.guard }], guard := some (11, false) }) rfl (fun K hK => ?_) AllReadyH.nil
          have hOld := hide hHeld
          clear hHeld
          go_simp
          (go_at_call 14; (with_reducible refine (G9.out _).mono ?_); rintro e w2 ⟨rfl, hb2⟩)
          (try go_wp2_with fail)
          refine hK.out _ _ (keep_grow hOld.out hb2) (fun hHeld => ?_)
          clear hK K hOld
          try simp only [Act.put, List.setIfInBounds_toArray, List.set_cons_zero, List.set_cons_succ]
          refine wpAnyH_take (i := 19) (oi := { dst := some 44, op := Op.binOp BinOp.gtr 3 (Operand.tmp 40) (Operand.tmp 43) 3, type := 4, pos := "law.go:88", after := #[{ on := 15, ground := Ground.data }, { on := 18, ground := Ground.data }, { on := 11, ground := Ground.guard }], guard := some (11, false) }) (v := ?_) rfl (by kernel_rfl) (by kernel_rfl) (by kernel_rfl) (fun _ _ _ h => h) (Or.inl ⟨by kernel_rfl, ?_⟩) hHeld ?_
          rotate_left
          · (intro w hSw; (try dsimp only at hSw); go_simp); try with_reducible rfl
          try simp only [Act.put, List.setIfInBounds_toArray, List.set_cons_zero, List.set_cons_succ]
          refine wpAnyH_take (i := 20) (oi := { dst := some 45, op := Op.pick (Operand.tmp 36) (Operand.const (Value.bool true)) (Operand.tmp 44), type := 4, pos := "law.go:88", after := #[{ on := 11, ground := Ground.data }, { on := 19, ground := Ground.data }], guard := none }) (v := ?_) rfl (by kernel_rfl) (by kernel_rfl) (by kernel_rfl) (fun _ _ _ h => h) (Or.inl ⟨by kernel_rfl, ?_⟩) hHeld ?_
          rotate_left
          · (intro w hSw; (try dsimp only at hSw); go_simp); try with_reducible rfl
          try simp only [Act.put, List.setIfInBounds_toArray, List.set_cons_zero, List.set_cons_succ]
          refine wpAnyH_done (by kernel_rfl) ?_ _
          go_wp2_with fail
          go_meet
          exact ⟨rfl, hHeld⟩
        · have hr1 : rightB (b + 1) p s = false := by simpa using hr1
          rw [hr1] at g7
          have G7 := hide g7
          clear g7 hr1
          refine wp_region_held_drew (S := (fun W => W.cell? ⟨m, 0, none⟩ = some (.int .i64 b) ∧ W.cell? ⟨m, 1, none⟩ = some (.int .i64 p) ∧ W.cell? ⟨m, 2, none⟩ = some (.int .i64 s) ∧ W.cell? ⟨m, 3, none⟩ = some (.int .i64 sp) ∧ W.cell? ⟨m, 4, none⟩ = some (.int .i64 lo) ∧ W.cell? ⟨m, 5, none⟩ = some (.int .i64 ba) ∧ W.cell? ⟨m, 6, none⟩ = some (.int .i64 le) ∧ W.cell? ⟨A, 0, none⟩ = some (.int .i64 b) ∧ W.cell? ⟨A, 1, none⟩ = some (.int .i64 p) ∧ W.cell? ⟨A, 2, none⟩ = some (.int .i64 s) ∧ W.cell? ⟨B, 0, none⟩ = some (.int .i64 (b + 1)) ∧ W.cell? ⟨B, 1, none⟩ = some (.int .i64 p) ∧ W.cell? ⟨B, 2, none⟩ = some (.int .i64 s) ∧ W.frozen? ⟨B, 0, none⟩ = false ∧ W.frozen? ⟨m, 4, none⟩ = false ∧ m < W.heap.size ∧ A < W.heap.size ∧ B < W.heap.size ∧ Below w.heap.size w W)) (by kernel_rfl) (drew_grow HS.out) (fun hHeld => ?_)
          refine wpAnyH_take (i := 0) (oi := { dst := some 25, op := Op.load 25 (Operand.tmp 5), type := 25, pos := "law.go:88", after := #[], guard := none }) (v := ?_) rfl (by kernel_rfl) (by kernel_rfl) (by kernel_rfl) (fun _ _ _ h => h) (Or.inl ⟨by kernel_rfl, ?_⟩) hHeld ?_
          rotate_left
          · (intro w hSw; (try dsimp only at hSw); go_simp); try with_reducible rfl
          try simp only [Act.put, List.setIfInBounds_toArray, List.set_cons_zero, List.set_cons_succ]
          refine wpAnyH_ready (rs := [1]) (by kernel_rfl) (by simp) ?_
          refine AllReadyH.cons (o := { dst := some 26, op := Op.call { callee := Callee.value (Operand.func 13), args := #[Operand.tmp 25], argTypes := #[25] }, type := 4, pos := "law.go:88", after := #[{ on := 0, ground := Ground.data }], guard := none }) rfl (fun K hK => ?_) AllReadyH.nil
          have hOld := hide hHeld
          clear hHeld
          go_simp
          (go_at_call 13; (with_reducible refine (G7.out _).mono ?_); rintro e w2 ⟨rfl, hb2⟩)
          (try go_wp2_with fail)
          refine hK.out _ _ (keep_grow hOld.out hb2) (fun hHeld => ?_)
          clear hK K hOld
          try simp only [Act.put, List.setIfInBounds_toArray, List.set_cons_zero, List.set_cons_succ]
          refine wpAnyH_take (i := 2) (oi := { dst := some 27, op := Op.move (Operand.tmp 26), type := 4, pos := "law.go:88", after := #[{ on := 1, ground := Ground.data }, { on := 1, ground := Ground.chain }], guard := none }) (v := ?_) rfl (by kernel_rfl) (by kernel_rfl) (by kernel_rfl) (fun _ _ _ h => h) (Or.inl ⟨by kernel_rfl, ?_⟩) hHeld ?_
          rotate_left
          · (intro w hSw; (try dsimp only at hSw); go_simp); try with_reducible rfl
          try simp only [Act.put, List.setIfInBounds_toArray, List.set_cons_zero, List.set_cons_succ]
          refine wpAnyH_take (i := 3) (oi := { dst := some 28, op := Op.load 25 (Operand.tmp 5), type := 25, pos := "law.go:88", after := #[{ on := 2, ground := Ground.guard }], guard := some (2, true) }) (v := undef) rfl (by kernel_rfl) (by kernel_rfl) (by kernel_rfl) (fun _ _ _ h => h) (Or.inr ⟨by kernel_rfl, rfl⟩) hHeld ?_
          try simp only [Act.put, List.setIfInBounds_toArray, List.set_cons_zero, List.set_cons_succ]
          refine wpAnyH_take (i := 4) (oi := { dst := some 29, op := Op.move (Operand.tmp 6), type := 3, pos := "law.go:88", after := #[{ on := 2, ground := Ground.guard }], guard := some (2, true) }) (v := undef) rfl (by kernel_rfl) (by kernel_rfl) (by kernel_rfl) (fun _ _ _ h => h) (Or.inr ⟨by kernel_rfl, rfl⟩) hHeld ?_
          try simp only [Act.put, List.setIfInBounds_toArray, List.set_cons_zero, List.set_cons_succ]
          refine wpAnyH_take (i := 5) (oi := { dst := some 30, op := Op.call { callee := Callee.value (Operand.func 14), args := #[Operand.tmp 28, Operand.tmp 29], argTypes := #[25, 3] }, type := 3, pos := "law.go:88", after := #[{ on := 3, ground := Ground.data }, { on := 4, ground := Ground.data }, { on := 2, ground := Ground.chain }, { on := 2, ground := Ground.guard }], guard := some (2, true) }) (v := undef) rfl (by kernel_rfl) (by kernel_rfl) (by kernel_rfl) (fun _ _ _ h => h) (Or.inr ⟨by kernel_rfl, rfl⟩) hHeld ?_
          try simp only [Act.put, List.setIfInBounds_toArray, List.set_cons_zero, List.set_cons_succ]
          refine wpAnyH_take (i := 6) (oi := { dst := some 31, op := Op.load 25 (Operand.tmp 4), type := 25, pos := "law.go:88", after := #[{ on := 2, ground := Ground.guard }], guard := some (2, true) }) (v := undef) rfl (by kernel_rfl) (by kernel_rfl) (by kernel_rfl) (fun _ _ _ h => h) (Or.inr ⟨by kernel_rfl, rfl⟩) hHeld ?_
          try simp only [Act.put, List.setIfInBounds_toArray, List.set_cons_zero, List.set_cons_succ]
          refine wpAnyH_take (i := 7) (oi := { dst := some 32, op := Op.move (Operand.tmp 6), type := 3, pos := "law.go:88", after := #[{ on := 2, ground := Ground.guard }], guard := some (2, true) }) (v := undef) rfl (by kernel_rfl) (by kernel_rfl) (by kernel_rfl) (fun _ _ _ h => h) (Or.inr ⟨by kernel_rfl, rfl⟩) hHeld ?_
          try simp only [Act.put, List.setIfInBounds_toArray, List.set_cons_zero, List.set_cons_succ]
          refine wpAnyH_take (i := 8) (oi := { dst := some 33, op := Op.call { callee := Callee.value (Operand.func 14), args := #[Operand.tmp 31, Operand.tmp 32], argTypes := #[25, 3] }, type := 3, pos := "law.go:88", after := #[{ on := 6, ground := Ground.data }, { on := 7, ground := Ground.data }, { on := 5, ground := Ground.chain }, { on := 2, ground := Ground.guard }], guard := some (2, true) }) (v := undef) rfl (by kernel_rfl) (by kernel_rfl) (by kernel_rfl) (fun _ _ _ h => h) (Or.inr ⟨by kernel_rfl, rfl⟩) hHeld ?_
          try simp only [Act.put, List.setIfInBounds_toArray, List.set_cons_zero, List.set_cons_succ]
          refine wpAnyH_take (i := 9) (oi := { dst := some 34, op := Op.binOp BinOp.lss 3 (Operand.tmp 30) (Operand.tmp 33) 3, type := 4, pos := "law.go:88", after := #[{ on := 5, ground := Ground.data }, { on := 8, ground := Ground.data }, { on := 2, ground := Ground.guard }], guard := some (2, true) }) (v := undef) rfl (by kernel_rfl) (by kernel_rfl) (by kernel_rfl) (fun _ _ _ h => h) (Or.inr ⟨by kernel_rfl, rfl⟩) hHeld ?_
          try simp only [Act.put, List.setIfInBounds_toArray, List.set_cons_zero, List.set_cons_succ]
          refine wpAnyH_take (i := 10) (oi := { dst := some 35, op := Op.pick (Operand.tmp 27) (Operand.tmp 34) (Operand.const (Value.bool false)), type := 4, pos := "law.go:88", after := #[{ on := 2, ground := Ground.data }, { on := 9, ground := Ground.data }], guard := none }) (v := ?_) rfl (by kernel_rfl) (by kernel_rfl) (by kernel_rfl) (fun _ _ _ h => h) (Or.inl ⟨by kernel_rfl, ?_⟩) hHeld ?_
          rotate_left
          · (intro w hSw; (try dsimp only at hSw); go_simp); try with_reducible rfl
          try simp only [Act.put, List.setIfInBounds_toArray, List.set_cons_zero, List.set_cons_succ]
          refine wpAnyH_take (i := 11) (oi := { dst := some 36, op := Op.move (Operand.tmp 35), type := 4, pos := "law.go:88", after := #[{ on := 10, ground := Ground.data }, { on := 8, ground := Ground.chain }], guard := none }) (v := ?_) rfl (by kernel_rfl) (by kernel_rfl) (by kernel_rfl) (fun _ _ _ h => h) (Or.inl ⟨by kernel_rfl, ?_⟩) hHeld ?_
          rotate_left
          · (intro w hSw; (try dsimp only at hSw); go_simp); try with_reducible rfl
          try simp only [Act.put, List.setIfInBounds_toArray, List.set_cons_zero, List.set_cons_succ]
          refine wpAnyH_take (i := 12) (oi := { dst := some 37, op := Op.load 25 (Operand.tmp 4), type := 25, pos := "law.go:88", after := #[{ on := 11, ground := Ground.guard }], guard := some (11, false) }) (v := ?_) rfl (by kernel_rfl) (by kernel_rfl) (by kernel_rfl) (fun _ _ _ h => h) (Or.inl ⟨by kernel_rfl, ?_⟩) hHeld ?_
          rotate_left
          · (intro w hSw; (try dsimp only at hSw); go_simp); try with_reducible rfl
          try simp only [Act.put, List.setIfInBounds_toArray, List.set_cons_zero, List.set_cons_succ]
          refine wpAnyH_take (i := 13) (oi := { dst := some 38, op := Op.move (Operand.tmp 6), type := 3, pos := "law.go:88", after := #[{ on := 11, ground := Ground.guard }], guard := some (11, false) }) (v := ?_) rfl (by kernel_rfl) (by kernel_rfl) (by kernel_rfl) (fun _ _ _ h => h) (Or.inl ⟨by kernel_rfl, ?_⟩) hHeld ?_
          rotate_left
          · (intro w hSw; (try dsimp only at hSw); go_simp); try with_reducible rfl
          try simp only [Act.put, List.setIfInBounds_toArray, List.set_cons_zero, List.set_cons_succ]
          refine wpAnyH_take (i := 14) (oi := { dst := some 39, op := Op.binOp BinOp.add 3 (Operand.tmp 38) (Operand.const (Value.int IntKind.i64 1)) 3, type := 3, pos := "law.go:88", after := #[{ on := 13, ground := Ground.data }, { on := 11, ground := Ground.guard }], guard := some (11, false) }) (v := ?_) rfl (by kernel_rfl) (by kernel_rfl) (by kernel_rfl) (fun _ _ _ h => h) (Or.inl ⟨by kernel_rfl, ?_⟩) hHeld ?_
          rotate_left
          · (intro w hSw; (try dsimp only at hSw); go_simp); try with_reducible rfl
          try simp only [Act.put, List.setIfInBounds_toArray, List.set_cons_zero, List.set_cons_succ]
          refine wpAnyH_take (i := 16) (oi := { dst := some 41, op := Op.load 25 (Operand.tmp 4), type := 25, pos := "law.go:88", after := #[{ on := 11, ground := Ground.guard }], guard := some (11, false) }) (v := ?_) rfl (by kernel_rfl) (by kernel_rfl) (by kernel_rfl) (fun _ _ _ h => h) (Or.inl ⟨by kernel_rfl, ?_⟩) hHeld ?_
          rotate_left
          · (intro w hSw; (try dsimp only at hSw); go_simp); try with_reducible rfl
          try simp only [Act.put, List.setIfInBounds_toArray, List.set_cons_zero, List.set_cons_succ]
          refine wpAnyH_take (i := 17) (oi := { dst := some 42, op := Op.move (Operand.tmp 6), type := 3, pos := "law.go:88", after := #[{ on := 11, ground := Ground.guard }], guard := some (11, false) }) (v := ?_) rfl (by kernel_rfl) (by kernel_rfl) (by kernel_rfl) (fun _ _ _ h => h) (Or.inl ⟨by kernel_rfl, ?_⟩) hHeld ?_
          rotate_left
          · (intro w hSw; (try dsimp only at hSw); go_simp); try with_reducible rfl
          try simp only [Act.put, List.setIfInBounds_toArray, List.set_cons_zero, List.set_cons_succ]
          refine wpAnyH_ready (rs := [15]) (by kernel_rfl) (by simp) ?_
          refine AllReadyH.cons (o := { dst := some 40, op := Op.call { callee := Callee.value (Operand.func 14), args := #[Operand.tmp 37, Operand.tmp 39], argTypes := #[25, 3] }, type := 3, pos := "law.go:88", after := #[{ on := 12, ground := Ground.data }, { on := 14, ground := Ground.data }, { on := 11, ground := Ground.chain }, { on := 11, ground := Ground.guard }], guard := some (11, false) }) rfl (fun K hK => ?_) AllReadyH.nil
          have hOld := hide hHeld
          clear hHeld
          go_simp
          (go_at_call 14; (with_reducible refine (G10.out _).mono ?_); rintro e w2 ⟨rfl, hb2⟩)
          (try go_wp2_with fail)
          refine hK.out _ _ (keep_grow hOld.out hb2) (fun hHeld => ?_)
          clear hK K hOld
          try simp only [Act.put, List.setIfInBounds_toArray, List.set_cons_zero, List.set_cons_succ]
          refine wpAnyH_ready (rs := [18]) (by kernel_rfl) (by simp) ?_
          refine AllReadyH.cons (o := { dst := some 43, op := Op.call { callee := Callee.value (Operand.func 14), args := #[Operand.tmp 41, Operand.tmp 42], argTypes := #[25, 3] }, type := 3, pos := "law.go:88", after := #[{ on := 16, ground := Ground.data }, { on := 17, ground := Ground.data }, { on := 15, ground := Ground.chain }, { on := 11, ground := Ground.guard }], guard := some (11, false) }) rfl (fun K hK => ?_) AllReadyH.nil
          have hOld := hide hHeld
          clear hHeld
          go_simp
          (go_at_call 14; (with_reducible refine (G9.out _).mono ?_); rintro e w2 ⟨rfl, hb2⟩)
          (try go_wp2_with fail)
          refine hK.out _ _ (keep_grow hOld.out hb2) (fun hHeld => ?_)
          clear hK K hOld
          try simp only [Act.put, List.setIfInBounds_toArray, List.set_cons_zero, List.set_cons_succ]
          refine wpAnyH_take (i := 19) (oi := { dst := some 44, op := Op.binOp BinOp.gtr 3 (Operand.tmp 40) (Operand.tmp 43) 3, type := 4, pos := "law.go:88", after := #[{ on := 15, ground := Ground.data }, { on := 18, ground := Ground.data }, { on := 11, ground := Ground.guard }], guard := some (11, false) }) (v := ?_) rfl (by kernel_rfl) (by kernel_rfl) (by kernel_rfl) (fun _ _ _ h => h) (Or.inl ⟨by kernel_rfl, ?_⟩) hHeld ?_
          rotate_left
          · (intro w hSw; (try dsimp only at hSw); go_simp); try with_reducible rfl
          try simp only [Act.put, List.setIfInBounds_toArray, List.set_cons_zero, List.set_cons_succ]
          refine wpAnyH_take (i := 20) (oi := { dst := some 45, op := Op.pick (Operand.tmp 36) (Operand.const (Value.bool true)) (Operand.tmp 44), type := 4, pos := "law.go:88", after := #[{ on := 11, ground := Ground.data }, { on := 19, ground := Ground.data }], guard := none }) (v := ?_) rfl (by kernel_rfl) (by kernel_rfl) (by kernel_rfl) (fun _ _ _ h => h) (Or.inl ⟨by kernel_rfl, ?_⟩) hHeld ?_
          rotate_left
          · (intro w hSw; (try dsimp only at hSw); go_simp); try with_reducible rfl
          try simp only [Act.put, List.setIfInBounds_toArray, List.set_cons_zero, List.set_cons_succ]
          refine wpAnyH_done (by kernel_rfl) ?_ _
          go_wp2_with fail
          go_meet
          exact ⟨rfl, hHeld⟩
      case rest =>
        obtain ⟨rfl, hS⟩ := hcut
        clear HS g7 G8 G9 G10 x9 y1 hx8 G1 m0 k0 k1
        have HS := hide hS
        obtain ⟨c0, c1, c2, c3, c4, c5, c6, c7, c8, c9, c10, c11, c12, f0, f1, l0, l1, l2, hB⟩ := hS
        clear hB
        by_cases hc : checkB b p s sp lo ba le = true
        · have g1 := fun W => check_any b p s sp lo ba le W
          rw [show checkZ b p s sp lo ba le = 0 from if_pos hc] at g1
          unfold conf at g1
          have G1 := hide g1
          obtain ⟨hr', s0, ⟨q0, q1⟩, ⟨a0, a1⟩, hroom, ⟨v0, v1⟩, hsz⟩ := of_decide_eq_true hc
          have HLO := hide (fun h : 1 < lo => (show checkZ b p s sp (lo - 1) ba le = 0 from if_pos (decide_eq_true ⟨hr', s0, ⟨by omega, by omega⟩, ⟨a0, a1⟩, by omega, ⟨v0, v1⟩, hsz⟩)))
          clear g1 hc hr' hroom hsz
          go_wp2_with fail
          refine (G1.out _).mono ?_
          rintro e w6 ⟨rfl, hb6⟩
          have hS := keep_grow HS.out hb6
          clear HS hb6 c0 c1 c2 c3 c4 c5 c6 c7 c8 c9 c10 c11 c12 f0 f1 l0 l1 l2
          have HS := hide hS
          obtain ⟨c0, c1, c2, c3, c4, c5, c6, c7, c8, c9, c10, c11, c12, f0, f1, l0, l1, l2, hB⟩ := hS
          clear hB
          by_cases hlo : 1 < lo
          · have g2 := fun W => check_any b p s sp (lo - 1) ba le W
            rw [HLO.out hlo] at g2
            unfold conf at g2
            have G2 := hide g2
            clear g2
            go_wp2_with fail
            refine (wakes7 _).mono ?_
            rintro e w7 ⟨rfl, hb7⟩
            have hS3 := keep_grow (store_growL (y := lo - 1) (Ne.symm HNE.out.2.1) (Ne.symm HNE.out.2.2.1) HNE.out.2.2.2.2 HS.out) hb7
            clear HS hb7 c0 c1 c2 c3 c4 c5 c6 c7 c8 c9 c10 c11 c12 f0 f1 l0 l1 l2
            have HS := hide hS3
            obtain ⟨c0, c1, c2, c3, c4, c5, c6, c7, c8, c9, c10, c11, c12, f0, f1, l0, l1, l2, hB⟩ := hS3
            clear hB
            go_wp2_with fail
            refine (G2.out _).mono ?_
            rintro e w8 ⟨rfl, hb8⟩
            go_wp2
            go_ret
            exact ⟨rfl, below_trans HS.out.2.2.2.2.2.2.2.2.2.2.2.2.2.2.2.2.2.2 hb8⟩
          · go_wp2_with fail
            refine (wakes7 _).mono ?_
            rintro e w7 ⟨rfl, hb7⟩
            go_wp2
            go_ret
            exact ⟨rfl, below_trans HS.out.2.2.2.2.2.2.2.2.2.2.2.2.2.2.2.2.2.2 hb7⟩
        · have g1 := fun W => check_any b p s sp lo ba le W
          rw [show checkZ b p s sp lo ba le = 2 from if_neg hc] at g1
          unfold conf at g1
          have G1 := hide g1
          clear g1 hc
          go_wp2_with fail
          refine (G1.out _).mono ?_
          rintro e w6 ⟨rfl, hb6⟩
          have hS := keep_grow HS.out hb6
          clear HS hb6 c0 c1 c2 c3 c4 c5 c6 c7 c8 c9 c10 c11 c12 f0 f1 l0 l1 l2
          have HS := hide hS
          obtain ⟨c0, c1, c2, c3, c4, c5, c6, c7, c8, c9, c10, c11, c12, f0, f1, l0, l1, l2, hB⟩ := hS
          clear hB
          go_wp2_with fail
          refine (wakes7 _).mono ?_
          rintro e w7 ⟨rfl, hb7⟩
          go_wp2
          go_ret
          exact ⟨rfl, below_trans HS.out.2.2.2.2.2.2.2.2.2.2.2.2.2.2.2.2.2.2 hb7⟩
    · have hr : rightB b p s = false := by simpa using hr
      rw [hr] at g1
      have G1 := hide g1
      clear g1 hr
      go_wp2_with fail
      refine (G1.out _).mono ?_
      rintro e w5 ⟨rfl, hb5⟩
      go_wp2_with fail
      refine (wakes7 _).mono ?_
      rintro e w6 ⟨rfl, hb6⟩
      go_wp2
      go_ret
      exact ⟨rfl, below_trans HS.out.2.2.2.2.2.2.2.2.2.2.2.2.2.2.2.2.2.2 (below_trans hb5 hb6)⟩

set_option maxRecDepth 100000 in
theorem geoGrows_lifted (os : Os) (started : os.Started) (H : Type) (enc : TypeId × Value → H) :
    ReturnsInHanded {} Try.checked os 6 .any (Rows.geoGrowsSpec.pre6 enc Try.prog Try.f6 Rows.geoGrowsRow.domain false) (Rows.geoGrowsSpec.post enc Try.prog Try.f6 false true false false) := by
  refine returnsInHanded_of_change (C := Try.checked) own started (by kernel_rfl) Try.func6
    (ChangeSpec.witness6 (enc := enc) (C := Try.checked) false ⟨#[], #[.agg #[.int .i64 0, .int .i64 0, .int .i64 0, .int .i64 0, .int .i64 0, .int .i64 0, .int .i64 0]], []⟩ 8 (by kernel_rfl) (by kernel_rfl) (by kernel_rfl) (by kernel_rfl)) ?_
  intro W base args ds gs before hval0 hW _ _
  have hval : ∀ (j : Nat) t v, Try.f6.params[j]? = some t → args[j]? = some v → Value.okWide Try.prog W .any base t v := hval0
  have hW' := hW
  obtain ⟨p, q, hA0, hV, rfl, hfz, hnd⟩ := hW
  have hA : DataW.TrodAll enc Try.prog W 0 (fun _ => true) true Try.f6.params.toList args.toList ds p := hA0
  rw [Try.params6] at hA hval
  obtain ⟨v0, vs0, d0, ds0, p0, q0, hargs, rfl, rfl, h0, r0⟩ := trodAll_cons hA
  obtain ⟨rfl, rfl, rfl⟩ := trodAll_nil r0
  obtain rfl : args = #[v0] := by cases args; simp_all
  obtain ⟨rfl, rfl⟩ := trodVars_none hV
  have z0 := open_nums_struct 7 Try.underlying23 Try.underlying3 (by kernel_rfl) (by kernel_rfl) (of_decide_eq_true (by kernel_rfl)) (hval 0 23 v0 rfl rfl) h0
  clear hA0 hval0
  refine (geoGrows_walk v0 z0 W).mono fun e W' ⟨he, hb⟩ => ?_
  subst he
  exact ⟨_, rfl, post_law laidOut (of_decide_eq_true (by kernel_rfl)) rfl rfl Try.underlying4 hW' ⟨rfl, rfl, rfl⟩ hb⟩

/-- THE STATEMENT -/
theorem geoGrows_holds : Rows.GeoGrowsSaid :=
  OpenClaim.holds_of_wide 6 Try.f6 rfl rfl rfl rfl rfl rfl rfl ⟨rfl, rfl, rfl, rfl, rfl⟩ rfl rfl rfl rfl rfl (by kernel_rfl) Try.func6 (by kernel_rfl)
    (of_decide_eq_true (by kernel_rfl)) (by unfold Func.isWrapper; first | (rw [if_pos (by decide +kernel)]; kernel_rfl) | (rw [if_neg (by decide +kernel)]; exact ⟨rfl, rfl⟩))
    (fun os started H enc _ => geoGrows_lifted os started H enc)

end Go.Proofs.Ytmhpnlfjonfghaa
