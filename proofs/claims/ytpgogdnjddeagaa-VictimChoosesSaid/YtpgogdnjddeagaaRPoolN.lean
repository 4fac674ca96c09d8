/-
  Layer 11: the document's New by contract.
-/
import Derived.Test.YtpgogdnjddeagaaRPool
namespace Go.Proofs.Ytpgogdnjddeagaa
set_option linter.unusedSimpArgs false
set_option linter.unusedVariables false
open Go.RowKit

theorem fsts_new (n : Nat) : fsts (newK n 0) = List.replicate n (.int .i64 0) := by simp [fsts, newK]
theorem snds_new (n : Nat) : snds (newK n 0) = List.replicate n (.int .i64 0) := by simp [snds, newK]
theorem make_ints (n : Nat) (h : n ≤ 256) (W : World) : (Instr.makeSlice 23 (.int .i64 (n : Int)) (.int .i64 (n : Int))).run Try.prog W = .ok (.slice (some ⟨W.heap.size, 0, none⟩) n n) (W.alloc (.cells (fsts (newK n 0)).toArray 3)) := by
  rw [fsts_new]
  exact run_make_nums 23 3 Try.underlying23 (show (Try.prog.info? 3).map (fun i => (i.zero, i.size, i.bytes)) = some (some (.int .i64 0), 1, 8) by kernel_rfl) n n rfl (by omega) (by omega) W
theorem rp_new (w : World) (n s t : Nat) (h : (s = w.heap.size ∧ t = w.heap.size + 1) ∨ (s = w.heap.size + 1 ∧ t = w.heap.size)) :
    RPAt (((w.alloc (.cells (fsts (newK n 0)).toArray 3)).alloc (.cells (fsts (newK n 0)).toArray 3)).alloc (.cells #[.slice (some ⟨s, 0, none⟩) n n, .slice (some ⟨t, 0, none⟩) n n] 55)).drew (w.heap.size + 1 + 1) s t (newK n 0) := by
  have e : fsts (newK n 0) = snds (newK n 0) := by rw [fsts_new, snds_new]
  have l := newK_length n 0 (Nat.zero_le _)
  have hb : ∀ k, k = w.heap.size ∨ k = w.heap.size + 1 → (((w.alloc (.cells (fsts (newK n 0)).toArray 3)).alloc (.cells (fsts (newK n 0)).toArray 3)).alloc (.cells #[.slice (some ⟨s, 0, none⟩) n n, .slice (some ⟨t, 0, none⟩) n n] 55)).drew.heap[k]? = some (.cells (fsts (newK n 0)).toArray 3 (0, 0)) := by
    intro k hk
    show (((w.alloc _).alloc _).alloc _).heap[k]? = _
    rw [heap_old _ _ _ (by simp; omega)]
    rcases hk with rfl | rfl
    · rw [heap_old _ _ _ (by simp)]
      exact heap_new _ _
    · have := heap_new (w.alloc (.cells (fsts (newK n 0)).toArray 3)) (.cells (fsts (newK n 0)).toArray 3)
      rwa [show (w.alloc (.cells (fsts (newK n 0)).toArray 3)).heap.size = w.heap.size + 1 by simp] at this
  refine ⟨?_, hb s (by omega), by rw [← e]; exact hb t (by omega), by omega, by omega, by omega⟩
  have := heap_new ((w.alloc (.cells (fsts (newK n 0)).toArray 3)).alloc (.cells (fsts (newK n 0)).toArray 3)) (.cells #[.slice (some ⟨s, 0, none⟩) n n, .slice (some ⟨t, 0, none⟩) n n] 55)
  rw [show ((w.alloc (.cells (fsts (newK n 0)).toArray 3)).alloc (.cells (fsts (newK n 0)).toArray 3)).heap.size = w.heap.size + 1 + 1 by simp] at this
  rw [l]
  exact this
set_option maxRecDepth 100000 in
set_option maxHeartbeats 1000000 in
theorem rnew_any (n : Nat) (hn : n ≤ 256) (w : World) :
    Calls Try.prog 20 #[.int .i64 (n : Int)] w fun e w' => ∃ r s t, e = .returned (.pointer (some ⟨r, 0, none⟩)) ∧ RPAt w' r s t (List.replicate n (1, 0)) ∧ w.heap.size ≤ r ∧ w.heap.size ≤ s ∧ w.heap.size ≤ t ∧ Below w.heap.size w w' := by
  have hmk := fun W => make_ints n hn W
  have HR := hide (fun s t h => rp_new w n s t h)
  generalize hA : (fsts (newK n 0)).toArray = A at *
  have HA := hide hA
  clear hA
  go_enter Try.func20, Try.ntmps20
  go_wp2_with fail
  go_region
  · have H0 := hide (HR.out (w.heap.size) (w.heap.size + 1) (by simp))
    go_wp2_with fail
    go_loopw [4] (fun i W => ∃ k : Nat, k ≤ n ∧ i = .int .i64 k ∧ RPAt W (w.heap.size + 1 + 1) (w.heap.size) (w.heap.size + 1) (newK n k) ∧ Below w.heap.size w W) (fun i _ => n - (intOf i).toNat)
    case atStart => exact ⟨0, by omega, rfl, H0.out, ((((Below.refl w.heap.size w).alloc (by omega) _).alloc (by simp) _).alloc (by simp; omega) _).drew⟩
    case round =>
      obtain ⟨k, hk, rfl, hP, hB⟩ := hrel
      have hll := newK_length n k hk
      obtain ⟨c0, c1⟩ := hP.cells
      have HP := hide hP
      have HB := hide hB
      by_cases hlt : k < n
      · obtain ⟨a0, a1, f0, f1⟩ := hP.at k (by omega)
        have HS := hide (hP.setFst k (by omega) 1)
        rw [newK_next n k hlt] at HS
        rw [hll] at c0 c1
        generalize ((newK n k).getD k (0, 0)).1 = x at *
        clear hP hB hll
        go_wp2_with fail
        go_roundw
        case rel => exact ⟨k + 1, by omega, by go_num, HS.out, HB.out.setCell (by dsimp only; omega) _⟩
        case measure => simp [intOf]; omega
      · obtain rfl : k = n := by omega
        clear hP hB
        go_wp2_with fail
        go_ret
        exact ⟨_, _, _, rfl, by have := HP.out; rwa [show newK k k = List.replicate k (1, 0) by simp [newK]] at this, by omega, by omega, by omega, HB.out⟩
  · have H0 := hide (HR.out (w.heap.size + 1) (w.heap.size) (by simp))
    go_wp2_with fail
    go_loopw [4] (fun i W => ∃ k : Nat, k ≤ n ∧ i = .int .i64 k ∧ RPAt W (w.heap.size + 1 + 1) (w.heap.size + 1) (w.heap.size) (newK n k) ∧ Below w.heap.size w W) (fun i _ => n - (intOf i).toNat)
    case atStart => exact ⟨0, by omega, rfl, H0.out, ((((Below.refl w.heap.size w).alloc (by omega) _).alloc (by simp) _).alloc (by simp; omega) _).drew⟩
    case round =>
      obtain ⟨k, hk, rfl, hP, hB⟩ := hrel
      have hll := newK_length n k hk
      obtain ⟨c0, c1⟩ := hP.cells
      have HP := hide hP
      have HB := hide hB
      by_cases hlt : k < n
      · obtain ⟨a0, a1, f0, f1⟩ := hP.at k (by omega)
        have HS := hide (hP.setFst k (by omega) 1)
        rw [newK_next n k hlt] at HS
        rw [hll] at c0 c1
        generalize ((newK n k).getD k (0, 0)).1 = x at *
        clear hP hB hll
        go_wp2_with fail
        go_roundw
        case rel => exact ⟨k + 1, by omega, by go_num, HS.out, HB.out.setCell (by dsimp only; omega) _⟩
        case measure => simp [intOf]; omega
      · obtain rfl : k = n := by omega
        clear hP hB
        go_wp2_with fail
        go_ret
        exact ⟨_, _, _, rfl, by have := HP.out; rwa [show newK k k = List.replicate k (1, 0) by simp [newK]] at this, by omega, by omega, by omega, HB.out⟩
end Go.Proofs.Ytpgogdnjddeagaa
