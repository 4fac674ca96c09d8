/-
  Layer 5, the program's calls, fourth part: filled.
-/
import Derived.Test.YthippbckjldijaaNand3
namespace Go.Proofs.Ythippbckjldijaa
set_option linter.unusedSimpArgs false
set_option linter.unusedVariables false
open Go.RowKit Go.WideShapes Go.ChangeShapes Go.ChangeAt Go.Deep

/-- a text again and again -/
def againB (n : Nat) (t : ByteArray) : ByteArray := ⟨(Lib.repeatL t.data.toList ((n + 32) / t.size + 1)).toArray⟩
def filledP (n : Nat) (t : ByteArray) : Pg := ((againB n t).extract 0 n, (againB n t).extract n (n + 32))
theorem againB_size (n : Nat) (t : ByteArray) (h : 1 ≤ t.size) : n + 32 ≤ (againB n t).size ∧ (againB n t).size ≤ n + 32 + t.size := by
  have h1 : (againB n t).size = ((n + 32) / t.size + 1) * t.size := by
    show (Lib.repeatL t.data.toList ((n + 32) / t.size + 1)).toArray.size = _
    rw [List.size_toArray, Lib.repeatL_length]
    rfl
  rw [h1, Nat.add_mul, Nat.one_mul]
  have h2 := Nat.div_add_mod (n + 32) t.size
  have h3 := Nat.mod_lt (n + 32) h
  rw [Nat.mul_comm] at h2
  omega
set_option maxRecDepth 100000 in
set_option maxHeartbeats 400000 in
theorem filled_any (nb pg : Int) (n : Nat) (hn : n ≤ 1024) (t : ByteArray) (ht1 : 1 ≤ t.size) (ht2 : t.size ≤ 1000000) (w : World) :
    Calls Try.prog 33 #[.agg #[.int .i64 nb, .int .i64 pg, .int .i64 (n : Int)], .string t] w fun e w' => e = .returned (.agg #[.string (filledP n t).1, .string (filledP n t).2]) ∧ Below w.heap.size w w' := by
  obtain ⟨c, hc⟩ : ∃ c, (n + 32) / t.size = c := ⟨_, rfl⟩
  have hsz := againB_size n t ht1
  have hdl := Nat.div_le_self (n + 32) t.size
  have HR := hide (fun (W : World) => Try.strings_Repeat t (c + 1) W (by omega) (by
    have h1 : (againB n t).size = (c + 1) * t.size := by
      show (Lib.repeatL t.data.toList ((n + 32) / t.size + 1)).toArray.size = _
      rw [List.size_toArray, Lib.repeatL_length, hc]
      rfl
    rw [Nat.mul_comm, ← h1]
    omega))
  have HA := hide (show (⟨(Lib.repeatL t.data.toList (c + 1)).toArray⟩ : ByteArray) = againB n t by unfold againB; rw [hc])
  rw [HA.out] at HR
  have HP := hide (show filledP n t = ((againB n t).extract 0 n, (againB n t).extract n (n + 32)) from rfl)
  rw [HP.out]
  generalize againB n t = all at *
  have hq2 : ((n : Int) + 32) / (t.size : Int) = (c : Int) := by rw [← hc]; simp
  have htd : ((n : Int) + 32).tdiv (t.size : Int) = (c : Int) := by rw [Int.tdiv_eq_ediv_of_nonneg (by omega)]; exact hq2
  have hcb : c ≤ 1056 := by omega
  rw [show ((c + 1 : Nat) : Int) = (c : Int) + 1 by omega] at HR
  have hne : ¬ (t.size : Int) = 0 := by omega
  have hn1 : (n : Int) ≤ (all.size : Int) := by omega
  have hn2 : (n : Int) + 32 ≤ (all.size : Int) := by omega
  have hn3 : (n : Int) ≤ (n : Int) + 32 := by omega
  clear hc HA HP hsz hdl hq2
  go_enter Try.func33, Try.ntmps33
  go_wp2_with fail
  obtain ⟨o1, ho1⟩ : ∃ o1, o1 = Obj.cells #[.int .i64 nb, .int .i64 pg, .int .i64 (n : Int)] 26 := ⟨_, rfl⟩
  obtain ⟨o2, ho2⟩ : ∃ o2, o2 = Obj.cells #[.string ⟨#[]⟩, .string ⟨#[]⟩] 70 := ⟨_, rfl⟩
  rw [← ho1, ← ho2]
  have hz1 : (w.alloc o1).heap.size = w.heap.size + 1 := by simp
  have hz2 : ((w.alloc o1).alloc o2).heap.size = w.heap.size + 2 := by simp
  have hx : ((w.alloc o1).alloc o2).heap[w.heap.size]? = some o1 := (heap_old (w.alloc o1) o2 _ (by omega)).trans (heap_new w o1)
  have hy : ((w.alloc o1).alloc o2).heap[w.heap.size + 1]? = some o2 := by
    have := heap_new (w.alloc o1) o2
    rw [hz1] at this
    exact this
  have hbl : Below w.heap.size w ((w.alloc o1).alloc o2) := ((Below.refl w.heap.size w).alloc (Nat.le_refl _) o1).alloc (by omega) o2
  generalize (w.alloc o1).alloc o2 = w2 at *
  refine (HR.out _).mono ?_
  rintro e w1 ⟨rfl, hb⟩
  have XB := hide ((hb.block w.heap.size (by omega)).trans hx)
  have YB := hide ((hb.block (w.heap.size + 1) (by omega)).trans hy)
  have BB := hide (hbl.trans (hb.mono (by omega)))
  clear hb hbl hx hy hz1 hz2
  rw [ho1] at XB
  rw [ho2] at YB
  clear ho1 ho2
  have x2 := cell_of_block XB.out 2
  have y0 := cell_of_block YB.out 0
  have y1 := cell_of_block YB.out 1
  have g0 := frozen_of_block YB.out 0
  have g1 := frozen_of_block YB.out 1
  go_upto_region 3 with (fail)
  go_still_tail 10, (by kernel_rfl)
  change wpList _ _ _ _ _ w1.drew
  go_wp2_with fail
  have hw : w.heap.size + 1 < w1.heap.size := heap_lt YB.out
  refine bodyPost_ret (v := .agg #[.string (all.extract 0 n), .string (all.extract n (n + 32))]) ?_ rfl ⟨rfl, ((BB.out.setCell (by simp) _).setCell (by simp) _).drew⟩
  have z0 : (((w1.setCell ⟨w.heap.size + 1, 0, none⟩ (.string (all.extract 0 n))).setCell ⟨w.heap.size + 1, 1, none⟩ (.string (all.extract n (n + 32)))).drew).heap[w.heap.size + 1]? = some (.cells #[.string (all.extract 0 n), .string (all.extract n (n + 32))] 70 (0, 0)) := block_setCell (block_setCell YB.out _ _) _ _
  have z1 := cell_of_block z0 0
  have z2 := cell_of_block z0 1
  simp [results, Try.results33, go_sem, z1, z2]
end Go.Proofs.Ythippbckjldijaa
