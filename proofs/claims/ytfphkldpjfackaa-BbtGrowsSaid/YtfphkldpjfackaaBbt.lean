/-
  Layer 9, the program's calls: a table by contracts.
-/
import Derived.Test.YtfphkldpjfackaaMBbt
import Derived.Deep.WholeRow
namespace Go.Proofs.Ytfphkldpjfackaa
set_option linter.unusedSimpArgs false
set_option linter.unusedVariables false
open Go.RowKit Go.WideShapes Go.ChangeShapes Go.ChangeAt

theorem _root_.Go.RowKit.Below.drewN' {B : Nat} {a b : World} (h : Below B a b) (n : Nat) : Below B a (b.drewN n) := ⟨h.os, h.tape, h.output, h.size, h.block⟩
theorem el {C : Array Value} {i : Nat} {v : Value} (h : C[i]? = some v) (hi : i < C.size) : C[i]'hi = v := by
  rw [Array.getElem?_eq_getElem hi] at h
  exact Option.some.inj h
set_option maxRecDepth 100000 in
theorem place_any (k : Nat) (hk9 : k ≤ 100000) (w : World) : Calls Try.prog 19 #[.int .i64 (k : Int)] w fun e w' => e = .returned (.tuple #[.int .i64 ((k / 8 : Nat) : Int), .int .u8 (bitZ k)]) ∧ ∃ n, w' = w.drewN n := by
  have hk : (k : Int) / 8 = ((k / 8 : Nat) : Int) := by omega
  obtain ⟨r, hr, hr8⟩ : ∃ r : Nat, k % 8 = r ∧ r < 8 := ⟨_, rfl, by omega⟩
  have hc : r = 0 ∨ r = 1 ∨ r = 2 ∨ r = 3 ∨ r = 4 ∨ r = 5 ∨ r = 6 ∨ r = 7 := by omega
  rcases hc with rfl | rfl | rfl | rfl | rfl | rfl | rfl | rfl
  · have hm : (k : Int) % 8 = 0 := by omega
    have HB := hide (show bitZ k = 128 by unfold bitZ; rw [hr]; rfl)
    clear hr
    have hk0 : (0 : Int) ≤ (k : Int) := by omega
    have hk1 : (k : Int) ≤ 100000 := by omega
    generalize bitZ k = bz at *
    generalize (k : Int) = K at *
    go_enter Try.func19, Try.ntmps19
    go_wp2_with fail
    go_quiet (fail)
    go_wp2_with fail
    rw [HB.out]
    go_ret2
    exact ⟨by rw [hk]; rfl, _, rfl⟩
  · have hm : (k : Int) % 8 = 1 := by omega
    have HB := hide (show bitZ k = 64 by unfold bitZ; rw [hr]; rfl)
    clear hr
    have hk0 : (0 : Int) ≤ (k : Int) := by omega
    have hk1 : (k : Int) ≤ 100000 := by omega
    generalize bitZ k = bz at *
    generalize (k : Int) = K at *
    go_enter Try.func19, Try.ntmps19
    go_wp2_with fail
    go_quiet (fail)
    go_wp2_with fail
    rw [HB.out]
    go_ret2
    exact ⟨by rw [hk]; rfl, _, rfl⟩
  · have hm : (k : Int) % 8 = 2 := by omega
    have HB := hide (show bitZ k = 32 by unfold bitZ; rw [hr]; rfl)
    clear hr
    have hk0 : (0 : Int) ≤ (k : Int) := by omega
    have hk1 : (k : Int) ≤ 100000 := by omega
    generalize bitZ k = bz at *
    generalize (k : Int) = K at *
    go_enter Try.func19, Try.ntmps19
    go_wp2_with fail
    go_quiet (fail)
    go_wp2_with fail
    rw [HB.out]
    go_ret2
    exact ⟨by rw [hk]; rfl, _, rfl⟩
  · have hm : (k : Int) % 8 = 3 := by omega
    have HB := hide (show bitZ k = 16 by unfold bitZ; rw [hr]; rfl)
    clear hr
    have hk0 : (0 : Int) ≤ (k : Int) := by omega
    have hk1 : (k : Int) ≤ 100000 := by omega
    generalize bitZ k = bz at *
    generalize (k : Int) = K at *
    go_enter Try.func19, Try.ntmps19
    go_wp2_with fail
    go_quiet (fail)
    go_wp2_with fail
    rw [HB.out]
    go_ret2
    exact ⟨by rw [hk]; rfl, _, rfl⟩
  · have hm : (k : Int) % 8 = 4 := by omega
    have HB := hide (show bitZ k = 8 by unfold bitZ; rw [hr]; rfl)
    clear hr
    have hk0 : (0 : Int) ≤ (k : Int) := by omega
    have hk1 : (k : Int) ≤ 100000 := by omega
    generalize bitZ k = bz at *
    generalize (k : Int) = K at *
    go_enter Try.func19, Try.ntmps19
    go_wp2_with fail
    go_quiet (fail)
    go_wp2_with fail
    rw [HB.out]
    go_ret2
    exact ⟨by rw [hk]; rfl, _, rfl⟩
  · have hm : (k : Int) % 8 = 5 := by omega
    have HB := hide (show bitZ k = 4 by unfold bitZ; rw [hr]; rfl)
    clear hr
    have hk0 : (0 : Int) ≤ (k : Int) := by omega
    have hk1 : (k : Int) ≤ 100000 := by omega
    generalize bitZ k = bz at *
    generalize (k : Int) = K at *
    go_enter Try.func19, Try.ntmps19
    go_wp2_with fail
    go_quiet (fail)
    go_wp2_with fail
    rw [HB.out]
    go_ret2
    exact ⟨by rw [hk]; rfl, _, rfl⟩
  · have hm : (k : Int) % 8 = 6 := by omega
    have HB := hide (show bitZ k = 2 by unfold bitZ; rw [hr]; rfl)
    clear hr
    have hk0 : (0 : Int) ≤ (k : Int) := by omega
    have hk1 : (k : Int) ≤ 100000 := by omega
    generalize bitZ k = bz at *
    generalize (k : Int) = K at *
    go_enter Try.func19, Try.ntmps19
    go_wp2_with fail
    go_quiet (fail)
    go_wp2_with fail
    rw [HB.out]
    go_ret2
    exact ⟨by rw [hk]; rfl, _, rfl⟩
  · have hm : (k : Int) % 8 = 7 := by omega
    have HB := hide (show bitZ k = 1 by unfold bitZ; rw [hr]; rfl)
    clear hr
    have hk0 : (0 : Int) ≤ (k : Int) := by omega
    have hk1 : (k : Int) ≤ 100000 := by omega
    generalize bitZ k = bz at *
    generalize (k : Int) = K at *
    go_enter Try.func19, Try.ntmps19
    go_wp2_with fail
    go_quiet (fail)
    go_wp2_with fail
    rw [HB.out]
    go_ret2
    exact ⟨by rw [hk]; rfl, _, rfl⟩
theorem there_any (v n : Int) (L : List UInt8) (hL : L.length = 32) (k : Int) (w : World) :
    Calls Try.prog 18 #[.agg (bbtC v n L), .int .i64 k] w fun e w' => e = .returned (.bool (decide (0 ≤ k ∧ k < n))) ∧ Below w.heap.size w w' := by
  have hs := bbtC_size v n L hL
  have h1' := bbtC_1 v n L
  generalize bbtC v n L = C at *
  have h1 := el h1' (by omega)
  clear h1'
  by_cases hk : 0 ≤ k
  · go_enter Try.func18, Try.ntmps18
    go_wp2_with fail
    go_ret
    exact ⟨ret_bb (by simp [hk]), (Below.refl _ _).alloc (Nat.le_refl _) _⟩
  · go_enter Try.func18, Try.ntmps18
    go_wp2_with fail
    go_ret
    exact ⟨ret_bb (by rw [decide_eq_false (show ¬ 0 ≤ k by omega)]; rfl), (Below.refl _ _).alloc (Nat.le_refl _) _⟩
theorem version_any (v n : Int) (L : List UInt8) (hL : L.length = 32) (w : World) :
    Calls Try.prog 14 #[.agg (bbtC v n L)] w fun e w' => e = .returned (.int .u64 v) ∧ Below w.heap.size w w' := by
  have hs := bbtC_size v n L hL
  have h0' := bbtC_0 v n L
  generalize bbtC v n L = C at *
  have h0 := el h0' (by omega)
  clear h0'
  go_enter Try.func14, Try.ntmps14
  go_wp2_with fail
  go_ret
  exact ⟨rfl, (Below.refl _ _).alloc (Nat.le_refl _) _⟩
theorem blocks_any (v n : Int) (L : List UInt8) (hL : L.length = 32) (w : World) :
    Calls Try.prog 7 #[.agg (bbtC v n L)] w fun e w' => e = .returned (.int .i64 n) ∧ Below w.heap.size w w' := by
  have hs := bbtC_size v n L hL
  have h1' := bbtC_1 v n L
  generalize bbtC v n L = C at *
  have h1 := el h1' (by omega)
  clear h1'
  go_enter Try.func7, Try.ntmps7
  go_wp2_with fail
  go_ret
  exact ⟨rfl, (Below.refl _ _).alloc (Nat.le_refl _) _⟩
theorem bbt_info (v n : Int) (L : List UInt8) (hL : L.length = 32) : (Try.prog.info? 26).map (·.size) = some (bbtC v n L).size := by
  rw [bbtC_size v n L hL]
  kernel_rfl
def hasZ (n : Int) (L : List UInt8) (k : Int) : Bool := decide (0 ≤ k ∧ k < n) && hasB L k.toNat
theorem has_any (v n : Int) (L : List UInt8) (hL : L.length = 32) (hn : n ≤ 256) (k : Int) (w : World) :
    Calls Try.prog 17 #[.agg (bbtC v n L), .int .i64 k] w fun e w' => e = .returned (.bool (hasZ n L k)) ∧ Below w.heap.size w w' := by
  have HTH := hide (fun W => there_any v n L hL k W)
  have HB := hide ((Below.refl w.heap.size w).alloc (Nat.le_refl _) (.cells (bbtC v n L) 26))
  have HC := hide (heap_new w (.cells (bbtC v n L) 26))
  have HI := hide (bbt_info v n L hL)
  by_cases hk : 0 ≤ k ∧ k < n
  · obtain ⟨j, rfl⟩ := Int.eq_ofNat_of_zero_le hk.1
    have HZ := hide (show hasZ n L (j : Int) = hasB L j by unfold hasZ; rw [decide_eq_true hk, Bool.true_and, Int.toNat_natCast])
    rw [decide_eq_true hk] at HTH
    have HAT := hide (bbtC_at v n L (j / 8) (by omega))
    have HAB := hide (and_bit (L.getD (j / 8) 0) j)
    change Hid ((bits .and .u8 ((L.getD (j / 8) 0).toNat : Int) (bitZ j) == 0) = !(hasB L j)) at HAB
    have hj32 : j / 8 < 32 := by omega
    generalize (L.getD (j / 8) 0).toNat = xv at *
    generalize hasB L j = hb at *
    generalize bbtC v n L = C at *
    clear hk
    go_enter Try.func17, Try.ntmps17
    go_wp2_with (refine wpList_load_row rfl 26 _ rfl w.heap.size rfl 26 C (0, 0) _ HC.out Try.underlying26 rfl HI.out ?_)
    refine (HTH.out _).mono ?_
    rintro e w1 ⟨rfl, hb1⟩
    have HB1 := hide (below_trans HB.out hb1)
    have HC1 := hide ((hb1.block _ (heap_lt HC.out)).trans HC.out)
    clear hb1 HB HC HTH
    go_wp2_with fail
    refine (place_any j (by omega) _).mono ?_
    rintro e w2 ⟨rfl, nn, rfl⟩
    have c0 : (w1.drewN nn).cell? ⟨w.heap.size, 2 + j / 8, none⟩ = some (.int .u8 (xv : Int)) := (cell_of_block HC1.out (2 + j / 8)).trans HAT.out
    have hab := HAB.out
    have hlt := heap_lt HC1.out
    have hbv : (bits .and .u8 (xv : Int) (bitZ j) != 0) = hb := by rw [bne, hab, Bool.not_not]
    clear hab
    go_wp2_with fail
    go_ret
    exact ⟨ret_bb HZ.out.symm, HB1.out.drewN' nn⟩
  · have HZ := hide (show hasZ n L k = false by unfold hasZ; rw [decide_eq_false hk, Bool.false_and])
    rw [decide_eq_false hk] at HTH
    generalize bbtC v n L = C at *
    clear hk
    go_enter Try.func17, Try.ntmps17
    go_wp2_with (refine wpList_load_row rfl 26 _ rfl w.heap.size rfl 26 C (0, 0) _ HC.out Try.underlying26 rfl HI.out ?_)
    refine (HTH.out _).mono ?_
    rintro e w1 ⟨rfl, hb1⟩
    go_wp2_with fail
    go_ret
    exact ⟨ret_bb HZ.out.symm, below_trans HB.out hb1⟩
section
variable {P : Program} (w : World) {ops : Array Oper} {rest : List Oper} {o : Oper} {a : Act} {Q : Exit → Act → World → Prop}
theorem wpList_build0 (hg : o.guard = none) (t : TypeId) (hop : o.op = Op.build t #[]) (v : Value) (hv : (Instr.build t #[]).run P w = .ok v w) (hK : wpList P ops Q rest (a.put o.dst v) w) : wpList P ops Q (o :: rest) a w := by
  refine wpList_plain hg fun K' hK' => ?_
  unfold Oper.wp
  simp [execOp, hop, hv, Result.andThen]
  exact hK' _ _ hK
theorem wpList_build1 (hg : o.guard = none) (t : TypeId) (x : Operand) (i : Nat) (hop : o.op = Op.build t #[(i, x)]) (u : Value) (hx : a.eval x = u) (v : Value) (hv : (Instr.build t #[(i, u)]).run P w = .ok v w) (hK : wpList P ops Q rest (a.put o.dst v) w) : wpList P ops Q (o :: rest) a w := by
  refine wpList_plain hg fun K' hK' => ?_
  unfold Oper.wp
  simp [execOp, hop, hx, hv, Result.andThen]
  exact hK' _ _ hK
theorem wpList_build2 (hg : o.guard = none) (t : TypeId) (x y : Operand) (i j : Nat) (hop : o.op = Op.build t #[(i, x), (j, y)]) (u u' : Value) (hx : a.eval x = u) (hy : a.eval y = u') (v : Value) (hv : (Instr.build t #[(i, u), (j, u')]).run P w = .ok v w) (hK : wpList P ops Q rest (a.put o.dst v) w) : wpList P ops Q (o :: rest) a w := by
  refine wpList_plain hg fun K' hK' => ?_
  unfold Oper.wp
  simp [execOp, hop, hx, hy, hv, Result.andThen]
  exact hK' _ _ hK
theorem wpList_alloc0 (hg : o.guard = none) (t : TypeId) (hop : o.op = Op.alloc t) (v : Value) (w' : World) (hv : (Instr.alloc t true (.tuple #[])).run P w = .ok v w') (hK : wpList P ops Q rest (a.put o.dst v) w') : wpList P ops Q (o :: rest) a w := by
  refine wpList_plain hg fun K' hK' => ?_
  unfold Oper.wp
  simp [execOp, hop, hv, Result.andThen]
  exact hK' _ _ hK
end
theorem build_T0 (w : World) : (Instr.build 26 #[]).run Try.prog w = .ok (.agg (bbtC 0 0 zeros32)) w := by kernel_rfl
theorem build_T1 (n : Int) (w : World) : (Instr.build 26 #[(1, .int .i64 n)]).run Try.prog w = .ok (.agg (bbtC 0 n zeros32)) w := by kernel_rfl
theorem build_T2 (v n : Int) (w : World) : (Instr.build 26 #[(0, .int .u64 v), (1, .int .i64 n)]).run Try.prog w = .ok (.agg (bbtC v n zeros32)) w := by kernel_rfl
theorem alloc_T (w : World) : (Instr.alloc 26 true (.tuple #[])).run Try.prog w = .ok (.pointer (some ⟨w.heap.size, 0, none⟩)) (w.alloc (.cells (bbtC 0 0 zeros32) 26)) := by kernel_rfl
theorem zeros_len : zeros32.length = 32 := rfl
theorem bbt_one (v n : Int) (L : List UInt8) : (bbtC v n L).all (·.oneCell') = true := bbtC_one v n L
/-- a whole table stored into a block that holds one -/
theorem wpList_storeT {w : World} {ops : Array Oper} {rest : List Oper} {o : Oper} {a : Act} {Q : Exit → Act → World → Prop} (hgd : o.guard = none) (x y : Operand) (ho : o.op = .store 26 x y)
    (g : Nat) (hx : a.eval x = .pointer (some ⟨g, 0, none⟩)) (v n : Int) (L : List UInt8) (hL : L.length = 32) (hy : a.eval y = .agg (bbtC v n L)) (v' n' : Int) (L' : List UInt8) (hL' : L'.length = 32) (hg : w.heap[g]? = some (.cells (bbtC v' n' L') 26 (0, 0)))
    (h : wpList Try.prog ops Q rest (a.put o.dst undef) (w.setRow g (bbtC v n L))) : wpList Try.prog ops Q (o :: rest) a w :=
  wpList_plain hgd fun _ hK => by
    unfold Oper.wp execOp
    simp only [ho, hx, hy, Instr.storeAt, Instr.sureAddr, Sem.run_bind, Sem.run_pure, Result.andThen_ok, run_storeVar_row w g 26 26 (bbtC v' n' L') (bbtC v n L) hg (bbt_info v n L hL) (by rw [bbtC_size _ _ _ hL', bbtC_size _ _ _ hL]) (bbtC_one v n L)]
    exact hK _ _ h
theorem may_any (n : Int) (w : World) : Calls Try.prog 16 #[.int .i64 n] w fun e w' => e = .returned (.bool (decide (1 ≤ n ∧ n ≤ 256))) ∧ w = w' := by
  by_cases h : 1 ≤ n
  · go_enter Try.func16, Try.ntmps16
    go_wp2_with fail
    go_ret
    exact ⟨ret_bb (by simp [h]), rfl⟩
  · go_enter Try.func16, Try.ntmps16
    go_wp2_with fail
    go_ret
    exact ⟨ret_bb (by rw [decide_eq_false (show ¬ 1 ≤ n by omega)]; rfl), rfl⟩
/-- results: a table in a cell, and an error -/
theorem res_bbt {fn : Func} {p u : Tmp} (h : fn.results = #[.cell p 26, .tmp u]) (tmps : Array Value) (w : World) (A : Nat) (v n : Int) (L : List UInt8) (hL : L.length = 32) (x : Value)
    (hp : tmps.getD p undef = .pointer (some ⟨A, 0, none⟩)) (hu : tmps.getD u undef = x) (hg : w.heap[A]? = some (.cells (bbtC v n L) 26 (0, 0))) : (results fn tmps).run Try.prog w = .ok (.tuple #[.agg (bbtC v n L), x]) w := by
  rw [results_cell_tmp h, hp, hu]
  simp [asAddr, Result.andThen, run_loadVar_row w A 26 26 _ _ _ hg Try.underlying26 rfl (bbt_info v n L hL)]
theorem setRow_below {B : Nat} {a w : World} (h : Below B a w) {g : Nat} (hg : B ≤ g) (cs : Array Value) : Below B a (w.setRow g cs) :=
  h.trans ⟨rfl, rfl, rfl, by simp, fun k hk => setRow_other w g k cs (by omega)⟩
set_option maxRecDepth 100000 in
set_option maxHeartbeats 400000 in
theorem new_any (n : Int) (w : World) : Calls Try.prog 6 #[.int .i64 n] w fun e w' => e = .returned (.tuple #[.agg (if 1 ≤ n ∧ n ≤ 256 then bbtC 0 n zeros32 else bbtC 0 0 zeros32), .int .i64 (if 1 ≤ n ∧ n ≤ 256 then 0 else 2)]) ∧ Below w.heap.size w w' := by
  have HM := hide (fun W => may_any n W)
  have HC := hide (heap_new w (.cells (bbtC 0 0 zeros32) 26))
  have HB := hide ((Below.refl w.heap.size w).alloc (Nat.le_refl _) (.cells (bbtC 0 0 zeros32) 26))
  by_cases hn : 1 ≤ n ∧ n ≤ 256
  · rw [decide_eq_true hn] at HM
    rw [if_pos hn, if_pos hn]
    clear hn
    go_enter Try.func6, Try.ntmps6
    go_wp2_with (first | (refine wpList_alloc0 w rfl 26 rfl (.pointer (some ⟨w.heap.size, 0, none⟩)) (w.alloc (.cells (bbtC 0 0 zeros32) 26)) (alloc_T w) ?_))
    refine (HM.out _).mono ?_
    rintro e w1 ⟨rfl, rfl⟩
    go_wp2_with (first | (refine wpList_build1 (w.alloc (.cells (bbtC 0 0 zeros32) 26)) rfl 26 (.tmp 8) 1 rfl (.int .i64 n) rfl (.agg (bbtC 0 n zeros32)) (build_T1 n _) ?_) | (refine wpList_storeT rfl (.tmp 2) (.tmp 9) rfl w.heap.size rfl 0 n zeros32 zeros_len rfl 0 0 zeros32 zeros_len HC.out ?_))
    exact bodyPost_ret (res_bbt Try.results6 _ _ w.heap.size 0 n zeros32 zeros_len _ rfl rfl (setRow_heap _ _ _ _ _ _ HC.out)) rfl ⟨rfl, setRow_below HB.out (Nat.le_refl _) _⟩
  · rw [decide_eq_false hn] at HM
    rw [if_neg hn, if_neg hn]
    clear hn
    go_enter Try.func6, Try.ntmps6
    go_wp2_with (first | (refine wpList_alloc0 w rfl 26 rfl (.pointer (some ⟨w.heap.size, 0, none⟩)) (w.alloc (.cells (bbtC 0 0 zeros32) 26)) (alloc_T w) ?_))
    refine (HM.out _).mono ?_
    rintro e w1 ⟨rfl, rfl⟩
    go_wp2_with (first | (refine wpList_build0 (w.alloc (.cells (bbtC 0 0 zeros32) 26)) rfl 26 rfl (.agg (bbtC 0 0 zeros32)) (build_T0 _) ?_) | (refine wpList_storeT rfl (.tmp 2) (.tmp 7) rfl w.heap.size rfl 0 0 zeros32 zeros_len rfl 0 0 zeros32 zeros_len HC.out ?_))
    exact bodyPost_ret (res_bbt Try.results6 _ _ w.heap.size 0 0 zeros32 zeros_len _ rfl rfl (setRow_heap _ _ _ _ _ _ HC.out)) rfl ⟨rfl, setRow_below HB.out (Nat.le_refl _) _⟩
end Go.Proofs.Ytfphkldpjfackaa
