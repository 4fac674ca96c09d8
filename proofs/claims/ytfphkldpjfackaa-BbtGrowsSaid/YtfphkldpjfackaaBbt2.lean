/-
  Layer 9, the program's calls: With, List by contracts.
-/
import Derived.Test.YtfphkldpjfackaaBbt
import Derived.Lib.AppendStr
namespace Go.Proofs.Ytfphkldpjfackaa
set_option linter.unusedSimpArgs false
set_option linter.unusedVariables false
open Go.RowKit Go.WideShapes Go.ChangeShapes Go.ChangeAt

theorem heap_alloc_sz (w : World) (o : Obj) : (w.alloc o).heap.size = w.heap.size + 1 := by show (w.heap.push o).size = _; simp
theorem alloc_T2 (w : World) (o : Obj) : (Instr.alloc 26 true (.tuple #[])).run Try.prog (w.alloc o) = .ok (.pointer (some ⟨w.heap.size + 1, 0, none⟩)) ((w.alloc o).alloc (.cells (bbtC 0 0 zeros32) 26)) := by
  have := alloc_T (w.alloc o)
  rwa [heap_alloc_sz] at this
theorem two_old (w : World) {o o2 : Obj} : ((w.alloc o).alloc o2).heap[w.heap.size]? = some o := (heap_old _ _ _ (by rw [heap_alloc_sz]; omega)).trans (heap_new w _)
theorem new2 (w : World) (o o2 : Obj) : ((w.alloc o).alloc o2).heap[w.heap.size + 1]? = some o2 := by
  have := heap_new (w.alloc o) o2
  rwa [heap_alloc_sz] at this
theorem below2 (w : World) (o o2 : Obj) : Below w.heap.size w ((w.alloc o).alloc o2) := ((Below.refl _ _).alloc (Nat.le_refl _) _).alloc (by rw [heap_alloc_sz]; omega) _
theorem with_range (v n : Int) (L : List UInt8) (hL : L.length = 32) (k : Int) (hk : ¬ (0 ≤ k ∧ k < n)) (w : World) :
    Calls Try.prog 10 #[.agg (bbtC v n L), .int .i64 k] w fun e w' => e = .returned (.tuple #[.agg (bbtC 0 0 zeros32), .int .i64 3]) ∧ Below w.heap.size w w' := by
  have HTH := hide (fun W => there_any v n L hL k W)
  rw [decide_eq_false hk] at HTH
  have HB := hide (below2 w (.cells (bbtC v n L) 26) (.cells (bbtC 0 0 zeros32) 26))
  have HC := hide (two_old w (o := .cells (bbtC v n L) 26) (o2 := .cells (bbtC 0 0 zeros32) 26))
  have HR := hide (new2 w (.cells (bbtC v n L) 26) (.cells (bbtC 0 0 zeros32) 26))
  have HI := hide (bbt_info v n L hL)
  generalize bbtC v n L = C at *
  clear hk
  go_enter Try.func10, Try.ntmps10
  go_wp2_with (first | ((with_reducible show wpList _ _ _ _ _ (w.alloc (.cells C 26))); refine wpList_alloc0 (w.alloc (.cells C 26)) rfl 26 rfl (.pointer (some ⟨w.heap.size + 1, 0, none⟩)) ((w.alloc (.cells C 26)).alloc (.cells (bbtC 0 0 zeros32) 26)) (alloc_T2 w _) ?_) | (refine wpList_load_row rfl 26 (.tmp 2) rfl w.heap.size rfl 26 C (0, 0) _ HC.out Try.underlying26 rfl HI.out ?_))
  refine (HTH.out _).mono ?_
  rintro e w1 ⟨rfl, hb1⟩
  have HB1 := hide (below_trans HB.out hb1)
  have HR1 := hide ((hb1.block _ (heap_lt HR.out)).trans HR.out)
  clear hb1 HB HR HC HTH
  go_wp2_with (first | ((with_reducible show wpList _ _ _ _ _ w1); refine wpList_build0 w1 rfl 26 rfl (.agg (bbtC 0 0 zeros32)) (build_T0 _) ?_) | (refine wpList_storeT rfl (.tmp 4) (.tmp 13) rfl (w.heap.size + 1) rfl 0 0 zeros32 zeros_len rfl 0 0 zeros32 zeros_len HR1.out ?_))
  exact bodyPost_ret (res_bbt Try.results10 _ _ (w.heap.size + 1) 0 0 zeros32 zeros_len _ rfl rfl (setRow_heap _ _ _ _ _ _ HR1.out)) rfl ⟨rfl, setRow_below HB1.out (by omega) _⟩
theorem copy_row (W : World) (A B : Nat) (v n v' n' : Int) (L : List UInt8) (hL : L.length = 32) (hA : W.heap[A]? = some (.cells (bbtC v n L) 26 (0, 0))) (hB : W.heap[B]? = some (.cells (bbtC v' n' zeros32) 26 (0, 0))) (ty : TypeId) :
    (Builtin.copy_ #[39, 39] ty #[.slice (some ⟨B, 2, none⟩) 32 32, .slice (some ⟨A, 2, none⟩) 32 32]).run Try.prog W = .ok (goInt 32) (W.setRow B (bbtC v' n' L)) := by
  have h := run_copy_row (P := Try.prog) W 39 39 ty 5 B 2 32 32 ⟨A, 2, none⟩ 32 32 (bbtC v' n' zeros32) 26 (L.map fun b => Value.int .u8 (b.toNat : Int)) Try.underlying39 (by kernel_rfl) hB (by simp [hL]) (fun j x hj => by
    have hjl : j < L.length := by
      have := (List.getElem?_eq_some_iff.1 hj).1
      simpa using this
    have e : (⟨A, 2, none⟩ : Addr).add j = ⟨A, 2 + j, none⟩ := Go.WideShapes.add_plain ..
    rw [e, cell_of_block hA, bbtC_at v n L j hjl, ← hj]
    simp [List.getD, hjl]) (by rw [List.length_map, hL, bbtC_size _ _ _ zeros_len]; omega) (by simp [Value.oneCell'])
  rw [bbtC_copy v' n' v' n' zeros32 L zeros_len hL, List.length_map, hL] at h
  exact h
theorem wpList_storeR {P : Program} {ops : Array Oper} {rest : List Oper} {o : Oper} {a : Act} {w : World} {Q : Exit → Act → World → Prop} (hgd : o.guard = none) (ty : TypeId) (x y : Operand) (ho : o.op = .store ty x y)
    (g : Nat) (hx : a.eval x = .pointer (some ⟨g, 0, none⟩)) (cs : Array Value) (hy : a.eval y = .agg cs) (old : Array Value) (hg : w.heap[g]? = some (.cells old ty (0, 0)))
    (hi : (P.info? ty).map (·.size) = some cs.size) (hs : old.size = cs.size) (h1 : cs.all (·.oneCell') = true)
    (h : wpList P ops Q rest (a.put o.dst undef) (w.setRow g cs)) : wpList P ops Q (o :: rest) a w :=
  wpList_plain hgd fun _ hK => by
    unfold Oper.wp execOp
    simp only [ho, hx, hy, Instr.storeAt, Instr.sureAddr, Sem.run_bind, Sem.run_pure, Result.andThen_ok, run_storeVar_row w g ty ty old cs hg hi hs h1]
    exact hK _ _ h
theorem bbt_sizes (v n v' n' : Int) (L L' : List UInt8) (h : L.length = 32) (h' : L'.length = 32) : (bbtC v n L).size = (bbtC v' n' L').size := by rw [bbtC_size _ _ _ h, bbtC_size _ _ _ h']
set_option maxRecDepth 100000 in
set_option maxHeartbeats 400000 in
theorem with_ok (v n : Int) (v0 : 0 ≤ v) (v1 : v ≤ 1000000) (L : List UInt8) (hL : L.length = 32) (k : Nat) (hk : (k : Int) < n) (hn : n ≤ 256) (w : World) :
    Calls Try.prog 10 #[.agg (bbtC v n L), .int .i64 (k : Int)] w fun e w' => e = .returned (.tuple #[.agg (bbtC (v + 1) n (withB L k)), .int .i64 0]) ∧ Below w.heap.size w w' := by
  have HTH := hide (fun W => there_any v n L hL (k : Int) W)
  rw [decide_eq_true (show 0 ≤ (k : Int) ∧ (k : Int) < n by omega)] at HTH
  have HRES := hide (fun (tmps : Array Value) (W : World) (A : Nat) (x : Value) => res_bbt (fn := Try.f10) Try.results10 tmps W A (v + 1) n (withB L k) (by rw [withB_length]; exact hL) x)
  have HIC := hide (bbt_info v n L hL)
  have HIE := hide (bbt_info (v + 1) n zeros32 zeros_len)
  have HIF := hide (bbt_info (v + 1) n (withB L k) (by rw [withB_length]; exact hL))
  have HSE := hide (bbt_sizes 0 0 (v + 1) n zeros32 zeros32 zeros_len zeros_len)
  have HSF := hide (bbt_sizes 0 0 (v + 1) n zeros32 (withB L k) zeros_len (by rw [withB_length]; exact hL))
  have HOE := hide (bbtC_one (v + 1) n zeros32)
  have HOF := hide (bbtC_one (v + 1) n (withB L k))
  have HBE := hide (fun W => build_T2 (v + 1) n W)
  have HAZ := hide (fun W => alloc_T W)
  have HAZ2 := hide (fun W o => alloc_T2 W o)
  have HCP := hide (fun (W : World) (A B : Nat) (hA : W.heap[A]? = some (.cells (bbtC v n L) 26 (0, 0))) (hB : W.heap[B]? = some (.cells (bbtC (v + 1) n zeros32) 26 (0, 0))) (ty : TypeId) => copy_row W A B v n (v + 1) n L hL hA hB ty)
  have HSET := hide (show (bbtC (v + 1) n L).setIfInBounds (2 + k / 8) (.int .u8 ((orU (L.getD (k / 8) 0) (7 - k % 8)).toNat : Int)) = bbtC (v + 1) n (withB L k) from bbtC_set (v + 1) n L (k / 8) _ (by omega))
  have HOR := hide (or_bit (L.getD (k / 8) 0) k)
  have HXB := hide (bbtC_at (v + 1) n L (k / 8) (by omega))
  have HC0 := hide (bbtC_0 v n L)
  have HC1' := hide (bbtC_1 v n L)
  have hk32 : k / 8 < 32 := by omega
  generalize (orU (L.getD (k / 8) 0) (7 - k % 8)).toNat = yv at *
  generalize (L.getD (k / 8) 0).toNat = xv at *
  generalize bbtC (v + 1) n (withB L k) = F at *
  generalize bbtC (v + 1) n L = D at *
  generalize bbtC (v + 1) n zeros32 = E at *
  generalize bbtC 0 0 zeros32 = Z at *
  generalize bbtC v n L = C at *
  have HB := hide (below2 w (.cells C 26) (.cells Z 26))
  have HC := hide (two_old w (o := .cells C 26) (o2 := .cells Z 26))
  have HR := hide (new2 w (.cells C 26) (.cells Z 26))
  go_enter Try.func10, Try.ntmps10
  go_wp2_with (first | ((with_reducible show wpList _ _ _ _ _ (w.alloc (.cells C 26))); refine wpList_alloc0 (w.alloc (.cells C 26)) rfl 26 rfl (.pointer (some ⟨w.heap.size + 1, 0, none⟩)) ((w.alloc (.cells C 26)).alloc (.cells Z 26)) (HAZ2.out w _) ?_) | (refine wpList_load_row rfl 26 (.tmp 2) rfl w.heap.size rfl 26 C (0, 0) _ HC.out Try.underlying26 rfl HIC.out ?_))
  refine (HTH.out _).mono ?_
  rintro e w1 ⟨rfl, hb1⟩
  have HB1 := hide (below_trans HB.out hb1)
  have HC1 := hide ((hb1.block _ (heap_lt HC.out)).trans HC.out)
  have HR1 := hide ((hb1.block _ (heap_lt HR.out)).trans HR.out)
  clear hb1 HB HR HC HTH
  have c0 : w1.cell? ⟨w.heap.size, 0, none⟩ = some (.int .u64 v) := (cell_of_block HC1.out 0).trans HC0.out
  have c1 : w1.cell? ⟨w.heap.size, 1, none⟩ = some (.int .i64 n) := (cell_of_block HC1.out 1).trans HC1'.out
  have cl := heap_lt HC1.out
  have rl := heap_lt HR1.out
  have HN1 := hide (heap_new w1 (.cells Z 26))
  have HC2 := hide ((setRow_other (w1.alloc (.cells Z 26)) w1.heap.size w.heap.size E (by omega)).trans ((heap_old w1 (.cells Z 26) _ cl).trans HC1.out))
  have HR2 := hide ((setRow_other (w1.alloc (.cells Z 26)) w1.heap.size (w.heap.size + 1) E (by omega)).trans ((heap_old w1 (.cells Z 26) _ rl).trans HR1.out))
  have HN2 := hide (setRow_heap (w1.alloc (.cells Z 26)) w1.heap.size Z E 26 (0, 0) HN1.out)
  have HB2 := hide (setRow_below (HB1.out.alloc HB1.out.size (.cells Z 26)) (g := w1.heap.size) HB1.out.size E)
  have hbl := HB1.out.size
  have hvm : (v == 18446744073709551615) = false := by rw [beq_eq_false_iff_ne]; omega
  go_wp2_with (first | ((with_reducible show wpList _ _ _ _ _ w1); refine wpList_build2 w1 rfl 26 (.tmp 20) (.tmp 22) 0 1 rfl (.int .u64 (v + 1)) (.int .i64 n) rfl rfl (.agg E) (HBE.out _) ?_) | ((with_reducible show wpList _ _ _ _ _ w1); refine wpList_alloc0 w1 rfl 26 rfl (.pointer (some ⟨w1.heap.size, 0, none⟩)) (w1.alloc (.cells Z 26)) (HAZ.out w1) ?_) | (refine wpList_storeR rfl 26 (.tmp 6) (.tmp 23) rfl w1.heap.size rfl E rfl Z HN1.out HIE.out HSE.out HOE.out ?_))
  have hne : ¬ w1.heap.size = w.heap.size := by omega
  have hne1 : ¬ w1.heap.size = w.heap.size + 1 := by omega
  generalize (w1.alloc (.cells Z 26)).setRow w1.heap.size E = w2 at *
  generalize w1.heap.size = B at *
  have hcp := HCP.out w2.drew w.heap.size B HC2.out HN2.out
  have cl2 := heap_lt HC2.out
  have bl2 := heap_lt HN2.out
  clear c0 c1 cl rl HN1 HC1 HR1 HB1
  go_region
  go_wp2_with fail
  have HN3 := hide (setRow_heap w2.drew B E D 26 (0, 0) HN2.out)
  have HR3 := hide ((setRow_other w2.drew B (w.heap.size + 1) D (Ne.symm hne1)).trans HR2.out)
  have HB3 := hide (setRow_below HB2.out.drew hbl D)
  generalize w2.drew.setRow B D = w3 at *
  clear hcp cl2 bl2 HC2 HR2 HN2 HB2 HCP
  refine (place_any k (by omega) _).mono ?_
  rintro e w4 ⟨rfl, nn, rfl⟩
  have d0 : (w3.drewN nn).cell? ⟨B, 2 + k / 8, none⟩ = some (.int .u8 (xv : Int)) := (cell_of_block HN3.out _).trans HXB.out
  have dz : (w3.drewN nn).frozen? ⟨B, 2 + k / 8, none⟩ = false := frozen_of_block (show (w3.drewN nn).heap[B]? = _ from HN3.out) _
  have dl : B < w3.heap.size := heap_lt HN3.out
  have hor := HOR.out
  have HN4 := hide (show ((w3.drewN nn).setCell ⟨B, 2 + k / 8, none⟩ (.int .u8 (yv : Int))).heap[B]? = some (.cells F 26 (0, 0)) from HSET.out ▸ block_setCell (show (w3.drewN nn).heap[B]? = _ from HN3.out) _ _)
  have HR4 := hide (show ((w3.drewN nn).setCell ⟨B, 2 + k / 8, none⟩ (.int .u8 (yv : Int))).heap[w.heap.size + 1]? = some (.cells Z 26 (0, 0)) from (block_setCell_other hne1 _ _).trans HR3.out)
  have HB4 := hide ((HB3.out.drewN' nn).setCell hbl (p := ⟨B, 2 + k / 8, none⟩) (.int .u8 (yv : Int)))
  have HS := hide (show Z.size = F.size from HSF.out)
  clear HN3 HR3 HB3 HSET HOR HXB
  go_wp2_with (first | ((with_reducible show wpList _ _ _ _ _ (World.setCell _ _ _)); refine wpList_load_row rfl 26 (.tmp 6) rfl B rfl 26 F (0, 0) _ HN4.out Try.underlying26 rfl HIF.out ?_) | ((with_reducible show wpList _ _ _ _ _ (World.setCell _ _ _)); refine wpList_storeR rfl 26 (.tmp 4) (.tmp 42) rfl (w.heap.size + 1) rfl F rfl Z HR4.out HIF.out HS.out HOF.out ?_))
  exact bodyPost_ret (HRES.out _ _ (w.heap.size + 1) _ rfl rfl (setRow_heap _ _ _ _ _ _ HR4.out)) rfl ⟨rfl, setRow_below HB4.out (by omega) _⟩
end Go.Proofs.Ytfphkldpjfackaa
