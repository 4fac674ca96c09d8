/-
  Layer 28: the program's reply of the law's (reply).
-/
import Derived.Test.YtkbikflincjhhaaReqP
import Derived.Test.YtkbikflincjhhaaKitU

namespace Go.Proofs.Ytkbikflincjhhaa
set_option linter.unusedSimpArgs false
set_option linter.unusedVariables false
open Go.RowKit Go.WideShapes Go.ChangeShapes Go.ChangeAt Go.Deep
section
variable {P : Program} {w : World} {ops : Array Oper} {rest : List Oper} {o : Oper} {a : Act} {Q : Exit → Act → World → Prop}
theorem wpList_build5 (hg : o.guard = none) (t : TypeId) (x0 x1 x2 x3 x4 : Operand) (i0 i1 i2 i3 i4 : Nat) (hop : o.op = Op.build t #[(i0, x0), (i1, x1), (i2, x2), (i3, x3), (i4, x4)]) (u0 u1 u2 u3 u4 : Value) (h0 : a.eval x0 = u0) (h1 : a.eval x1 = u1) (h2 : a.eval x2 = u2) (h3 : a.eval x3 = u3) (h4 : a.eval x4 = u4)
    (v : Value) (hv : (Instr.build t #[(i0, u0), (i1, u1), (i2, u2), (i3, u3), (i4, u4)]).run P w = .ok v w) (hK : wpList P ops Q rest (a.put o.dst v) w) : wpList P ops Q (o :: rest) a w := by
  refine wpList_plain hg fun K' hK' => ?_
  unfold Oper.wp
  simp [execOp, hop, h0, h1, h2, h3, h4, hv, Result.andThen]
  exact hK' _ _ hK
end
theorem ry_build (er nu s0 s1 s2 s3 s4 s5 : Int) (v : Bool) (w : World) : (Instr.build 71 #[(0, .int .i64 er), (1, .int .i64 nu), (2, .agg #[.int .i64 s5, .int .i64 s0, .int .i64 s1, .int .i64 s2, .int .i64 s3, .int .i64 s4]), (4, .agg #[.int .i64 s0, .int .i64 s1]), (5, .bool v)]).run Try.prog w = .ok (.agg (rpC ⟨er, nu, s5, s0, s1, s2, s3, s4, 0, 0, 0, 0, 0, 0, false, [], s0, s1, v⟩ (.slice none 0 0))) w := by kernel_rfl
theorem ry_alloc (w : World) : (Instr.alloc 71 true (.tuple #[])).run Try.prog w = .ok (.pointer (some ⟨w.heap.size, 0, none⟩)) (w.alloc (.cells (rpC rp0 (.slice none 0 0)) 71)) := rp_alloc w
theorem tk_range (x : Int) : 0 ≤ IntKind.u8.wrap x ∧ IntKind.u8.wrap x ≤ 255 := by
  have h := wf_wrap .u8 x
  exact wf_u8 h
/-- the frame of reply -/
structure RyF (w W : World) (sb ra rr : Nat) (C D : Array Value) : Prop where
  src : W.heap[sb]? = some (.cells D 63 (0, 0))
  res : W.heap[ra]? = some (.cells (rpC rp0 (.slice none 0 0)) 71 (0, 0))
  box : W.heap[rr]? = some (.cells C 71 (0, 0))
  below : Below w.heap.size w W
  new : ra ≠ rr ∧ w.heap.size ≤ ra ∧ w.heap.size ≤ rr
theorem RyF.low {w W W' : World} {sb ra rr : Nat} {C D : Array Value} (h : RyF w W sb ra rr C D) (hb : Below W.heap.size W W') : RyF w W' sb ra rr C D :=
  ⟨(hb.block _ (heap_lt h.src)).trans h.src, (hb.block _ (heap_lt h.res)).trans h.res, (hb.block _ (heap_lt h.box)).trans h.box, h.below.trans (hb.mono h.below.size), h.new⟩
theorem RyF.store {w W : World} {sb ra rr : Nat} {C D : Array Value} (h : RyF w W sb ra rr C D) (j : Nat) (v : Value) : RyF w (W.setCell ⟨rr, j, none⟩ v) sb ra rr (C.setIfInBounds j v) D := by
  obtain ⟨n1, n2, n3⟩ := h.new
  exact ⟨(block_setCell_other (blocks_apart h.box h.src (by decide)) j v).trans h.src, (block_setCell_other (Ne.symm n1) j v).trans h.res, block_setCell h.box j v, h.below.setCell n3 v, h.new⟩
theorem RyF.row {w W : World} {sb ra rr : Nat} {C D : Array Value} (h : RyF w W sb ra rr C D) (cs : Array Value) : RyF w (W.setRow rr cs) sb ra rr cs D := by
  obtain ⟨n1, n2, n3⟩ := h.new
  exact ⟨(setRow_apart (blocks_apart h.box h.src (by decide))).trans h.src, (setRow_apart (Ne.symm n1)).trans h.res, setRow_self _ _ _ _ _ _ h.box, setRow_low h.below n3 _, h.new⟩
theorem RyF.grown {w W W' : World} {sb ra rr : Nat} {C D : Array Value} {B m n : Nat} {v : Value} {xs : List Value} (h : RyF w W sb ra rr C D) (ho : W.ownsRow B 81 m v n xs) (hB : w.heap.size ≤ B) (hg : W.grownBy W' v.ownBlock) : RyF w W' sb ra rr C D :=
  ⟨grown_keep ho hg h.src (by decide), grown_keep ho hg h.res (by decide), grown_keep ho hg h.box (by decide), h.below.grown hg h.below.size (fun jj hj => Nat.le_trans hB (ho.lt jj hj).1), h.new⟩
theorem RyF.drew {w W : World} {sb ra rr : Nat} {C D : Array Value} (h : RyF w W sb ra rr C D) : RyF w W.drew sb ra rr C D := ⟨h.src, h.res, h.box, h.below.drew, h.new⟩
set_option maxRecDepth 100000 in
set_option maxHeartbeats 1000000 in
theorem reply_any (y : InP) (hy : InPOk y) (L : List LnM) (a : Option Addr) (cap n : Nat) (hn : min L.length 10 = n) (hcap : L.length ≤ cap) (w : World) (hin : LnIn w a L) :
    Calls Try.prog 14 #[.agg (inP y (.slice a L.length cap))] w (RepIs y L n w) := by
  obtain ⟨i0, hi, hz0, hz1, hz2⟩ := info_parts (show (Try.prog.info? 81).map (fun i => (i.zero, i.size, i.bytes)) = some (some (.agg #[.int .i64 0, .int .i64 0]), 2, 16) by kernel_rfl)
  have HI := hide hi
  have HZ0 := hide hz0
  have HZ1 := hide hz1
  have HZ2 := hide hz2
  have HIN := hide hin
  have hmF : (if (10 : Int) < (L.length : Int) then (10 : Int) else (L.length : Int)) = (n : Int) := by split <;> omega
  have hmI : min (L.length : Int) 10 = (n : Int) := by omega
  have hn20 : n ≤ 10 := by omega
  have hnl : n ≤ L.length := by omega
  have hcI : (n : Int) ≤ (cap : Int) := by omega
  clear hi hz0 hz1 hz2 hin hn hcap hy
  obtain ⟨er, nu, s0, s1, s2, s3, s4, s5, t0, t1, t2, t3, v⟩ := y
  unfold inP RepIs repM
  dsimp only
  have hal := (Below.refl w.heap.size w).alloc (Nat.le_refl _) (.cells #[.int .i64 er, .int .i64 nu, .int .i64 s0, .int .i64 s1, .int .i64 s2, .int .i64 s3, .int .i64 s4, .int .i64 s5, .int .i64 t0, .int .i64 t1, .int .i64 t2, .int .i64 t3, .bool v, .slice a L.length cap] 63)
  have XS := hide (heap_new w (.cells #[.int .i64 er, .int .i64 nu, .int .i64 s0, .int .i64 s1, .int .i64 s2, .int .i64 s3, .int .i64 s4, .int .i64 s5, .int .i64 t0, .int .i64 t1, .int .i64 t2, .int .i64 t3, .bool v, .slice a L.length cap] 63))
  have hal2 := (Below.refl _ (w.alloc (.cells #[.int .i64 er, .int .i64 nu, .int .i64 s0, .int .i64 s1, .int .i64 s2, .int .i64 s3, .int .i64 s4, .int .i64 s5, .int .i64 t0, .int .i64 t1, .int .i64 t2, .int .i64 t3, .bool v, .slice a L.length cap] 63))).alloc (Nat.le_refl _) (.cells #[.int .i64 0, .int .i64 0, .int .i64 0, .int .i64 0, .int .i64 0, .int .i64 0, .int .i64 0, .int .i64 0, .int .i64 0, .int .u8 0, .int .i64 0, .int .i64 0, .int .i64 0, .int .i64 0, .bool false, .slice none 0 0, .int .i64 0, .int .i64 0, .bool false] 71)
  have XA := hide (heap_new (w.alloc (.cells #[.int .i64 er, .int .i64 nu, .int .i64 s0, .int .i64 s1, .int .i64 s2, .int .i64 s3, .int .i64 s4, .int .i64 s5, .int .i64 t0, .int .i64 t1, .int .i64 t2, .int .i64 t3, .bool v, .slice a L.length cap] 63)) (.cells #[.int .i64 0, .int .i64 0, .int .i64 0, .int .i64 0, .int .i64 0, .int .i64 0, .int .i64 0, .int .i64 0, .int .i64 0, .int .u8 0, .int .i64 0, .int .i64 0, .int .i64 0, .int .i64 0, .bool false, .slice none 0 0, .int .i64 0, .int .i64 0, .bool false] 71))
  have XS2 := hide ((hal2.block _ (heap_lt XS.out)).trans XS.out)
  have B2 := hide (hal.trans (hal2.mono hal.size))
  have hs1 : (w.alloc (.cells #[.int .i64 er, .int .i64 nu, .int .i64 s0, .int .i64 s1, .int .i64 s2, .int .i64 s3, .int .i64 s4, .int .i64 s5, .int .i64 t0, .int .i64 t1, .int .i64 t2, .int .i64 t3, .bool v, .slice a L.length cap] 63)).heap.size = w.heap.size + 1 := by simp
  rw [hs1] at XA
  clear hal hal2 hs1 XS
  go_enter Try.func14, Try.ntmps14
  go_upto_region 1 with (fail)
  generalize (w.alloc (.cells #[.int .i64 er, .int .i64 nu, .int .i64 s0, .int .i64 s1, .int .i64 s2, .int .i64 s3, .int .i64 s4, .int .i64 s5, .int .i64 t0, .int .i64 t1, .int .i64 t2, .int .i64 t3, .bool v, .slice a L.length cap] 63)).alloc (.cells #[.int .i64 0, .int .i64 0, .int .i64 0, .int .i64 0, .int .i64 0, .int .i64 0, .int .i64 0, .int .i64 0, .int .i64 0, .int .u8 0, .int .i64 0, .int .i64 0, .int .i64 0, .int .i64 0, .bool false, .slice none 0 0, .int .i64 0, .int .i64 0, .bool false] 71) = w2 at *
  generalize hsb : w.heap.size = sb at XS2 XA ⊢
  have HSB := hide hsb
  clear hsb
  generalize hra : sb + 1 = ra at XA ⊢
  have HRA := hide hra
  clear hra
  have e2 : w2.cell? ⟨sb, 2, none⟩ = some (.int .i64 s0) := cell_of_block XS2.out 2
  have e3 : w2.cell? ⟨sb, 3, none⟩ = some (.int .i64 s1) := cell_of_block XS2.out 3
  have e4 : w2.cell? ⟨sb, 4, none⟩ = some (.int .i64 s2) := cell_of_block XS2.out 4
  have e5 : w2.cell? ⟨sb, 5, none⟩ = some (.int .i64 s3) := cell_of_block XS2.out 5
  have e6 : w2.cell? ⟨sb, 6, none⟩ = some (.int .i64 s4) := cell_of_block XS2.out 6
  have e7 : w2.cell? ⟨sb, 7, none⟩ = some (.int .i64 s5) := cell_of_block XS2.out 7
  go_upto_region 2 with (fail)
  have hal := (Below.refl w2.heap.size w2).alloc (Nat.le_refl _) (.cells #[.int .i64 s5, .int .i64 s0, .int .i64 s1, .int .i64 s2, .int .i64 s3, .int .i64 s4] 65)
  have XT := hide (heap_new w2 (.cells #[.int .i64 s5, .int .i64 s0, .int .i64 s1, .int .i64 s2, .int .i64 s3, .int .i64 s4] 65))
  have XS3 := hide ((hal.block _ (heap_lt XS2.out)).trans XS2.out)
  have XA3 := hide ((hal.block _ (heap_lt XA.out)).trans XA.out)
  have B3 := hide (B2.out.trans (hal.mono B2.out.size))
  clear hal e2 e3 e4 e5 e6 e7 XS2 XA B2
  generalize w2.alloc (.cells #[.int .i64 s5, .int .i64 s0, .int .i64 s1, .int .i64 s2, .int .i64 s3, .int .i64 s4] 65) = w3 at *
  generalize w2.heap.size = tb at *
  have e0 : w3.cell? ⟨sb, 0, none⟩ = some (.int .i64 er) := cell_of_block XS3.out 0
  have e1 : w3.cell? ⟨sb, 1, none⟩ = some (.int .i64 nu) := cell_of_block XS3.out 1
  have e2 : w3.cell? ⟨sb, 2, none⟩ = some (.int .i64 s0) := cell_of_block XS3.out 2
  have e3 : w3.cell? ⟨sb, 3, none⟩ = some (.int .i64 s1) := cell_of_block XS3.out 3
  have e12 : w3.cell? ⟨sb, 12, none⟩ = some (.bool v) := cell_of_block XS3.out 12
  have HNW := hide (heap_new w3 (.cells (rpC rp0 (.slice none 0 0)) 71))
  go_upto_region 3 with (first | ((with_reducible show wpList _ _ _ _ _ w3); refine wpList_rowLoad rfl 65 (.tmp 3) rfl tb rfl 65 #[.int .i64 s5, .int .i64 s0, .int .i64 s1, .int .i64 s2, .int .i64 s3, .int .i64 s4] (0, 0) _ XT.out Try.underlying65 rfl (by kernel_rfl) ?_) | ((with_reducible show wpList _ _ _ _ _ w3); refine wpList_build5 rfl 71 (.tmp 27) (.tmp 29) (.tmp 30) (.tmp 37) (.tmp 39) 0 1 2 4 5 rfl (.int .i64 er) (.int .i64 nu) (.agg #[.int .i64 s5, .int .i64 s0, .int .i64 s1, .int .i64 s2, .int .i64 s3, .int .i64 s4]) (.agg #[.int .i64 s0, .int .i64 s1]) (.bool v) rfl rfl rfl rfl rfl (.agg (rpC ⟨er, nu, s5, s0, s1, s2, s3, s4, 0, 0, 0, 0, 0, 0, false, [], s0, s1, v⟩ (.slice none 0 0))) (ry_build _ _ _ _ _ _ _ _ _ _) ?_) | ((with_reducible show wpList _ _ _ _ _ w3); refine wpList_theAlloc rfl 71 rfl (.pointer (some ⟨w3.heap.size, 0, none⟩)) (w3.alloc (.cells (rpC rp0 (.slice none 0 0)) 71)) (rp_alloc _) ?_) | ((with_reducible show wpList _ _ _ _ _ (World.alloc _ _)); refine wpList_rowStore rfl 71 (.tmp 4) (.tmp 40) rfl w3.heap.size rfl (rpC ⟨er, nu, s5, s0, s1, s2, s3, s4, 0, 0, 0, 0, 0, 0, false, [], s0, s1, v⟩ (.slice none 0 0)) rfl (rpC rp0 (.slice none 0 0)) HNW.out (rpC_info _ _) rfl (rpC_one _ _ _ _) ?_))
  rw [World.setRow_alloc_new]
  have hal := (Below.refl w3.heap.size w3).alloc (Nat.le_refl _) (.cells (rpC ⟨er, nu, s5, s0, s1, s2, s3, s4, 0, 0, 0, 0, 0, 0, false, [], s0, s1, v⟩ (.slice none 0 0)) 71)
  have hlt := heap_lt XA3.out
  have hsz := B3.out.size
  have FY := hide (show RyF w (w3.alloc (.cells (rpC ⟨er, nu, s5, s0, s1, s2, s3, s4, 0, 0, 0, 0, 0, 0, false, [], s0, s1, v⟩ (.slice none 0 0)) 71)) sb ra w3.heap.size (rpC ⟨er, nu, s5, s0, s1, s2, s3, s4, 0, 0, 0, 0, 0, 0, false, [], s0, s1, v⟩ (.slice none 0 0)) #[.int .i64 er, .int .i64 nu, .int .i64 s0, .int .i64 s1, .int .i64 s2, .int .i64 s3, .int .i64 s4, .int .i64 s5, .int .i64 t0, .int .i64 t1, .int .i64 t2, .int .i64 t3, .bool v, .slice a L.length cap] from
    ⟨(hal.block _ (heap_lt XS3.out)).trans XS3.out, (hal.block _ (heap_lt XA3.out)).trans XA3.out, heap_new _ _, B3.out.trans (hal.mono hsz), by omega, by have := HSB.out; have := HRA.out; omega, hsz⟩)
  clear hal hlt hsz e0 e1 e2 e3 e12 HNW XT XS3 XA3 B3
  generalize w3.alloc (.cells (rpC ⟨er, nu, s5, s0, s1, s2, s3, s4, 0, 0, 0, 0, 0, 0, false, [], s0, s1, v⟩ (.slice none 0 0)) 71) = w4 at *
  generalize w3.heap.size = rr at *
  have e4 : w4.cell? ⟨sb, 4, none⟩ = some (.int .i64 s2) := cell_of_block FY.out.src 4
  have e5 : w4.cell? ⟨sb, 5, none⟩ = some (.int .i64 s3) := cell_of_block FY.out.src 5
  have e8 : w4.cell? ⟨sb, 8, none⟩ = some (.int .i64 t0) := cell_of_block FY.out.src 8
  have e9 : w4.cell? ⟨sb, 9, none⟩ = some (.int .i64 t1) := cell_of_block FY.out.src 9
  have e10 : w4.cell? ⟨sb, 10, none⟩ = some (.int .i64 t2) := cell_of_block FY.out.src 10
  have e11 : w4.cell? ⟨sb, 11, none⟩ = some (.int .i64 t3) := cell_of_block FY.out.src 11
  have e12 : w4.cell? ⟨sb, 12, none⟩ = some (.bool v) := cell_of_block FY.out.src 12
  obtain ⟨tk, htk⟩ : ∃ z, z = IntKind.u8.wrap (bits BinOp.and .i64 t1 255) := ⟨_, rfl⟩
  have htk0 := htk ▸ tk_range _
  have htk2 := htk.symm
  have HTK := hide htk
  clear htk
  have hqx1 : (#[.int .i64 t0, .int .u8 tk, .int .i64 t2, .int .i64 t3, .int .i64 s2, .int .i64 s3, .bool v, .slice none 0 0] : Array Value).all (·.oneCell') = true := by simp [Value.oneCell']
  have hqxi : (Try.prog.info? 68).map (·.size) = some (#[.int .i64 t0, .int .u8 tk, .int .i64 t2, .int .i64 t3, .int .i64 s2, .int .i64 s3, .bool v, .slice none 0 0] : Array Value).size := by
    show _ = some 8
    kernel_rfl
  have hqxn : (((rpC ⟨er, nu, s5, s0, s1, s2, s3, s4, 0, 0, 0, 0, 0, 0, false, [], s0, s1, v⟩ (.slice none 0 0))).toList.take 8 ++ (#[.int .i64 t0, .int .u8 tk, .int .i64 t2, .int .i64 t3, .int .i64 s2, .int .i64 s3, .bool v, .slice none 0 0] : Array Value).toList ++ ((rpC ⟨er, nu, s5, s0, s1, s2, s3, s4, 0, 0, 0, 0, 0, 0, false, [], s0, s1, v⟩ (.slice none 0 0))).toList.drop (8 + (#[.int .i64 t0, .int .u8 tk, .int .i64 t2, .int .i64 t3, .int .i64 s2, .int .i64 s3, .bool v, .slice none 0 0] : Array Value).size)).toArray = (rpC ⟨er, nu, s5, s0, s1, s2, s3, s4, t0, tk, t2, t3, s2, s3, v, [], s0, s1, v⟩ (.slice none 0 0)) := rfl
  have hqxf : 8 + (#[.int .i64 t0, .int .u8 tk, .int .i64 t2, .int .i64 t3, .int .i64 s2, .int .i64 s3, .bool v, .slice none 0 0] : Array Value).size ≤ ((rpC ⟨er, nu, s5, s0, s1, s2, s3, s4, 0, 0, 0, 0, 0, 0, false, [], s0, s1, v⟩ (.slice none 0 0))).size := by show 8 + 8 ≤ 19; decide
  have HQX := hide (And.intro hqx1 (And.intro hqxi (And.intro hqxn hqxf)))
  clear hqx1 hqxi hqxn hqxf
  go_upto_region 4 with (first | (refine wpList_storeIn rfl 68 (.tmp 64) (.tmp 63) rfl rr 8 rfl #[.int .i64 t0, .int .u8 tk, .int .i64 t2, .int .i64 t3, .int .i64 s2, .int .i64 s3, .bool v, .slice none 0 0] rfl 71 (rpC ⟨er, nu, s5, s0, s1, s2, s3, s4, 0, 0, 0, 0, 0, 0, false, [], s0, s1, v⟩ (.slice none 0 0)) (rpC ⟨er, nu, s5, s0, s1, s2, s3, s4, t0, tk, t2, t3, s2, s3, v, [], s0, s1, v⟩ (.slice none 0 0)) FY.out.box HQX.out.2.1 HQX.out.2.2.2 HQX.out.1 HQX.out.2.2.1 ?_))
  have FZ := hide (FY.out.row (rpC ⟨er, nu, s5, s0, s1, s2, s3, s4, t0, tk, t2, t3, s2, s3, v, [], s0, s1, v⟩ (.slice none 0 0)))
  clear e4 e5 e8 e9 e10 e11 e12 HQX FY
  generalize w4.setRow rr (rpC ⟨er, nu, s5, s0, s1, s2, s3, s4, t0, tk, t2, t3, s2, s3, v, [], s0, s1, v⟩ (.slice none 0 0)) = w5 at *
  have e13 : w5.cell? ⟨sb, 13, none⟩ = some (.slice a L.length cap) := cell_of_block FZ.out.src 13
  go_wp2_with fail
  clear e13
  go_loopw [73] (fun i W => ∃ (m : Nat) (a4 : Option Addr) (c4 : Nat), m ≤ n ∧ i = .int .i64 m ∧ RyF w W sb ra rr (rpC ⟨er, nu, s5, s0, s1, s2, s3, s4, t0, tk, t2, t3, s2, s3, v, [], s0, s1, v⟩ (.slice a4 m c4)) #[.int .i64 er, .int .i64 nu, .int .i64 s0, .int .i64 s1, .int .i64 s2, .int .i64 s3, .int .i64 s4, .int .i64 s5, .int .i64 t0, .int .i64 t1, .int .i64 t2, .int .i64 t3, .bool v, .slice a L.length cap] ∧ W.ownsRow w.heap.size 81 2 (.slice a4 m c4) m ((L.take m).flatMap lnC)) (fun i _ => n - (intOf i).toNat)
  case atStart => exact ⟨0, none, 0, by omega, rfl, FZ.out, World.ownsRow_nil _ _ _ _⟩
  case round =>
    obtain ⟨m, a4, c4, hm, rfl, hf, ho⟩ := hrel
    have FK := hide hf
    have OA := hide ho
    clear hf ho FZ
    by_cases hlt : m < n
    · obtain ⟨b, off, rfl, hbl, c0, c1⟩ := (HIN.out.below FK.out.below) m (by omega)
      have HTN := hide (ln_next L m (by omega))
      generalize L.getD m ln0 = x at *
      obtain ⟨xc, xn⟩ := x
      dsimp only at *
      go_upto_region 7 with (fail)
      obtain ⟨ob, hob⟩ : ∃ ob, ob = (Obj.cells #[.int .i64 xc, .int .i64 xn] 79) := ⟨_, rfl⟩
      rw [← hob]
      have hal := (Below.refl wr.heap.size wr).alloc (Nat.le_refl _) ob
      have X1 := hide (show (wr.alloc ob).heap[wr.heap.size]? = some (.cells #[.int .i64 xc, .int .i64 xn] 79 (0, 0)) by rw [heap_new, hob])
      have OA1 := hide (owns_below OA.out hal)
      have F1 := hide (FK.out.low hal)
      clear hal OA FK hbl c0 c1
      generalize wr.alloc ob = w1 at *
      generalize wr.heap.size = q at *
      clear hob ob
      have d0 := cell_of_block X1.out 0
      have d1 := cell_of_block X1.out 1
      have e15 : w1.cell? ⟨rr, 15, none⟩ = some (.slice a4 m c4) := cell_of_block F1.out.box 15
      have hal := (Below.refl w1.heap.size w1).alloc (Nat.le_refl _) (.cells #[.int .i64 xc, .int .i64 xn] 81)
      have XN := hide (heap_new w1 (.cells #[.int .i64 xc, .int .i64 xn] 81))
      have OA2 := hide (owns_below OA1.out hal)
      have F2 := hide (F1.out.low hal)
      have hw2 : w.heap.size ≤ (w1.alloc (.cells #[.int .i64 xc, .int .i64 xn] 81)).heap.size := F2.out.below.size
      clear hal OA1 F1
      go_wp2_with (at_builtin; refine wpList_append_own2 _ rfl _ _ 35 rfl w.heap.size 81 i0 (.agg #[.int .i64 0, .int .i64 0]) 2 16 Try.underlying35 HI.out HZ0.out HZ1.out HZ2.out rfl (by decide) (.slice a4 m c4) m ((L.take m).flatMap lnC) rfl OA2.out ⟨w1.heap.size, 0, none⟩ 1 1 (by decide) (lnC ⟨xc, xn⟩) rfl rfl (cells_new XN.out) (lnC_one _) (by unfold maxLen; omega) (by omega) hw2 ?_; intro g3 c3' w3 ho hgr hnil; have OA3 := hide ho; have F3 := hide (F2.out.grown OA2.out (Nat.le_refl _) hgr); clear ho hgr hnil; have e15' : w3.cell? ⟨rr, 15, none⟩ = some (.slice a4 m c4) := cell_of_block F3.out.box 15; have f15' : w3.frozen? ⟨rr, 15, none⟩ = false := frozen_of_block F3.out.box 15)
      have F4 := hide (show RyF w (w3.setCell ⟨rr, 15, none⟩ (.slice (some ⟨g3, 0, none⟩) (m + 1) c3')) sb ra rr (rpC ⟨er, nu, s5, s0, s1, s2, s3, s4, t0, tk, t2, t3, s2, s3, v, [], s0, s1, v⟩ (.slice (some ⟨g3, 0, none⟩) (m + 1) c3')) _ from F3.out.store 15 (.slice (some ⟨g3, 0, none⟩) (m + 1) c3'))
      have OA4 := hide (owns_putCell OA3.out F3.out.box (by decide) 15 (.slice (some ⟨g3, 0, none⟩) (m + 1) c3'))
      go_roundw
      case rel => exact ⟨m + 1, _, _, by omega, by go_num, F4.out, by rw [HTN.out, List.flatMap_append]; simpa using OA4.out⟩
      case measure => simp [intOf]; omega
    · obtain rfl : n = m := by omega
      have HB := FK.out.box
      have HR := FK.out.res
      have hone : (rpC ⟨er, nu, s5, s0, s1, s2, s3, s4, t0, tk, t2, t3, s2, s3, v, [], s0, s1, v⟩ (.slice a4 n c4)).all (·.oneCell') = true := rpC_one _ _ _ _
      go_wp2_with (first | (refine wpList_rowLoad rfl 71 (.tmp 4) rfl rr rfl 71 (rpC ⟨er, nu, s5, s0, s1, s2, s3, s4, t0, tk, t2, t3, s2, s3, v, [], s0, s1, v⟩ (.slice a4 n c4)) (0, 0) _ HB Try.underlying71 rfl (rpC_info _ _) ?_) | (refine wpList_rowStore rfl 71 (.tmp 2) (.tmp 90) rfl ra rfl (rpC ⟨er, nu, s5, s0, s1, s2, s3, s4, t0, tk, t2, t3, s2, s3, v, [], s0, s1, v⟩ (.slice a4 n c4)) rfl (rpC rp0 (.slice none 0 0)) HR (rpC_info _ _) rfl (rpC_one _ _ _ _) ?_))
      refine bodyPost_ret (results_cell_row (P := Try.prog) rfl _ _ ra 71 (rpC ⟨er, nu, s5, s0, s1, s2, s3, s4, t0, tk, t2, t3, s2, s3, v, [], s0, s1, v⟩ (.slice a4 n c4)) (0, 0) _ rfl (setRow_self _ _ _ _ _ _ HR) Try.underlying71 rfl (rpC_info _ _)) rfl ?_
      have hl : (L.take n).length = n := by rw [List.length_take]; omega
      have OA3 := owns_putRow OA.out HR (by decide) (rpC ⟨er, nu, s5, s0, s1, s2, s3, s4, t0, tk, t2, t3, s2, s3, v, [], s0, s1, v⟩ (.slice a4 n c4))
      refine ⟨a4, c4, ?_, LnIn.of_owns (c := c4) (by rw [hl]; exact OA3), setRow_low FK.out.below FK.out.new.2.1 _⟩
      rw [← HTK.out]
      rfl
end Go.Proofs.Ytkbikflincjhhaa
