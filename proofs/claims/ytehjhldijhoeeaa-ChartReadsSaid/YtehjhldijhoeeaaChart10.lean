/-
  Layer 21: Write to a nil writer; the document's Text.
-/
import Derived.Test.YtehjhldijhoeeaaChart9

namespace Go.Proofs.Ytehjhldijhoeeaa
set_option linter.unusedSimpArgs false
set_option linter.unusedVariables false
open Go.RowKit Go.WideShapes Go.ChangeShapes Go.ChangeAt Go.Deep
set_option maxRecDepth 100000 in
set_option maxHeartbeats 1000000 in
theorem chwrite_nil (p bm : Nat) (M : List AcM) (hr : RightA M) (w : World) (hC : ChartIs w p bm M) :
    Calls Try.prog 15 #[.pointer (some ⟨p, 0, none⟩), .pointer none] w fun e w' => e = .returned (.tuple #[]) ∧ Below w.heap.size w w' := by
  have hM64 := hC.few
  have C0 := hide hC
  have HR := hide hr
  have e0 := cell_of_block hC.head 0
  obtain ⟨f, hM, hF⟩ := hC.map
  have HM := hide hM
  clear hC hr hM hF
  have hu : IntKind.u64.wrap (M.length : Int) = (M.length : Int) := by rw [IntKind.wrap_u64]; omega
  have HN0 := hide (fun W => wnumber_nil (M.length : Int) (by omega) (by omega) 1 W)
  go_enter Try.func15, Try.ntmps15
  go_wp2_with (at_len; refine wpList_mapLen w rfl _ 67 rfl 3 31 Try.underlying67 bm M.length M.length f rfl HM.out ?_)
  refine (HN0.out _).mono ?_
  rintro e w1 ⟨rfl, hb⟩
  have C1 := hide (C0.out.below hb)
  have B1 := hide hb
  clear hb C0 e0 HM HN0 hu
  go_wp2_with fail
  refine (chlist_any p bm M _ C1.out).mono ?_
  rintro e w2 ⟨la, lc, rfl, ho, hb⟩
  have A2 := hide (AcsIn.of_owns ho)
  have B2 := hide (B1.out.trans (hb.mono B1.out.size))
  clear ho hb C1 B1
  go_wp2_with fail
  go_loopw [19] (fun i W => ∃ m : Nat, m ≤ M.length ∧ i = .int .i64 m ∧ AcsIn W la M ∧ Below w.heap.size w W) (fun i _ => M.length - (Go.RowKit.intOf i).toNat)
  case atStart => exact ⟨0, by omega, rfl, A2.out, B2.out⟩
  case round =>
    obtain ⟨m, hm, rfl, ha, hb⟩ := hrel
    have AM := hide ha
    have BM := hide hb
    clear ha hb A2 B2
    by_cases hlt : m < M.length
    · have HLT := hide hlt
      obtain ⟨bl, rfl, hbl, p0, p1, p2⟩ := AM.out m hlt
      have hrx := right_parts (HR.out (M.getD m ac0) (by simp [List.getD, hlt]))
      generalize M.getD m ac0 = x at *
      obtain ⟨c, k, s⟩ := x
      dsimp only at *
      obtain ⟨⟨c1, c2⟩, ⟨k1, k2⟩, n1, n2⟩ := hrx
      have hu1 : IntKind.u64.wrap c = c := by rw [IntKind.wrap_u64]; omega
      have hu2 : IntKind.u64.wrap k = k := by rw [IntKind.wrap_u64]; omega
      have HN1 := hide (fun W => wnumber_nil c (by omega) (by omega) 2 W)
      have HN2 := hide (fun W => wnumber_nil k (by omega) (by omega) 1 W)
      have HN3 := hide (fun W => wtext_nil s (by omega) W)
      clear c1 c2 k1 k2 n1 n2 hbl
      have hal := (Below.refl wr.heap.size wr).alloc (Nat.le_refl _) (.cells #[.int .i64 c, .int .u8 k, .string s] 31)
      have X5 := hide (heap_new wr (.cells #[.int .i64 c, .int .u8 k, .string s] 31))
      have A5 := hide (AM.out.keep hal)
      have B5 := hide (BM.out.trans (hal.mono BM.out.size))
      clear hal AM BM
      go_upto_region 5 with (fail)
      generalize wr.alloc (.cells #[.int .i64 c, .int .u8 k, .string s] 31) = w5 at *
      generalize wr.heap.size = q5 at *
      clear p0 p1 p2
      refine wp_region_held_drew (S := (fun W => W.heap[q5]? = some (.cells #[.int .i64 c, .int .u8 k, .string s] 31 (0, 0)) ∧ AcsIn W (some ⟨bl, 0, none⟩) M ∧ Below w.heap.size w W)) (by kernel_rfl) (⟨X5.out, A5.out.keep ((Below.refl _ _).drew), B5.out.drew⟩) (fun hHeld => ?_)
      refine wpAnyH_take (i := 0) (oi := { dst := some 23, op := Op.move (Operand.tmp 1), type := 44, pos := "chart.go:115", after := #[], guard := none }) (v := ?_) rfl (by kernel_rfl) (by kernel_rfl) (by kernel_rfl) (fun _ _ _ h => h) (Or.inl ⟨by kernel_rfl, ?_⟩) hHeld ?_
      rotate_left
      · (intro w hSw; (try dsimp only at hSw); have e0 := cell_of_block hSw.1 0; have e1 := cell_of_block hSw.1 1; have e2 := cell_of_block hSw.1 2; go_simp); try with_reducible rfl
      try simp only [Act.put, List.setIfInBounds_toArray, List.set_cons_zero, List.set_cons_succ]
      refine wpAnyH_take (i := 1) (oi := { dst := some 24, op := Op.fieldAddr 31 (Operand.tmp 5) 0, type := 0, pos := "chart.go:115", after := #[], guard := none }) (v := ?_) rfl (by kernel_rfl) (by kernel_rfl) (by kernel_rfl) (fun _ _ _ h => h) (Or.inl ⟨by kernel_rfl, ?_⟩) hHeld ?_
      rotate_left
      · (intro w hSw; (try dsimp only at hSw); have e0 := cell_of_block hSw.1 0; have e1 := cell_of_block hSw.1 1; have e2 := cell_of_block hSw.1 2; go_simp); try with_reducible rfl
      try simp only [Act.put, List.setIfInBounds_toArray, List.set_cons_zero, List.set_cons_succ]
      refine wpAnyH_take (i := 2) (oi := { dst := some 25, op := Op.load 3 (Operand.tmp 24), type := 3, pos := "chart.go:115", after := #[{ on := 1, ground := Ground.data }], guard := none }) (v := ?_) rfl (by kernel_rfl) (by kernel_rfl) (by kernel_rfl) (fun _ _ _ h => h) (Or.inl ⟨by kernel_rfl, ?_⟩) hHeld ?_
      rotate_left
      · (intro w hSw; (try dsimp only at hSw); have e0 := cell_of_block hSw.1 0; have e1 := cell_of_block hSw.1 1; have e2 := cell_of_block hSw.1 2; go_simp); try with_reducible rfl
      try simp only [Act.put, List.setIfInBounds_toArray, List.set_cons_zero, List.set_cons_succ]
      refine wpAnyH_take (i := 3) (oi := { dst := some 26, op := Op.convert 3 72 (Operand.tmp 25), type := 72, pos := "chart.go:115", after := #[{ on := 2, ground := Ground.data }], guard := none }) (v := ?_) rfl (by kernel_rfl) (by kernel_rfl) (by kernel_rfl) (fun _ _ _ h => h) (Or.inl ⟨by kernel_rfl, ?_⟩) hHeld ?_
      rotate_left
      · (intro w hSw; (try dsimp only at hSw); have e0 := cell_of_block hSw.1 0; have e1 := cell_of_block hSw.1 1; have e2 := cell_of_block hSw.1 2; go_simp); try with_reducible rfl
      try simp only [Act.put, List.setIfInBounds_toArray, List.set_cons_zero, List.set_cons_succ]
      refine wpAnyH_take (i := 5) (oi := { dst := some 28, op := Op.fieldAddr 31 (Operand.tmp 5) 1, type := 0, pos := "chart.go:115", after := #[], guard := none }) (v := ?_) rfl (by kernel_rfl) (by kernel_rfl) (by kernel_rfl) (fun _ _ _ h => h) (Or.inl ⟨by kernel_rfl, ?_⟩) hHeld ?_
      rotate_left
      · (intro w hSw; (try dsimp only at hSw); have e0 := cell_of_block hSw.1 0; have e1 := cell_of_block hSw.1 1; have e2 := cell_of_block hSw.1 2; go_simp); try with_reducible rfl
      try simp only [Act.put, List.setIfInBounds_toArray, List.set_cons_zero, List.set_cons_succ]
      refine wpAnyH_take (i := 6) (oi := { dst := some 29, op := Op.load 29 (Operand.tmp 28), type := 29, pos := "chart.go:115", after := #[{ on := 5, ground := Ground.data }], guard := none }) (v := ?_) rfl (by kernel_rfl) (by kernel_rfl) (by kernel_rfl) (fun _ _ _ h => h) (Or.inl ⟨by kernel_rfl, ?_⟩) hHeld ?_
      rotate_left
      · (intro w hSw; (try dsimp only at hSw); have e0 := cell_of_block hSw.1 0; have e1 := cell_of_block hSw.1 1; have e2 := cell_of_block hSw.1 2; go_simp); try with_reducible rfl
      try simp only [Act.put, List.setIfInBounds_toArray, List.set_cons_zero, List.set_cons_succ]
      refine wpAnyH_take (i := 7) (oi := { dst := some 30, op := Op.convert 29 72 (Operand.tmp 29), type := 72, pos := "chart.go:115", after := #[{ on := 6, ground := Ground.data }], guard := none }) (v := ?_) rfl (by kernel_rfl) (by kernel_rfl) (by kernel_rfl) (fun _ _ _ h => h) (Or.inl ⟨by kernel_rfl, ?_⟩) hHeld ?_
      rotate_left
      · (intro w hSw; (try dsimp only at hSw); have e0 := cell_of_block hSw.1 0; have e1 := cell_of_block hSw.1 1; have e2 := cell_of_block hSw.1 2; go_simp); try with_reducible rfl
      try simp only [Act.put, List.setIfInBounds_toArray, List.set_cons_zero, List.set_cons_succ]
      refine wpAnyH_take (i := 9) (oi := { dst := some 32, op := Op.fieldAddr 31 (Operand.tmp 5) 2, type := 0, pos := "chart.go:115", after := #[], guard := none }) (v := ?_) rfl (by kernel_rfl) (by kernel_rfl) (by kernel_rfl) (fun _ _ _ h => h) (Or.inl ⟨by kernel_rfl, ?_⟩) hHeld ?_
      rotate_left
      · (intro w hSw; (try dsimp only at hSw); have e0 := cell_of_block hSw.1 0; have e1 := cell_of_block hSw.1 1; have e2 := cell_of_block hSw.1 2; go_simp); try with_reducible rfl
      try simp only [Act.put, List.setIfInBounds_toArray, List.set_cons_zero, List.set_cons_succ]
      refine wpAnyH_take (i := 10) (oi := { dst := some 33, op := Op.load 9 (Operand.tmp 32), type := 9, pos := "chart.go:115", after := #[{ on := 9, ground := Ground.data }], guard := none }) (v := ?_) rfl (by kernel_rfl) (by kernel_rfl) (by kernel_rfl) (fun _ _ _ h => h) (Or.inl ⟨by kernel_rfl, ?_⟩) hHeld ?_
      rotate_left
      · (intro w hSw; (try dsimp only at hSw); have e0 := cell_of_block hSw.1 0; have e1 := cell_of_block hSw.1 1; have e2 := cell_of_block hSw.1 2; go_simp); try with_reducible rfl
      try simp only [Act.put, List.setIfInBounds_toArray, List.set_cons_zero, List.set_cons_succ]
      refine wpAnyH_ready (rs := [4]) (by kernel_rfl) (by simp) ?_
      refine AllReadyH.cons (o := { dst := some 27, op := Op.call { callee := Callee.value (Operand.func 26), args := #[Operand.tmp 23, Operand.tmp 26, Operand.const (Value.int IntKind.i64 2)], argTypes := #[44, 72, 3] }, type := 44, pos := "chart.go:115", after := #[{ on := 0, ground := Ground.data }, { on := 3, ground := Ground.data }], guard := none }) rfl (fun K hK => ?_) AllReadyH.nil
      have hOld := hide hHeld
      clear hHeld
      go_simp
      refine (HN1.out _).mono ?_
      rintro e v1 ⟨rfl, hbx⟩
      (try go_wp2_with fail)
      refine hK.out _ _ (⟨(hbx.block _ (heap_lt hOld.out.1)).trans hOld.out.1, hOld.out.2.1.keep hbx, hOld.out.2.2.trans (hbx.mono hOld.out.2.2.size)⟩) (fun hHeld => ?_)
      clear hK K hOld
      try simp only [Act.put, List.setIfInBounds_toArray, List.set_cons_zero, List.set_cons_succ]
      refine wpAnyH_ready (rs := [8]) (by kernel_rfl) (by simp) ?_
      refine AllReadyH.cons (o := { dst := some 31, op := Op.call { callee := Callee.value (Operand.func 26), args := #[Operand.tmp 27, Operand.tmp 30, Operand.const (Value.int IntKind.i64 1)], argTypes := #[44, 72, 3] }, type := 44, pos := "chart.go:115", after := #[{ on := 4, ground := Ground.data }, { on := 7, ground := Ground.data }, { on := 4, ground := Ground.chain }], guard := none }) rfl (fun K hK => ?_) AllReadyH.nil
      have hOld := hide hHeld
      clear hHeld
      go_simp
      refine (HN2.out _).mono ?_
      rintro e v2 ⟨rfl, hbx⟩
      (try go_wp2_with fail)
      refine hK.out _ _ (⟨(hbx.block _ (heap_lt hOld.out.1)).trans hOld.out.1, hOld.out.2.1.keep hbx, hOld.out.2.2.trans (hbx.mono hOld.out.2.2.size)⟩) (fun hHeld => ?_)
      clear hK K hOld
      try simp only [Act.put, List.setIfInBounds_toArray, List.set_cons_zero, List.set_cons_succ]
      refine wpAnyH_ready (rs := [11]) (by kernel_rfl) (by simp) ?_
      refine AllReadyH.cons (o := { dst := some 34, op := Op.call { callee := Callee.value (Operand.func 27), args := #[Operand.tmp 31, Operand.tmp 33], argTypes := #[44, 9] }, type := 44, pos := "chart.go:115", after := #[{ on := 8, ground := Ground.data }, { on := 10, ground := Ground.data }, { on := 8, ground := Ground.chain }], guard := none }) rfl (fun K hK => ?_) AllReadyH.nil
      have hOld := hide hHeld
      clear hHeld
      go_simp
      refine (HN3.out _).mono ?_
      rintro e v3 ⟨rfl, hbx⟩
      (try go_wp2_with fail)
      refine hK.out _ _ (⟨(hbx.block _ (heap_lt hOld.out.1)).trans hOld.out.1, hOld.out.2.1.keep hbx, hOld.out.2.2.trans (hbx.mono hOld.out.2.2.size)⟩) (fun hHeld => ?_)
      clear hK K hOld
      try simp only [Act.put, List.setIfInBounds_toArray, List.set_cons_zero, List.set_cons_succ]
      refine wpAnyH_done (by kernel_rfl) ?_ _
      have HELD := hide hHeld
      clear hHeld X5 A5 B5 HN1 HN2 HN3 hu1 hu2
      go_wp2_with fail
      go_roundw
      case rel => exact ⟨m + 1, HLT.out, by go_num, HELD.out.2.1, HELD.out.2.2⟩
      case measure => have := HLT.out; simp [Go.RowKit.intOf]; omega
    · obtain rfl : M.length = m := by omega
      go_wp2_with fail
      go_end0
      exact ⟨rfl, BM.out⟩
set_option maxRecDepth 100000 in
set_option maxHeartbeats 1000000 in
theorem rchtext (M : List AcM) (hr : RightA M) (hM : M.length ≤ 64) (a : Option Addr) (cap : Nat) (w : World) (hin : AcsIn w a M) :
    Calls Try.prog 18 #[.slice a M.length cap] w fun e w' => e = .returned (.string (refS (chF M))) ∧ Below w.heap.size w w' := by
  obtain ⟨i0, hi, hz0, hz1, hz2⟩ := info_parts (show (Try.prog.info? 75).map (fun i => (i.zero, i.size, i.bytes)) = some (some (.agg #[.int .i64 0, .int .i64 0, .int .u64 0, .string ⟨#[]⟩]), 4, 40) by kernel_rfl)
  have HI := hide hi
  have HZ0 := hide hz0
  have HZ1 := hide hz1
  have HZ2 := hide hz2
  have HIN := hide hin
  have HR := hide hr
  have HAT := hide (fun m (h : m < M.length) => chFk_next M m h)
  have HLL := hide (fun m (h : m ≤ M.length) => chFk_len M m h hM)
  have HW := hide (fun a cap W hF => refWrite_any (chF M) (by have := chFk_len M M.length (Nat.le_refl _) hM; rw [chFk_all] at this; omega) (chF_good hr hM) a cap W hF)
  have HALL := hide (chFk_all M)
  have hu : IntKind.u64.wrap (M.length : Int) = (M.length : Int) := by rw [IntKind.wrap_u64]; omega
  clear hi hz0 hz1 hz2 hin hr
  have hal := (Below.refl w.heap.size w).alloc (Nat.le_refl _) (.cells #[.int .i64 0, .int .i64 1, .int .u64 (M.length : Int), .string ⟨#[]⟩] 75)
  have O1 := hide (show (w.alloc (.cells #[.int .i64 0, .int .i64 1, .int .u64 (M.length : Int), .string ⟨#[]⟩] 75)).ownsRow w.heap.size 75 4 (.slice (some ⟨w.heap.size, 0, none⟩) (chFk M 0).length 1) (chFk M 0).length ((chFk M 0).flatMap fc) from by
    rw [chFk_zero]
    exact ⟨rfl, .inr ⟨w.heap.size, 1, _, rfl, Nat.le_refl _, heap_new _ _, Nat.le_refl _, by decide, rfl, rfl⟩⟩)
  have B1 := hide hal
  have H0 := hide (show (chFk M 0).length = 1 by rw [chFk_zero]; rfl)
  clear hal
  go_enter Try.func18, Try.ntmps18
  go_wp2_with fail
  generalize hcf : chFk M = cf at *
  have HCF := hide hcf
  clear hcf hu
  go_loopw [3, 4] (fun l i W => ∃ (m : Nat) (g : Option Addr) (c4 : Nat), m ≤ M.length ∧ l = .slice g (cf m).length c4 ∧ i = .int .i64 m ∧ W.ownsRow w.heap.size 75 4 (.slice g (cf m).length c4) (cf m).length ((cf m).flatMap fc) ∧ Below w.heap.size w W) (fun _ i _ => M.length - (Go.RowKit.intOf i).toNat)
  case atStart => exact ⟨0, some ⟨w.heap.size, 0, none⟩, 1, by omega, by rw [H0.out], rfl, O1.out, B1.out⟩
  case round =>
    obtain ⟨m, g, c4, hm, rfl, rfl, ho, hb⟩ := hrel
    have OM := hide ho
    have BM := hide hb
    clear ho hb O1 B1
    have hln := HLL.out m hm
    by_cases hlt : m < M.length
    · have HLT := hide hlt
      obtain ⟨bl, rfl, hbl, p0, p1, p2⟩ := (HIN.out.keep BM.out) m hlt
      have hrx := right_parts (HR.out (M.getD m ac0) (by simp [List.getD, hlt]))
      have HNX := hide (HAT.out m hlt)
      obtain ⟨x, hx⟩ : ∃ x, M.getD m ac0 = x := ⟨_, rfl⟩
      rw [hx] at p0 p1 p2 hrx HNX
      have HXE := hide hx
      clear hx hbl
      obtain ⟨c, k, s⟩ := x
      dsimp only at *
      obtain ⟨⟨c1, c2⟩, ⟨k1, k2⟩, n1, n2⟩ := hrx
      have hu1 : IntKind.u64.wrap c = c := by rw [IntKind.wrap_u64]; omega
      have hu2 : IntKind.u64.wrap k = k := by rw [IntKind.wrap_u64]; omega
      clear c1 c2 k1 k2 n1 n2
      generalize cf m = sm at *
      have hal := (Below.refl wr.heap.size wr).alloc (Nat.le_refl _) (.cells #[.int .i64 0, .int .i64 2, .int .u64 c, .string ⟨#[]⟩] 75)
      have XN := hide (heap_new wr (.cells #[.int .i64 0, .int .i64 2, .int .u64 c, .string ⟨#[]⟩] 75))
      have OMa := hide (owns_below OM.out hal)
      have BMa := hide (BM.out.trans (hal.mono BM.out.size))
      have hw2 : w.heap.size ≤ (wr.alloc (.cells #[.int .i64 0, .int .i64 2, .int .u64 c, .string ⟨#[]⟩] 75)).heap.size := BMa.out.size
      clear hal OM BM
      go_upto_region 6 with (at_builtin; refine wpList_append_own2 _ rfl _ _ 76 rfl w.heap.size 75 i0 (.agg #[.int .i64 0, .int .i64 0, .int .u64 0, .string ⟨#[]⟩]) 4 40 Try.underlying76 HI.out HZ0.out HZ1.out HZ2.out rfl (by decide) (.slice g (sm.length) c4) (sm.length) (sm.flatMap fc) rfl OMa.out ⟨wr.heap.size, 0, none⟩ 1 1 (by decide) [.int .i64 0, .int .i64 2, .int .u64 c, .string ⟨#[]⟩] rfl rfl (cells_new XN.out) (by simp [Value.oneCell']) (by unfold maxLen; omega) (by omega) hw2 ?_; intro g3 c3' w3 ho hgr hnil; have OM := hide ho; have BM := hide (BMa.out.grown hgr BMa.out.size (fun jj hj => (OMa.out.lt jj hj).1)); clear ho hgr hnil)
      clear OMa BMa XN hw2 p0 p1 p2
      obtain ⟨b', hb', -, p0, p1, p2⟩ := (HIN.out.keep BM.out) m HLT.out
      simp only [Option.some.injEq, Addr.mk.injEq, and_true] at hb'
      subst hb'
      rw [HXE.out] at p0 p1 p2
      have hal := (Below.refl w3.heap.size w3).alloc (Nat.le_refl _) (.cells #[.int .i64 0, .int .i64 1, .int .u64 k, .string ⟨#[]⟩] 75)
      have XN := hide (heap_new w3 (.cells #[.int .i64 0, .int .i64 1, .int .u64 k, .string ⟨#[]⟩] 75))
      have OMa := hide (owns_below OM.out hal)
      have BMa := hide (BM.out.trans (hal.mono BM.out.size))
      have hw2 : w.heap.size ≤ (w3.alloc (.cells #[.int .i64 0, .int .i64 1, .int .u64 k, .string ⟨#[]⟩] 75)).heap.size := BMa.out.size
      clear hal OM BM
      go_upto_region 7 with (at_builtin; refine wpList_append_own2 _ rfl _ _ 76 rfl w.heap.size 75 i0 (.agg #[.int .i64 0, .int .i64 0, .int .u64 0, .string ⟨#[]⟩]) 4 40 Try.underlying76 HI.out HZ0.out HZ1.out HZ2.out rfl (by decide) (.slice (some ⟨g3, 0, none⟩) (sm.length + 1) c3') (sm.length + 1) (sm.flatMap fc ++ [Value.int .i64 0, Value.int .i64 2, Value.int .u64 c, Value.string ⟨#[]⟩]) rfl OMa.out ⟨w3.heap.size, 0, none⟩ 1 1 (by decide) [.int .i64 0, .int .i64 1, .int .u64 k, .string ⟨#[]⟩] rfl rfl (cells_new XN.out) (by simp [Value.oneCell']) (by unfold maxLen; omega) (by omega) hw2 ?_; intro g5 c5' w5 ho hgr hnil; have OM := hide ho; have BM := hide (BMa.out.grown hgr BMa.out.size (fun jj hj => (OMa.out.lt jj hj).1)); clear ho hgr hnil)
      clear OMa BMa XN hw2 p0 p1 p2
      obtain ⟨b', hb', -, p0, p1, p2⟩ := (HIN.out.keep BM.out) m HLT.out
      simp only [Option.some.injEq, Addr.mk.injEq, and_true] at hb'
      subst hb'
      rw [HXE.out] at p0 p1 p2
      have hal := (Below.refl w5.heap.size w5).alloc (Nat.le_refl _) (.cells #[.int .i64 2, .int .i64 0, .int .u64 0, .string s] 75)
      have XN := hide (heap_new w5 (.cells #[.int .i64 2, .int .i64 0, .int .u64 0, .string s] 75))
      have OMa := hide (owns_below OM.out hal)
      have BMa := hide (BM.out.trans (hal.mono BM.out.size))
      have hw2 : w.heap.size ≤ (w5.alloc (.cells #[.int .i64 2, .int .i64 0, .int .u64 0, .string s] 75)).heap.size := BMa.out.size
      clear hal OM BM
      go_wp2_with (at_builtin; refine wpList_append_own2 _ rfl _ _ 76 rfl w.heap.size 75 i0 (.agg #[.int .i64 0, .int .i64 0, .int .u64 0, .string ⟨#[]⟩]) 4 40 Try.underlying76 HI.out HZ0.out HZ1.out HZ2.out rfl (by decide) (.slice (some ⟨g5, 0, none⟩) (sm.length + 1 + 1) c5') (sm.length + 1 + 1) (sm.flatMap fc ++ [Value.int .i64 0, Value.int .i64 2, Value.int .u64 c, Value.string ⟨#[]⟩] ++ [Value.int .i64 0, Value.int .i64 1, Value.int .u64 k, Value.string ⟨#[]⟩]) rfl OMa.out ⟨w5.heap.size, 0, none⟩ 1 1 (by decide) [.int .i64 2, .int .i64 0, .int .u64 0, .string s] rfl rfl (cells_new XN.out) (by simp [Value.oneCell']) (by unfold maxLen; omega) (by omega) hw2 ?_; intro g7 c7' w7 ho hgr hnil; have OM := hide ho; have BM := hide (BMa.out.grown hgr BMa.out.size (fun jj hj => (OMa.out.lt jj hj).1)); clear ho hgr hnil)
      clear OMa BMa XN hw2
      go_roundw
      case rel => exact ⟨m + 1, some ⟨g7, 0, none⟩, c7', HLT.out, by rw [HNX.out]; simp [acF], by go_num, by rw [HNX.out]; simpa [List.flatMap_append, acF, fc] using OM.out, BM.out⟩
      case measure => have := HLT.out; simp [Go.RowKit.intOf]; omega
    · obtain rfl : M.length = m := by omega
      have hcm : cf M.length = chF M := HALL.out
      rw [hcm] at OM hln ⊢
      clear hcm
      go_wp2_with fail
      refine (HW.out g c4 _ (flds_of_owns OM.out)).mono ?_
      rintro e w9 ⟨rfl, hb⟩
      have B9 := hide (BM.out.trans (hb.mono BM.out.size))
      clear hb
      go_wp2_with fail
      go_ret
      exact ⟨rfl, B9.out⟩
end Go.Proofs.Ytehjhldijhoeeaa
