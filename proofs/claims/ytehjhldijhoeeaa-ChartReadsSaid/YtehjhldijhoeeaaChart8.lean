/-
  Layer 21: same: a chart is the document's.
-/
import Derived.Test.YtehjhldijhoeeaaChart7

namespace Go.Proofs.Ytehjhldijhoeeaa
set_option linter.unusedSimpArgs false
set_option linter.unusedVariables false
open Go.RowKit Go.WideShapes Go.ChangeShapes Go.ChangeAt Go.Deep
set_option maxRecDepth 100000 in
set_option maxHeartbeats 1000000 in
theorem same_any (p bm : Nat) (M : List AcM) (a : Option Addr) (cap : Nat) (w : World) (h : ChartIs w p bm M) (hd : AcsIn w a M) :
    Calls Try.prog 14 #[.pointer (some ⟨p, 0, none⟩), .slice a M.length cap] w fun e w' => e = .returned (.bool true) ∧ Below w.heap.size w w' := by
  have hM64 := h.few
  have HLI := hide (chlist_any p bm M w h)
  unfold ListIs at HLI
  have HC := hide h
  have HD := hide hd
  have HRI := hide h.rises
  have HOK := hide h.ok
  clear h hd
  go_enter Try.func14, Try.ntmps14
  go_wp2_with fail
  refine HLI.out.mono ?_
  rintro e w1 ⟨la, lc, rfl, ho, hb⟩
  have C1 := hide (HC.out.below hb)
  have L1 := hide (AcsIn.of_owns ho)
  have D1 := hide (HD.out.keep hb)
  have B1 := hide hb
  clear ho hb HLI HC HD
  go_wp2_with fail
  go_loopw [19] (fun i W => ∃ m : Nat, m ≤ M.length ∧ i = .int .i64 m ∧ ChartIs W p bm M ∧ AcsIn W la M ∧ AcsIn W a M ∧ Below w.heap.size w W) (fun i _ => M.length - (Go.RowKit.intOf i).toNat)
  case atStart => exact ⟨0, by omega, rfl, C1.out, L1.out, D1.out, B1.out⟩
  case round =>
    obtain ⟨m, hm, rfl, hc, hl, hd, hb⟩ := hrel
    have CM := hide hc
    have LM := hide hl
    have DM := hide hd
    have BM := hide hb
    clear hc hl hd hb C1 L1 D1 B1
    by_cases hlt : m < M.length
    · have HLT := hide hlt
      obtain ⟨bl, rfl, -, p0, p1, p2⟩ := LM.out m hlt
      obtain ⟨bd, rfl, -, -, -, -⟩ := DM.out m hlt
      have hget := getA_at HRI.out hlt
      have hin : in64 (M.getD m ac0).code := (HOK.out _ (by simp [List.getD, hlt])).code
      have HGE := hide (fun W hW => chget_any p bm M (M.getD m ac0).code hin W hW)
      rw [show getV M (M.getD m ac0).code = M.getD m ac0 by unfold getV; rw [hget]; rfl, hget] at HGE
      have HDC := hide (fun W (hW : AcsIn W (some ⟨bd, 0, none⟩) M) => hW m hlt)
      have HOF := hide (fun W => of_acc (M.getD m ac0) W)
      clear hget hin
      generalize M.getD m ac0 = x at *
      obtain ⟨c, k, s⟩ := x
      unfold acV at HGE HOF
      dsimp only at *
      rw [show (some (⟨c, k, s⟩ : AcM)).isSome = true from rfl] at HGE
      have hne := fun W => neq_same c k s W
      have hal := (Below.refl wr.heap.size wr).alloc (Nat.le_refl _) (.cells #[.int .i64 c, .int .u8 k, .string s] 31)
      have X7 := hide (heap_new wr (.cells #[.int .i64 c, .int .u8 k, .string s] 31))
      have C7 := hide (CM.out.below hal)
      have L7 := hide (LM.out.keep hal)
      have D7 := hide (DM.out.keep hal)
      have B7 := hide (BM.out.trans (hal.mono BM.out.size))
      clear hal CM LM DM BM
      go_upto_region 7 with (fail)
      generalize wr.alloc (.cells #[.int .i64 c, .int .u8 k, .string s] 31) = w7 at *
      generalize wr.heap.size = q7 at *
      clear p0 p1 p2
      have e0 : w7.cell? ⟨q7, 0, none⟩ = some (.int .i64 c) := cell_of_block X7.out 0
      have HNE := hide hne
      clear hne
      go_wp2_with fail
      refine (HGE.out _ C7.out).mono ?_
      rintro e w8 ⟨rfl, hb⟩
      have hal := (Below.refl w8.heap.size w8).alloc (Nat.le_refl _) (.cells #[.int .i64 c, .int .u8 k, .string s] 31)
      have hb2 := hb.trans (hal.mono hb.size)
      have X7b := hide ((hb2.block _ (heap_lt X7.out)).trans X7.out)
      have X8 := hide (heap_new w8 (.cells #[.int .i64 c, .int .u8 k, .string s] 31))
      have C8 := hide (C7.out.below hb2)
      have L8 := hide (L7.out.keep hb2)
      have D8 := hide (D7.out.keep hb2)
      have B8 := hide (B7.out.trans (hb2.mono B7.out.size))
      clear hal hb hb2 X7 C7 L7 D7 B7 e0 HGE
      have X7 := hide X7b.out
      clear X7b
      go_upto_region 8 with (fail)
      generalize w8.alloc (.cells #[.int .i64 c, .int .u8 k, .string s] 31) = w9 at *
      generalize w8.heap.size = q8 at *
      go_cut [46] from 31 to 46 (fun t W => t = .bool false ∧ ChartIs W p bm M ∧ AcsIn W (some ⟨bl, 0, none⟩) M ∧ AcsIn W (some ⟨bd, 0, none⟩) M ∧ Below w.heap.size w W)
      case first =>
        obtain ⟨bd', hbd, hbl, d0, d1, d2⟩ := HDC.out _ D8.out
        simp only [Option.some.injEq, Addr.mk.injEq, and_true] at hbd
        subst hbd
        have hdw : Below w9.heap.size w9 w9.drew := (Below.refl _ _).drew
        have hne := HNE.out
        clear HDC HNE HRI HOK HLT
        refine wp_region_held_drew (S := (fun W => W.heap[q7]? = some (.cells #[.int .i64 c, .int .u8 k, .string s] 31 (0, 0)) ∧ W.heap[q8]? = some (.cells #[.int .i64 c, .int .u8 k, .string s] 31 (0, 0)) ∧ (W.cell? ⟨bd, m * 3, none⟩ = some (.int .i64 c) ∧ W.cell? ⟨bd, m * 3 + 1, none⟩ = some (.int .u8 k) ∧ W.cell? ⟨bd, m * 3 + 2, none⟩ = some (.string s)) ∧ ChartIs W p bm M ∧ AcsIn W (some ⟨bl, 0, none⟩) M ∧ AcsIn W (some ⟨bd, 0, none⟩) M ∧ Below w.heap.size w W)) (by kernel_rfl) (⟨X7.out, X8.out, ⟨d0, d1, d2⟩, C8.out.drew, L8.out.keep hdw, D8.out.keep hdw, B8.out.drew⟩) (fun hHeld => ?_)
        refine wpAnyH_take (i := 0) (oi := { dst := some 31, op := Op.move (Operand.tmp 9), type := 4, pos := "law.go:40", after := #[], guard := none }) (v := ?_) rfl (by kernel_rfl) (by kernel_rfl) (by kernel_rfl) (fun _ _ _ h => h) (Or.inl ⟨by kernel_rfl, ?_⟩) hHeld ?_
        rotate_left
        · (intro w hSw; (try dsimp only at hSw); have e0 := cell_of_block hSw.1 0; have e1 := cell_of_block hSw.1 1; have e2 := cell_of_block hSw.1 2; have f0 := cell_of_block hSw.2.1 0; have f1 := cell_of_block hSw.2.1 1; have f2 := cell_of_block hSw.2.1 2; obtain ⟨d0, d1, d2⟩ := hSw.2.2.1; go_simp); try with_reducible rfl
        try simp only [Act.put, List.setIfInBounds_toArray, List.set_cons_zero, List.set_cons_succ]
        refine wpAnyH_take (i := 1) (oi := { dst := some 32, op := Op.unOp UnOp.not 4 (Operand.tmp 31), type := 4, pos := "law.go:40", after := #[{ on := 0, ground := Ground.data }], guard := none }) (v := ?_) rfl (by kernel_rfl) (by kernel_rfl) (by kernel_rfl) (fun _ _ _ h => h) (Or.inl ⟨by kernel_rfl, ?_⟩) hHeld ?_
        rotate_left
        · (intro w hSw; (try dsimp only at hSw); have e0 := cell_of_block hSw.1 0; have e1 := cell_of_block hSw.1 1; have e2 := cell_of_block hSw.1 2; have f0 := cell_of_block hSw.2.1 0; have f1 := cell_of_block hSw.2.1 1; have f2 := cell_of_block hSw.2.1 2; obtain ⟨d0, d1, d2⟩ := hSw.2.2.1; go_simp); try with_reducible rfl
        try simp only [Act.put, List.setIfInBounds_toArray, List.set_cons_zero, List.set_cons_succ]
        refine wpAnyH_take (i := 2) (oi := { dst := some 33, op := Op.move (Operand.tmp 32), type := 4, pos := "law.go:40", after := #[{ on := 1, ground := Ground.data }], guard := none }) (v := ?_) rfl (by kernel_rfl) (by kernel_rfl) (by kernel_rfl) (fun _ _ _ h => h) (Or.inl ⟨by kernel_rfl, ?_⟩) hHeld ?_
        rotate_left
        · (intro w hSw; (try dsimp only at hSw); have e0 := cell_of_block hSw.1 0; have e1 := cell_of_block hSw.1 1; have e2 := cell_of_block hSw.1 2; have f0 := cell_of_block hSw.2.1 0; have f1 := cell_of_block hSw.2.1 1; have f2 := cell_of_block hSw.2.1 2; obtain ⟨d0, d1, d2⟩ := hSw.2.2.1; go_simp); try with_reducible rfl
        try simp only [Act.put, List.setIfInBounds_toArray, List.set_cons_zero, List.set_cons_succ]
        refine wpAnyH_take (i := 3) (oi := { dst := some 34, op := Op.load 31 (Operand.tmp 7), type := 31, pos := "law.go:40", after := #[{ on := 2, ground := Ground.guard }], guard := some (2, false) }) (v := ?_) rfl (by kernel_rfl) (by kernel_rfl) (by kernel_rfl) (fun _ _ _ h => h) (Or.inl ⟨by kernel_rfl, ?_⟩) hHeld ?_
        rotate_left
        · (intro w hSw; (try dsimp only at hSw); have e0 := cell_of_block hSw.1 0; have e1 := cell_of_block hSw.1 1; have e2 := cell_of_block hSw.1 2; have f0 := cell_of_block hSw.2.1 0; have f1 := cell_of_block hSw.2.1 1; have f2 := cell_of_block hSw.2.1 2; obtain ⟨d0, d1, d2⟩ := hSw.2.2.1; go_simp); try with_reducible rfl
        try simp only [Act.put, List.setIfInBounds_toArray, List.set_cons_zero, List.set_cons_succ]
        refine wpAnyH_take (i := 4) (oi := { dst := some 35, op := Op.load 31 (Operand.tmp 8), type := 31, pos := "law.go:40", after := #[{ on := 2, ground := Ground.guard }], guard := some (2, false) }) (v := ?_) rfl (by kernel_rfl) (by kernel_rfl) (by kernel_rfl) (fun _ _ _ h => h) (Or.inl ⟨by kernel_rfl, ?_⟩) hHeld ?_
        rotate_left
        · (intro w hSw; (try dsimp only at hSw); have e0 := cell_of_block hSw.1 0; have e1 := cell_of_block hSw.1 1; have e2 := cell_of_block hSw.1 2; have f0 := cell_of_block hSw.2.1 0; have f1 := cell_of_block hSw.2.1 1; have f2 := cell_of_block hSw.2.1 2; obtain ⟨d0, d1, d2⟩ := hSw.2.2.1; go_simp); try with_reducible rfl
        try simp only [Act.put, List.setIfInBounds_toArray, List.set_cons_zero, List.set_cons_succ]
        refine wpAnyH_take (i := 5) (oi := { dst := some 36, op := Op.binOp BinOp.neq 31 (Operand.tmp 34) (Operand.tmp 35) 31, type := 4, pos := "law.go:40", after := #[{ on := 3, ground := Ground.data }, { on := 4, ground := Ground.data }, { on := 2, ground := Ground.guard }], guard := some (2, false) }) (v := ?_) rfl (by kernel_rfl) (by kernel_rfl) (by kernel_rfl) (fun _ _ _ h => h) (Or.inl ⟨by kernel_rfl, ?_⟩) hHeld ?_
        rotate_left
        · (intro w hSw; (try dsimp only at hSw); have e0 := cell_of_block hSw.1 0; have e1 := cell_of_block hSw.1 1; have e2 := cell_of_block hSw.1 2; have f0 := cell_of_block hSw.2.1 0; have f1 := cell_of_block hSw.2.1 1; have f2 := cell_of_block hSw.2.1 2; obtain ⟨d0, d1, d2⟩ := hSw.2.2.1; go_simp); try with_reducible rfl
        try simp only [Act.put, List.setIfInBounds_toArray, List.set_cons_zero, List.set_cons_succ]
        refine wpAnyH_take (i := 6) (oi := { dst := some 37, op := Op.pick (Operand.tmp 33) (Operand.const (Value.bool true)) (Operand.tmp 36), type := 4, pos := "law.go:40", after := #[{ on := 2, ground := Ground.data }, { on := 5, ground := Ground.data }], guard := none }) (v := ?_) rfl (by kernel_rfl) (by kernel_rfl) (by kernel_rfl) (fun _ _ _ h => h) (Or.inl ⟨by kernel_rfl, ?_⟩) hHeld ?_
        rotate_left
        · (intro w hSw; (try dsimp only at hSw); have e0 := cell_of_block hSw.1 0; have e1 := cell_of_block hSw.1 1; have e2 := cell_of_block hSw.1 2; have f0 := cell_of_block hSw.2.1 0; have f1 := cell_of_block hSw.2.1 1; have f2 := cell_of_block hSw.2.1 2; obtain ⟨d0, d1, d2⟩ := hSw.2.2.1; go_simp); try with_reducible rfl
        try simp only [Act.put, List.setIfInBounds_toArray, List.set_cons_zero, List.set_cons_succ]
        refine wpAnyH_take (i := 7) (oi := { dst := some 38, op := Op.move (Operand.tmp 37), type := 4, pos := "law.go:40", after := #[{ on := 6, ground := Ground.data }, { on := 2, ground := Ground.chain }], guard := none }) (v := ?_) rfl (by kernel_rfl) (by kernel_rfl) (by kernel_rfl) (fun _ _ _ h => h) (Or.inl ⟨by kernel_rfl, ?_⟩) hHeld ?_
        rotate_left
        · (intro w hSw; (try dsimp only at hSw); have e0 := cell_of_block hSw.1 0; have e1 := cell_of_block hSw.1 1; have e2 := cell_of_block hSw.1 2; have f0 := cell_of_block hSw.2.1 0; have f1 := cell_of_block hSw.2.1 1; have f2 := cell_of_block hSw.2.1 2; obtain ⟨d0, d1, d2⟩ := hSw.2.2.1; go_simp); try with_reducible rfl
        try simp only [Act.put, List.setIfInBounds_toArray, List.set_cons_zero, List.set_cons_succ]
        refine wpAnyH_take (i := 8) (oi := { dst := some 39, op := Op.load 31 (Operand.tmp 7), type := 31, pos := "law.go:40", after := #[{ on := 7, ground := Ground.guard }], guard := some (7, false) }) (v := ?_) rfl (by kernel_rfl) (by kernel_rfl) (by kernel_rfl) (fun _ _ _ h => h) (Or.inl ⟨by kernel_rfl, ?_⟩) hHeld ?_
        rotate_left
        · (intro w hSw; (try dsimp only at hSw); have e0 := cell_of_block hSw.1 0; have e1 := cell_of_block hSw.1 1; have e2 := cell_of_block hSw.1 2; have f0 := cell_of_block hSw.2.1 0; have f1 := cell_of_block hSw.2.1 1; have f2 := cell_of_block hSw.2.1 2; obtain ⟨d0, d1, d2⟩ := hSw.2.2.1; go_simp); try with_reducible rfl
        try simp only [Act.put, List.setIfInBounds_toArray, List.set_cons_zero, List.set_cons_succ]
        refine wpAnyH_take (i := 9) (oi := { dst := some 40, op := Op.move (Operand.tmp 1), type := 25, pos := "law.go:40", after := #[{ on := 7, ground := Ground.guard }], guard := some (7, false) }) (v := ?_) rfl (by kernel_rfl) (by kernel_rfl) (by kernel_rfl) (fun _ _ _ h => h) (Or.inl ⟨by kernel_rfl, ?_⟩) hHeld ?_
        rotate_left
        · (intro w hSw; (try dsimp only at hSw); have e0 := cell_of_block hSw.1 0; have e1 := cell_of_block hSw.1 1; have e2 := cell_of_block hSw.1 2; have f0 := cell_of_block hSw.2.1 0; have f1 := cell_of_block hSw.2.1 1; have f2 := cell_of_block hSw.2.1 2; obtain ⟨d0, d1, d2⟩ := hSw.2.2.1; go_simp); try with_reducible rfl
        try simp only [Act.put, List.setIfInBounds_toArray, List.set_cons_zero, List.set_cons_succ]
        refine wpAnyH_take (i := 10) (oi := { dst := some 41, op := Op.move (Operand.tmp 6), type := 3, pos := "law.go:40", after := #[{ on := 7, ground := Ground.guard }], guard := some (7, false) }) (v := ?_) rfl (by kernel_rfl) (by kernel_rfl) (by kernel_rfl) (fun _ _ _ h => h) (Or.inl ⟨by kernel_rfl, ?_⟩) hHeld ?_
        rotate_left
        · (intro w hSw; (try dsimp only at hSw); have e0 := cell_of_block hSw.1 0; have e1 := cell_of_block hSw.1 1; have e2 := cell_of_block hSw.1 2; have f0 := cell_of_block hSw.2.1 0; have f1 := cell_of_block hSw.2.1 1; have f2 := cell_of_block hSw.2.1 2; obtain ⟨d0, d1, d2⟩ := hSw.2.2.1; go_simp); try with_reducible rfl
        try simp only [Act.put, List.setIfInBounds_toArray, List.set_cons_zero, List.set_cons_succ]
        refine wpAnyH_take (i := 11) (oi := { dst := some 42, op := Op.indexAddr 25 (Operand.tmp 40) (Operand.tmp 41), type := 0, pos := "law.go:40", after := #[{ on := 9, ground := Ground.data }, { on := 10, ground := Ground.data }, { on := 7, ground := Ground.guard }], guard := some (7, false) }) (v := ?_) rfl (by kernel_rfl) (by kernel_rfl) (by kernel_rfl) (fun _ _ _ h => h) (Or.inl ⟨by kernel_rfl, ?_⟩) hHeld ?_
        rotate_left
        · (intro w hSw; (try dsimp only at hSw); have e0 := cell_of_block hSw.1 0; have e1 := cell_of_block hSw.1 1; have e2 := cell_of_block hSw.1 2; have f0 := cell_of_block hSw.2.1 0; have f1 := cell_of_block hSw.2.1 1; have f2 := cell_of_block hSw.2.1 2; obtain ⟨d0, d1, d2⟩ := hSw.2.2.1; go_simp); try with_reducible rfl
        try simp only [Act.put, List.setIfInBounds_toArray, List.set_cons_zero, List.set_cons_succ]
        refine wpAnyH_take (i := 12) (oi := { dst := some 43, op := Op.load 34 (Operand.tmp 42), type := 34, pos := "law.go:40", after := #[{ on := 11, ground := Ground.data }, { on := 7, ground := Ground.guard }], guard := some (7, false) }) (v := ?_) rfl (by kernel_rfl) (by kernel_rfl) (by kernel_rfl) (fun _ _ _ h => h) (Or.inl ⟨by kernel_rfl, ?_⟩) hHeld ?_
        rotate_left
        · (intro w hSw; (try dsimp only at hSw); have e0 := cell_of_block hSw.1 0; have e1 := cell_of_block hSw.1 1; have e2 := cell_of_block hSw.1 2; have f0 := cell_of_block hSw.2.1 0; have f1 := cell_of_block hSw.2.1 1; have f2 := cell_of_block hSw.2.1 2; obtain ⟨d0, d1, d2⟩ := hSw.2.2.1; go_simp); try with_reducible rfl
        try simp only [Act.put, List.setIfInBounds_toArray, List.set_cons_zero, List.set_cons_succ]
        refine wpAnyH_ready (rs := [13]) (by kernel_rfl) (by simp) ?_
        refine AllReadyH.cons (o := { dst := some 44, op := Op.call { callee := Callee.value (Operand.func 8), args := #[Operand.tmp 43], argTypes := #[28] }, type := 31, pos := "law.go:40", after := #[{ on := 12, ground := Ground.data }, { on := 7, ground := Ground.chain }, { on := 7, ground := Ground.guard }], guard := some (7, false) }) rfl (fun K hK => ?_) AllReadyH.nil
        have hOld := hide hHeld
        clear hHeld
        go_simp
        refine (HOF.out _).mono ?_
        rintro e v1 ⟨rfl, hbo⟩
        (try go_wp2_with fail)
        refine hK.out _ _ (⟨(hbo.block _ (heap_lt hOld.out.1)).trans hOld.out.1, (hbo.block _ (heap_lt hOld.out.2.1)).trans hOld.out.2.1, ⟨cell_keep hOld.out.2.2.1.1 (World.block_lt_of_cell? _ _ hOld.out.2.2.1.1) hbo, cell_keep hOld.out.2.2.1.2.1 (World.block_lt_of_cell? _ _ hOld.out.2.2.1.1) hbo, cell_keep hOld.out.2.2.1.2.2 (World.block_lt_of_cell? _ _ hOld.out.2.2.1.1) hbo⟩, hOld.out.2.2.2.1.below hbo, hOld.out.2.2.2.2.1.keep hbo, hOld.out.2.2.2.2.2.1.keep hbo, hOld.out.2.2.2.2.2.2.trans (hbo.mono hOld.out.2.2.2.2.2.2.size)⟩) (fun hHeld => ?_)
        clear hK K hOld
        try simp only [Act.put, List.setIfInBounds_toArray, List.set_cons_zero, List.set_cons_succ]
        refine wpAnyH_take (i := 14) (oi := { dst := some 45, op := Op.binOp BinOp.neq 31 (Operand.tmp 39) (Operand.tmp 44) 31, type := 4, pos := "law.go:40", after := #[{ on := 8, ground := Ground.data }, { on := 13, ground := Ground.data }, { on := 7, ground := Ground.guard }], guard := some (7, false) }) (v := ?_) rfl (by kernel_rfl) (by kernel_rfl) (by kernel_rfl) (fun _ _ _ h => h) (Or.inl ⟨by kernel_rfl, ?_⟩) hHeld ?_
        rotate_left
        · (intro w hSw; (try dsimp only at hSw); have e0 := cell_of_block hSw.1 0; have e1 := cell_of_block hSw.1 1; have e2 := cell_of_block hSw.1 2; have f0 := cell_of_block hSw.2.1 0; have f1 := cell_of_block hSw.2.1 1; have f2 := cell_of_block hSw.2.1 2; obtain ⟨d0, d1, d2⟩ := hSw.2.2.1; go_simp); try with_reducible rfl
        try simp only [Act.put, List.setIfInBounds_toArray, List.set_cons_zero, List.set_cons_succ]
        refine wpAnyH_take (i := 15) (oi := { dst := some 46, op := Op.pick (Operand.tmp 38) (Operand.const (Value.bool true)) (Operand.tmp 45), type := 4, pos := "law.go:40", after := #[{ on := 7, ground := Ground.data }, { on := 14, ground := Ground.data }], guard := none }) (v := ?_) rfl (by kernel_rfl) (by kernel_rfl) (by kernel_rfl) (fun _ _ _ h => h) (Or.inl ⟨by kernel_rfl, ?_⟩) hHeld ?_
        rotate_left
        · (intro w hSw; (try dsimp only at hSw); have e0 := cell_of_block hSw.1 0; have e1 := cell_of_block hSw.1 1; have e2 := cell_of_block hSw.1 2; have f0 := cell_of_block hSw.2.1 0; have f1 := cell_of_block hSw.2.1 1; have f2 := cell_of_block hSw.2.1 2; obtain ⟨d0, d1, d2⟩ := hSw.2.2.1; go_simp); try with_reducible rfl
        try simp only [Act.put, List.setIfInBounds_toArray, List.set_cons_zero, List.set_cons_succ]
        refine wpAnyH_done (by kernel_rfl) ?_ _
        have HELD := hide hHeld
        clear hHeld
        go_wp2
        go_meet
        exact ⟨rfl, HELD.out.2.2.2.1, HELD.out.2.2.2.2.1, HELD.out.2.2.2.2.2.1, HELD.out.2.2.2.2.2.2⟩
      case rest =>
        obtain ⟨rfl, hc, hl, hd, hb⟩ := hcut
        have CC := hide hc
        have LC := hide hl
        have DC := hide hd
        have BC := hide hb
        clear hc hl hd hb HNE HDC HOF
        go_wp2_with fail
        go_roundw
        case rel => exact ⟨m + 1, HLT.out, by go_num, CC.out, LC.out, DC.out, BC.out⟩
        case measure => have := HLT.out; simp [Go.RowKit.intOf]; omega
    · obtain rfl : M.length = m := by omega
      go_wp2_with fail
      go_ret
      exact ⟨rfl, BM.out⟩
end Go.Proofs.Ytehjhldijhoeeaa
