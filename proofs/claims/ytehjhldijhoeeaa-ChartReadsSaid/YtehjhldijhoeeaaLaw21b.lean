/-
  Whatever accounts are added, the answers, and which there are, are the document's; so are the fields; a copy has nothing to do with what it is of (P21.1, P21.2): for every list of accounts and every code.
-/
import Derived.Test.YtehjhldijhoeeaaChart10

namespace Go.Proofs.Ytehjhldijhoeeaa
set_option linter.unusedSimpArgs false
set_option linter.unusedVariables false
open Go.RowKit Go.WideShapes Go.ChangeShapes Go.ChangeAt Go.Deep
/-- accounts that come in -/
def InAcs (w : World) (a : Option Addr) (L : List AcM) : Prop := ∀ i, i < L.length → ∃ b off, a = some ⟨b, off, none⟩ ∧ b < w.heap.size ∧ w.cell? ⟨b, off + i * 3, none⟩ = some (.int .i64 (L.getD i ac0).code) ∧ w.cell? ⟨b, off + i * 3 + 1, none⟩ = some (.int .u8 (L.getD i ac0).kind) ∧ w.cell? ⟨b, off + i * 3 + 2, none⟩ = some (.string (L.getD i ac0).name)
theorem InAcs.keep {w w' : World} {a : Option Addr} {L : List AcM} (h : InAcs w a L) (hb : Below w.heap.size w w') : InAcs w' a L := fun i hi => by
  obtain ⟨b, off, h1, h2, c0, c1, c2⟩ := h i hi
  exact ⟨b, off, h1, Nat.lt_of_lt_of_le h2 hb.size, cell_keep c0 h2 hb, cell_keep c1 h2 hb, cell_keep c2 h2 hb⟩
set_option maxRecDepth 100000 in
theorem open_accts {H : Type} {enc : TypeId × Value → H} {w : World} {base : Nat} {sp : Nat → Bool} {held : Bool} {r : Reach} {b0 : Nat} {v : Value} {d : DataW H} {ps : List MemPlace}
    (hv : Value.okWide Try.prog w r b0 22 v) (h : DataW.Trod enc Try.prog w base sp held 22 v d ps) :
    ∃ (a : Option Addr) (L : List AcM) (cap : Nat), v = .slice a L.length cap ∧ L.length ≤ cap ∧ L.length ≤ 9223372036854775807 ∧ InAcs w a L ∧ ∀ x ∈ L, AcOk x := by
  obtain ⟨L, ⟨a, cap, rfl, hm, hc, _, hat⟩, hty⟩ := open_rows [.int .i64, .int .u8, .string] Try.underlying22 Try.underlying28 (by kernel_rfl) (by kernel_rfl) (by decide) rfl (fun j hj => by
    have : j = 0 ∨ j = 1 ∨ j = 2 := by simp at hj; omega
    rcases this with rfl | rfl | rfl <;> rfl) hv h
  obtain ⟨M, rfl, hM⟩ := rows_typed acL AcOk L (fun x hx => by
    obtain ⟨hl, hcell⟩ := hty x hx
    match x, (show x.length = 3 from hl), hcell with
    | [x0, x1, x2], _, hcell =>
      obtain ⟨k, rfl, hk⟩ := hcell 0 _ _ rfl rfl
      obtain ⟨b, rfl, hb⟩ := hcell 1 _ _ rfl rfl
      obtain ⟨s, rfl, hs⟩ := hcell 2 _ _ rfl rfl
      exact ⟨⟨k, b, s⟩, rfl, wf_i64 hk, wf_u8 hb, hs⟩)
  refine ⟨a, M, cap, by rw [List.length_map], by simpa using hc, by unfold maxLen at hm; simpa using hm, fun i hi => ?_, hM⟩
  obtain ⟨b, off, ha, hb, hcs⟩ := hat i (by simpa using hi)
  have e := getD_map acL M ac0 i hi
  rw [e] at hcs
  refine ⟨b, off, ha, hb, ?_, ?_, ?_⟩
  · have := hcs 0 (show 0 < 3 by decide)
    rw [Nat.add_zero] at this
    exact this
  · have := hcs 1 (show 1 < 3 by decide)
    rw [← Nat.add_assoc] at this
    exact this
  · have := hcs 2 (show 2 < 3 by decide)
    rw [← Nat.add_assoc] at this
    exact this
theorem AcsIn.only {w w' : World} {a : Option Addr} {M : List AcM} {q : Nat} (h : AcsIn w a M) (ho : Only q w w') (hm : ∀ d t fz, w.heap[q]? ≠ some (.cells d t fz)) : AcsIn w' a M := fun i hi => by
  obtain ⟨b, h1, h2, c0, c1, c2⟩ := h i hi
  have hq : b ≠ q := fun e => by
    subst e
    cases hx : w.heap[b]? with
    | none => simp [World.cell?, hx] at c0
    | some o =>
      cases o
      case cells d t fz => exact hm _ _ _ hx
      all_goals simp [World.cell?, hx] at c0
  have hc := fun o => only_cell (o := o) ho h2 hq
  exact ⟨b, h1, Nat.lt_of_lt_of_le h2 ho.size, (hc _).trans c0, (hc _).trans c1, (hc _).trans c2⟩
theorem name_cases (s : ByteArray) : (40 < s.size ∧ (s.extract 0 40).size ≤ 40) ∨ s.size ≤ 40 := by
  by_cases h : 40 < s.size
  · refine Or.inl ⟨h, ?_⟩
    rw [ByteArray.size_extract]; omega
  · exact Or.inr (by omega)
set_option maxRecDepth 100000 in
set_option maxHeartbeats 1000000 in
theorem chartAdds_walk (a : Option Addr) (L : List AcM) (cap : Nat) (hcap : L.length ≤ cap) (h63 : L.length ≤ 9223372036854775807) (code : Int) (k0 : -9223372036854775808 ≤ code) (k1 : code ≤ 9223372036854775807) (w : World) (hin : InAcs w a L) (hok : ∀ x ∈ L, AcOk x) :
    Calls Try.prog 3 #[.slice a L.length cap, .int .i64 code] w fun e w' => e = .returned (.bool true) ∧ Below w.heap.size w w' := by
  obtain ⟨n, hn⟩ : ∃ n : Nat, min L.length 80 = n := ⟨_, rfl⟩
  have hmF : (if (80 : Int) < (L.length : Int) then (80 : Int) else (L.length : Int)) = (n : Int) := by split <;> omega
  have hmI : min (L.length : Int) 80 = (n : Int) := by omega
  have hn80 : n ≤ 80 := by omega
  have hnl : n ≤ L.length := by omega
  have hcI : (n : Int) ≤ (cap : Int) := by omega
  have HIN := hide hin
  have HOK := hide (fun j (h : j < L.length) => hok (L.getD j ac0) (by simp [List.getD, h]))
  have HCODE := hide (show in64 code from ⟨k0, k1⟩)
  clear hin hok hn k0 k1
  go_enter Try.func3, Try.ntmps3
  go_wp2_with fail
  refine (chNew _).mono ?_
  rintro e w1 ⟨p, bm, rfl, hc, hl1, hl2, hb⟩
  have C1 := hide hc
  have B1 := hide hb
  have HL := hide hl1
  clear hc hb hl1 hl2
  go_wp2_with fail
  refine (wakes21 _).mono ?_
  rintro e w2 ⟨rfl, hb⟩
  have C2 := hide (C1.out.below hb)
  have B2 := hide (B1.out.trans (hb.mono B1.out.size))
  clear hb C1 B1
  go_wp2_with fail
  go_loopw [6, 30] (fun l i W => ∃ (j : Nat) (M : List AcM) (g : Option Addr) (c4 : Nat), j ≤ n ∧ l = .slice g M.length c4 ∧ i = .int .i64 j ∧ ChartIs W p bm M ∧ AcsIn W g M ∧ RightA M ∧ Below w.heap.size w W) (fun _ i _ => n - (Go.RowKit.intOf i).toNat)
  case atStart => exact ⟨0, [], none, 0, by omega, rfl, rfl, C2.out, (fun i hi => absurd hi (Nat.not_lt_zero i)), (fun x hx => by cases hx), B2.out⟩
  case round =>
    obtain ⟨j, M, g, c4, hj, rfl, rfl, hc, ha, hr, hb⟩ := hrel
    have CM := hide hc
    have AM := hide ha
    have RM := hide hr
    have BM := hide hb
    clear hc ha hr hb C2 B2
    by_cases hlt : j < n
    · have HLT := hide hlt
      obtain ⟨b, off, rfl, hbl, p0, p1, p2⟩ := (HIN.out.keep BM.out) j (by omega)
      have hx := HOK.out j (by omega)
      generalize L.getD j ac0 = x at *
      obtain ⟨c, k, s0⟩ := x
      dsimp only at *
      obtain ⟨hx1, hx2, hx3⟩ := hx
      dsimp only at hx1 hx2 hx3
      have HX1 := hide hx1
      have HX2 := hide hx2
      clear hx1 hx2
      have hal := (Below.refl wr.heap.size wr).alloc (Nat.le_refl _) (.cells #[.int .i64 c, .int .u8 k, .string s0] 28)
      have X7 := hide (heap_new wr (.cells #[.int .i64 c, .int .u8 k, .string s0] 28))
      have C7 := hide (CM.out.below hal)
      have A7 := hide (AM.out.keep hal)
      have B7 := hide (BM.out.trans (hal.mono BM.out.size))
      have HQB := hide (show w.heap.size ≤ wr.heap.size from BM.out.size)
      have HQC := hide (show p < wr.heap.size ∧ bm < wr.heap.size from ⟨CM.out.lt.2, CM.out.lt.1⟩)
      have HQA := hide (show ∀ i, i < M.length → ∃ b, g = some ⟨b, 0, none⟩ ∧ b < wr.heap.size from fun i hi => by obtain ⟨b, h1, h2, -⟩ := AM.out i hi; exact ⟨b, h1, h2⟩)
      clear hal CM AM BM
      go_upto_region 8 with (fail)
      generalize wr.alloc (.cells #[.int .i64 c, .int .u8 k, .string s0] 28) = w7 at *
      generalize wr.heap.size = q at *
      clear p0 p1 p2 hbl
      go_cut [] from 34 to 41 (fun W => ∃ s : ByteArray, s.size ≤ 40 ∧ W.heap[q]? = some (.cells #[.int .i64 c, .int .u8 k, .string s] 28 (0, 0)) ∧ ChartIs W p bm M ∧ AcsIn W g M ∧ Below w.heap.size w W)
      case first =>
        have e2 : w7.cell? ⟨q, 2, none⟩ = some (.string s0) := cell_of_block X7.out 2
        have f2 : w7.frozen? ⟨q, 2, none⟩ = false := frozen_of_block X7.out 2
        have HK := hide (fun v => show (w7.setCell ⟨q, 2, none⟩ v).heap[q]? = some (.cells (#[.int .i64 c, .int .u8 k, .string s0].setIfInBounds 2 v) 28 (0, 0)) from block_setCell X7.out 2 v)
        have HC := hide (fun v => show ChartIs (w7.setCell ⟨q, 2, none⟩ v) p bm M from C7.out.kept (block_setCell_other (by have := HQC.out; omega) 2 v) (block_setCell_other (by have := HQC.out; omega) 2 v))
        have HA := hide (fun v => show AcsIn (w7.setCell ⟨q, 2, none⟩ v) g M from fun i hi => by
          obtain ⟨b, h1, h2, c0, c1, c2⟩ := A7.out i hi
          obtain ⟨b', h3, h4⟩ := HQA.out i hi
          rw [h1] at h3
          simp only [Option.some.injEq, Addr.mk.injEq, and_true] at h3
          subst h3
          have h5 : q ≠ b := fun e => by rw [e] at h4; exact Nat.lt_irrefl _ h4
          have hk : ∀ o, (w7.setCell ⟨q, 2, none⟩ v).cell? ⟨b, o, none⟩ = w7.cell? ⟨b, o, none⟩ := fun o => by
            unfold World.cell?
            rw [block_setCell_other h5 2 v]
          exact ⟨b, h1, by rw [World.size_setCell]; exact h2, (hk _).trans c0, (hk _).trans c1, (hk _).trans c2⟩)
        have HB := hide (fun v => show Below w.heap.size w (w7.setCell ⟨q, 2, none⟩ v) from B7.out.setCell (p := ⟨q, 2, none⟩) HQB.out v)
        clear C7 A7 B7 HQA
        go_wp2_with fail
        go_meet
        refine ⟨_, ?_, HK.out _, HC.out _, HA.out _, HB.out _⟩
        rw [ByteArray.size_extract]
        omega
      case rest =>
        obtain ⟨s, hs, hx, hc, ha, hb⟩ := hcut
        have XC := hide hx
        have CC := hide hc
        have AC := hide ha
        have BC := hide hb
        have HXO := hide (show AcOk ⟨c, k, s⟩ from ⟨HX1.out, HX2.out, by dsimp only; omega⟩)
        have HOF := hide (fun W => of_acc ⟨c, k, s⟩ W)
        have HR1 := hide (fun W => aright_any ⟨c, k, s⟩ HXO.out W)
        have HR2 := hide (fun W => rright_any ⟨c, k, s⟩ HXO.out W)
        have HAD := hide (fun W h => chadd_any p bm M ⟨c, k, s⟩ HXO.out W h)
        have HRA := hide (fun W h => radd_any M CC.out.few ⟨c, k, s⟩ HXO.out g c4 W h)
        have HRI := hide (show RightA (addM M ⟨c, k, s⟩) from addM_right RM.out)
        unfold RAddIs at HRA
        unfold acV at HOF HR1 HR2 HAD HRA
        dsimp only at HOF HR1 HR2 HAD HRA
        generalize rightB ⟨c, k, s⟩ = rb at *
        generalize addM M ⟨c, k, s⟩ = M2 at *
        generalize addE M ⟨c, k, s⟩ = ae at *
        clear hs hx hc ha hb X7 C7 A7 B7 HQA HQC HX1 HX2 hx3 HXO
        go_upto_region 9 with (fail)
        go_cut [47] from 42 to 47 (fun t W => t = .bool false ∧ W.heap[q]? = some (.cells #[.int .i64 c, .int .u8 k, .string s] 28 (0, 0)) ∧ ChartIs W p bm M ∧ AcsIn W g M ∧ Below w.heap.size w W)
        case first =>
          refine wp_region_held_drew (S := (fun W => W.heap[q]? = some (.cells #[.int .i64 c, .int .u8 k, .string s] 28 (0, 0)) ∧ ChartIs W p bm M ∧ AcsIn W g M ∧ Below w.heap.size w W)) (by kernel_rfl) (⟨XC.out, CC.out.drew, AC.out.keep ((Below.refl _ _).drew), BC.out.drew⟩) (fun hHeld => ?_)
          refine wpAnyH_take (i := 0) (oi := { dst := some 42, op := Op.load 28 (Operand.tmp 8), type := 28, pos := "law.go:56", after := #[], guard := none }) (v := ?_) rfl (by kernel_rfl) (by kernel_rfl) (by kernel_rfl) (fun _ _ _ h => h) (Or.inl ⟨by kernel_rfl, ?_⟩) hHeld ?_
          rotate_left
          · (intro w hSw; (try dsimp only at hSw); have e0 := cell_of_block hSw.1 0; have e1 := cell_of_block hSw.1 1; have e2 := cell_of_block hSw.1 2; go_simp); try with_reducible rfl
          try simp only [Act.put, List.setIfInBounds_toArray, List.set_cons_zero, List.set_cons_succ]
          refine wpAnyH_take (i := 3) (oi := { dst := some 45, op := Op.load 28 (Operand.tmp 8), type := 28, pos := "law.go:56", after := #[], guard := none }) (v := ?_) rfl (by kernel_rfl) (by kernel_rfl) (by kernel_rfl) (fun _ _ _ h => h) (Or.inl ⟨by kernel_rfl, ?_⟩) hHeld ?_
          rotate_left
          · (intro w hSw; (try dsimp only at hSw); have e0 := cell_of_block hSw.1 0; have e1 := cell_of_block hSw.1 1; have e2 := cell_of_block hSw.1 2; go_simp); try with_reducible rfl
          try simp only [Act.put, List.setIfInBounds_toArray, List.set_cons_zero, List.set_cons_succ]
          refine wpAnyH_ready (rs := [1]) (by kernel_rfl) (by simp) ?_
          refine AllReadyH.cons (o := { dst := some 43, op := Op.call { callee := Callee.value (Operand.func 8), args := #[Operand.tmp 42], argTypes := #[28] }, type := 31, pos := "law.go:56", after := #[{ on := 0, ground := Ground.data }], guard := none }) rfl (fun K hK => ?_) AllReadyH.nil
          have hOld := hide hHeld
          clear hHeld
          go_simp
          refine (HOF.out _).mono ?_
          rintro e v1 ⟨rfl, hbx⟩
          (try go_wp2_with fail)
          refine hK.out _ _ (⟨(hbx.block _ (heap_lt hOld.out.1)).trans hOld.out.1, hOld.out.2.1.below hbx, hOld.out.2.2.1.keep hbx, hOld.out.2.2.2.trans (hbx.mono hOld.out.2.2.2.size)⟩) (fun hHeld => ?_)
          clear hK K hOld
          try simp only [Act.put, List.setIfInBounds_toArray, List.set_cons_zero, List.set_cons_succ]
          refine wpAnyH_ready (rs := [2]) (by kernel_rfl) (by simp) ?_
          refine AllReadyH.cons (o := { dst := some 44, op := Op.call { callee := Callee.value (Operand.func 9), args := #[Operand.tmp 43], argTypes := #[31] }, type := 4, pos := "law.go:56", after := #[{ on := 1, ground := Ground.data }, { on := 1, ground := Ground.chain }], guard := none }) rfl (fun K hK => ?_) AllReadyH.nil
          have hOld := hide hHeld
          clear hHeld
          go_simp
          refine (HR1.out _).mono ?_
          rintro e v2 ⟨rfl, hbx⟩
          (try go_wp2_with fail)
          refine hK.out _ _ (⟨(hbx.block _ (heap_lt hOld.out.1)).trans hOld.out.1, hOld.out.2.1.below hbx, hOld.out.2.2.1.keep hbx, hOld.out.2.2.2.trans (hbx.mono hOld.out.2.2.2.size)⟩) (fun hHeld => ?_)
          clear hK K hOld
          try simp only [Act.put, List.setIfInBounds_toArray, List.set_cons_zero, List.set_cons_succ]
          refine wpAnyH_ready (rs := [4]) (by kernel_rfl) (by simp) ?_
          refine AllReadyH.cons (o := { dst := some 46, op := Op.call { callee := Callee.value (Operand.func 10), args := #[Operand.tmp 45], argTypes := #[34] }, type := 4, pos := "law.go:56", after := #[{ on := 3, ground := Ground.data }, { on := 2, ground := Ground.chain }], guard := none }) rfl (fun K hK => ?_) AllReadyH.nil
          have hOld := hide hHeld
          clear hHeld
          go_simp
          refine (HR2.out _).mono ?_
          rintro e v3 ⟨rfl, hbx⟩
          (try go_wp2_with fail)
          refine hK.out _ _ (⟨(hbx.block _ (heap_lt hOld.out.1)).trans hOld.out.1, hOld.out.2.1.below hbx, hOld.out.2.2.1.keep hbx, hOld.out.2.2.2.trans (hbx.mono hOld.out.2.2.2.size)⟩) (fun hHeld => ?_)
          clear hK K hOld
          try simp only [Act.put, List.setIfInBounds_toArray, List.set_cons_zero, List.set_cons_succ]
          refine wpAnyH_take (i := 5) (oi := { dst := some 47, op := Op.binOp BinOp.neq 4 (Operand.tmp 44) (Operand.tmp 46) 4, type := 4, pos := "law.go:56", after := #[{ on := 2, ground := Ground.data }, { on := 4, ground := Ground.data }], guard := none }) (v := ?_) rfl (by kernel_rfl) (by kernel_rfl) (by kernel_rfl) (fun _ _ _ h => h) (Or.inl ⟨by kernel_rfl, ?_⟩) hHeld ?_
          rotate_left
          · (intro w hSw; (try dsimp only at hSw); have e0 := cell_of_block hSw.1 0; have e1 := cell_of_block hSw.1 1; have e2 := cell_of_block hSw.1 2; go_simp); try with_reducible rfl
          try simp only [Act.put, List.setIfInBounds_toArray, List.set_cons_zero, List.set_cons_succ]
          refine wpAnyH_done (by kernel_rfl) ?_ _
          have HELD := hide hHeld
          clear hHeld
          go_wp2
          go_meet
          exact ⟨rfl, HELD.out⟩
        case rest =>
          obtain ⟨rfl, hx, hc, ha, hb⟩ := hcut
          have XD := hide hx
          have CD := hide hc
          have AD := hide ha
          have BD := hide hb
          clear hx hc ha hb XC CC AC BC HR1 HR2
          go_wp2_with fail
          refine (chcopy_any p bm M _ CD.out).mono ?_
          rintro e w5 ⟨p5, b5, rfl, hc5, hl5, hl6, hb5⟩
          have K5 := hide hc5
          have C5 := hide (CD.out.below hb5)
          have X5 := hide ((hb5.block _ (heap_lt XD.out)).trans XD.out)
          have A5 := hide (AD.out.keep hb5)
          have B5 := hide (BD.out.trans (hb5.mono BD.out.size))
          have HNE := hide (show p5 ≠ bm ∧ b5 ≠ bm from by have := CD.out.lt; omega)
          clear hc5 hl5 hl6 hb5 XD CD AD BD
          have e0 : w5.cell? ⟨q, 0, none⟩ = some (.int .i64 c) := cell_of_block X5.out 0
          have e1 : w5.cell? ⟨q, 1, none⟩ = some (.int .u8 k) := cell_of_block X5.out 1
          have e2 : w5.cell? ⟨q, 2, none⟩ = some (.string s) := cell_of_block X5.out 2
          go_wp2_with fail
          refine (HRA.out _ A5.out).mono ?_
          rintro e w6 ⟨g6, c6, rfl, ha6, hb6⟩
          have A6 := hide ha6
          have K6 := hide (K5.out.below hb6)
          have C6 := hide (C5.out.below hb6)
          have X6 := hide ((hb6.block _ (heap_lt X5.out)).trans X5.out)
          have M6 := hide (A5.out.keep hb6)
          have B6 := hide (B5.out.trans (hb6.mono B5.out.size))
          clear ha6 hb6 K5 C5 X5 A5 B5 e0 e1 e2 HRA
          have e0 : w6.cell? ⟨q, 0, none⟩ = some (.int .i64 c) := cell_of_block X6.out 0
          have e1 : w6.cell? ⟨q, 1, none⟩ = some (.int .u8 k) := cell_of_block X6.out 1
          have e2 : w6.cell? ⟨q, 2, none⟩ = some (.string s) := cell_of_block X6.out 2
          go_wp2_with fail
          refine (HOF.out _).mono ?_
          rintro e w7 ⟨rfl, hb7⟩
          have A7 := hide (A6.out.keep hb7)
          have K7 := hide (K6.out.below hb7)
          have C7 := hide (C6.out.below hb7)
          have M7 := hide (M6.out.keep hb7)
          have B7 := hide (B6.out.trans (hb7.mono B6.out.size))
          clear hb7 A6 K6 C6 M6 B6 X6 e0 e1 e2 HOF
          go_wp2_with fail
          refine (HAD.out _ C7.out).mono ?_
          rintro e w8 ⟨rfl, hc8, ho8⟩
          have C8 := hide hc8
          have A8 := hide (A7.out.only ho8 C7.out.noCells)
          have K8 := hide (K7.out.only ho8 HNE.out.1 HNE.out.2)
          have M8 := hide (M7.out.only ho8 C7.out.noCells)
          have B8 := hide (ho8.below B7.out HL.out B7.out.size)
          clear hc8 ho8 A7 K7 C7 M7 B7 HAD
          go_wp2_with fail
          refine (same_any p bm M2 g6 c6 _ C8.out A8.out).mono ?_
          rintro e w9 ⟨rfl, hb9⟩
          have C9 := hide (C8.out.below hb9)
          have A9 := hide (A8.out.keep hb9)
          have K9 := hide (K8.out.below hb9)
          have M9 := hide (M8.out.keep hb9)
          have B9 := hide (B8.out.trans (hb9.mono B8.out.size))
          clear hb9 C8 A8 K8 M8 B8
          go_wp2_with fail
          refine (same_any p5 b5 M g c4 _ K9.out M9.out).mono ?_
          rintro e wa ⟨rfl, hba⟩
          have Ca := hide (C9.out.below hba)
          have Aa := hide (A9.out.keep hba)
          have Ba := hide (B9.out.trans (hba.mono B9.out.size))
          clear hba C9 A9 K9 M9 B9
          go_wp2_with fail
          go_roundw
          case rel => exact ⟨j + 1, M2, g6, c6, HLT.out, rfl, by go_num, Ca.out, Aa.out, HRI.out, Ba.out⟩
          case measure => have := HLT.out; simp [Go.RowKit.intOf]; omega
    · obtain rfl : n = j := by omega
      clear hlt HIN HOK
      have HM64 := hide CM.out.few
      have HGE := hide (fun W h => chget_any p bm M code HCODE.out W h)
      have HTX := hide (fun W h => rchtext M RM.out CM.out.few g c4 W h)
      have HFD := hide (fun W h => rfind_any M (by have := CM.out.few; omega) g c4 code W h)
      have HFI := hide (show decide (0 ≤ findA M code) = (getA M code).isSome from by
        have := (findA_is M code).1
        rw [Bool.eq_iff_iff, decide_eq_true_eq]; exact this)
      have HBY := hide (fun W h => wf_bytes wr.heap.size wr.heap.size (chF M) W h)
      rw [if_neg (by rw [chF_ok RM.out CM.out.few]; decide)] at HBY
      obtain ⟨y, hy⟩ : ∃ y, getV M code = y := ⟨_, rfl⟩
      rw [hy] at HGE
      generalize (getA M code).isSome = is at *
      generalize findA M code = fa at *
      obtain ⟨yc, yk, ys⟩ := y
      unfold acV at HGE
      dsimp only at HGE
      clear hy
      have hal := (Below.refl wr.heap.size wr).alloc (Nat.le_refl _) (.cells #[.slice none 0 0, .bool false] 42)
      have W1 := hide (WF.new (w := wr) (B := wr.heap.size) (Nat.le_refl _))
      have HW1 := hide (fun W hW hb => chwrite_any p bm M RM.out wr.heap.size wr W CM.out hb hW (Nat.le_refl _))
      have LO1 := hide hal
      clear hal
      go_upto_region 18 with (fail)
      generalize wr.alloc (.cells #[.slice none 0 0, .bool false] 42) = w1 at *
      generalize hq : wr.heap.size = q at W1 HW1 HBY ⊢
      have HQ := hide hq
      clear hq
      go_wp2_with fail
      refine (HW1.out _ W1.out (by rw [← HQ.out]; exact HQ.out ▸ LO1.out)).mono ?_
      rintro e w2 ⟨rfl, hw, hb⟩
      have hb' : Below wr.heap.size wr w2 := by rw [HQ.out]; exact hb
      have W2 := hide hw
      have C2 := hide (CM.out.below hb')
      have A2 := hide (AM.out.keep hb')
      have B2 := hide (BM.out.trans (hb'.mono BM.out.size))
      clear hw hb hb' W1 HW1 LO1 CM AM BM
      go_wp2_with fail
      refine (chwrite_nil p bm M RM.out _ C2.out).mono ?_
      rintro e w3 ⟨rfl, hb⟩
      have W3 := hide (W2.out.below hb)
      have C3 := hide (C2.out.below hb)
      have A3 := hide (A2.out.keep hb)
      have B3 := hide (B2.out.trans (hb.mono B2.out.size))
      clear hb W2 C2 A2 B2
      go_wp2_with fail
      refine (HBY.out _ W3.out).mono ?_
      rintro e w4 ⟨rfl, rfl⟩
      clear W3 HBY
      go_wp2_with fail
      refine (HGE.out _ C3.out).mono ?_
      rintro e w5 ⟨rfl, hb⟩
      have hal := (Below.refl w5.heap.size w5).alloc (Nat.le_refl _) (.cells #[.int .i64 yc, .int .u8 yk, .string ys] 31)
      have hb2 := hb.trans (hal.mono hb.size)
      have A6 := hide (A3.out.keep hb2)
      have B6 := hide (B3.out.trans (hb2.mono B3.out.size))
      clear hal hb hb2 C3 A3 B3 HGE
      go_upto_region 22 with (fail)
      generalize w5.alloc (.cells #[.int .i64 yc, .int .u8 yk, .string ys] 31) = w6 at *
      go_wp2_with fail
      refine (HTX.out _ A6.out).mono ?_
      rintro e w7 ⟨rfl, hb⟩
      have A7 := hide (A6.out.keep hb)
      have B7 := hide (B6.out.trans (hb.mono B6.out.size))
      clear hb A6 B6 HTX
      go_wp2_with fail
      refine (HFD.out _ A7.out).mono ?_
      rintro e w8 ⟨rfl, rfl⟩
      have hfi : decide (0 ≤ fa) = is := HFI.out
      go_wp2_with fail
      go_ret
      exact ⟨by simp, B7.out⟩

set_option maxRecDepth 100000 in
theorem chartAdds_lifted (os : Os) (started : os.Started) (H : Type) (enc : TypeId × Value → H) :
    ReturnsInHanded {} Try.checked os 3 .any (Rows.chartAddsSpec.pre6 enc Try.prog Try.f3 Rows.chartAddsRow.domain false) (Rows.chartAddsSpec.post enc Try.prog Try.f3 false true false false) := by
  refine returnsInHanded_of_change (C := Try.checked) own started (by kernel_rfl) Try.func3
    (ChangeSpec.witness6 (enc := enc) (C := Try.checked) false ⟨#[], #[.slice none 0 0, .int .i64 0], []⟩ 8 (by kernel_rfl) (by kernel_rfl) (by kernel_rfl) (by kernel_rfl)) ?_
  intro W base args ds gs before hval0 hW _ _
  have hval : ∀ (j : Nat) t v, Try.f3.params[j]? = some t → args[j]? = some v → Value.okWide Try.prog W .any base t v := hval0
  have hW' := hW
  obtain ⟨p, q, hA0, hV, rfl, hfz, hnd⟩ := hW
  have hA : DataW.TrodAll enc Try.prog W 0 (fun _ => true) true Try.f3.params.toList args.toList ds p := hA0
  rw [Try.params3] at hA hval
  obtain ⟨v0, vs0, d0, ds0, p0, q0, hargs, rfl, rfl, h0, r0⟩ := trodAll_cons hA
  obtain ⟨v1, vs1, d1, ds1, p1, q1, rfl, rfl, rfl, h1, r1⟩ := trodAll_cons r0
  obtain ⟨rfl, rfl, rfl⟩ := trodAll_nil r1
  obtain rfl : args = #[v0, v1] := by cases args; simp_all
  obtain ⟨rfl, rfl⟩ := trodVars_none hV
  obtain ⟨a, L, cap, rfl, hc, h63, hin, hok⟩ := open_accts (hval 0 22 v0 rfl rfl) h0
  obtain ⟨code, rfl, rfl, rfl, w1⟩ := open_int Try.underlying3 (hval 1 3 v1 rfl rfl) h1
  have z1 := wf_i64 w1
  clear hA0 hval0
  refine (chartAdds_walk a L cap hc h63 code z1.1 z1.2 W hin hok).mono fun e W' ⟨he, hb⟩ => ?_
  subst he
  exact ⟨_, rfl, post_law laidOut (of_decide_eq_true (by kernel_rfl)) rfl rfl Try.underlying4 hW' ⟨rfl, rfl, rfl⟩ hb⟩

/-- THE STATEMENT -/
theorem chartAdds_holds : Rows.ChartAddsSaid :=
  OpenClaim.holds_of_wide 3 Try.f3 rfl rfl rfl rfl rfl rfl rfl ⟨rfl, rfl, rfl, rfl, rfl⟩ rfl rfl rfl rfl rfl (by kernel_rfl) Try.func3 (by kernel_rfl)
    (of_decide_eq_true (by kernel_rfl)) (by unfold Func.isWrapper; first | (rw [if_pos (by decide +kernel)]; kernel_rfl) | (rw [if_neg (by decide +kernel)]; exact ⟨rfl, rfl⟩))
    (fun os started H enc _ => chartAdds_lifted os started H enc)

end Go.Proofs.Ytehjhldijhoeeaa
