/-
  Layer 25: SaleNumbers: the numbers that are given are 1, 2 and so on, each once, and the kept ones are the last ones. No condition.
-/
import Derived.Test.YtbnbfnlfgmlcgaaSale8
--import Derived.Test.Zdbg
namespace Go.Proofs.Ytbnbfnlfgmlcgaa
set_option linter.unusedSimpArgs false
set_option linter.unusedVariables false
open Go.RowKit Go.WideShapes Go.ChangeShapes Go.ChangeAt Go.Deep

set_option maxRecDepth 100000 in
set_option maxHeartbeats 1000000 in
theorem saleNumbers_walk (v0 : Value) (keep : Int) (k0 : 0 ≤ keep) (k1 : keep ≤ 255) (W0 : World) (hz : ActsT W0 v0) :
    Calls Try.prog 6 #[v0, .int .u8 keep] W0 fun e w' => e = .returned (.bool true) ∧ Below W0.heap.size W0 w' := by
  obtain ⟨a, L, cap, rfl, hcap, h63, hin, hok⟩ := hz
  generalize W0 = w at *
  obtain ⟨n, hn⟩ : ∃ n : Nat, min L.length 40 = n := ⟨_, rfl⟩
  have hmF : (if (40 : Int) < (L.length : Int) then (40 : Int) else (L.length : Int)) = (n : Int) := by split <;> omega
  have hmI : min (L.length : Int) 40 = (n : Int) := by omega
  have hn9 : n ≤ 40 := by omega
  have hnl : n ≤ L.length := by omega
  have hcI : (n : Int) ≤ (cap : Int) := by omega
  obtain ⟨m, hm1, hm2, hm3⟩ : ∃ m : Int, keep.tmod 12 = m ∧ 0 ≤ m ∧ m ≤ 11 := ⟨_, rfl, by rw [Int.tmod_eq_emod_of_nonneg k0]; omega, by rw [Int.tmod_eq_emod_of_nonneg k0]; omega⟩
  have hmE : keep % 12 = m := by rw [← Int.tmod_eq_emod_of_nonneg k0]; exact hm1
  have HIN := hide hin
  have HOK := hide hok
  clear hin hok hn
  obtain ⟨q, hq⟩ : ∃ q, w.heap.size = q := ⟨_, rfl⟩
  have HQ := hide hq
  clear hq
  go_enter Try.func6, Try.ntmps6
  go_wp2_with fail
  refine (slnew_ok (1 + m) (by omega) (by omega) w).mono ?_
  rintro e w1 ⟨p, rfl, h, hb⟩
  rw [HQ.out] at h hb
  have R1 := hide h
  have B1 := hide hb
  clear h hb
  go_wp2_with fail
  refine (wakes25 w1).mono ?_
  rintro e w2 ⟨rfl, hb⟩
  have R2 := hide (R1.out.below hb)
  have B2 := hide (B1.out.trans (hb.mono (by have := heap_lt R1.out.head; have := R1.out.low; omega)))
  clear hb R1 B1
  go_wp2_with fail
  generalize hkp : 1 + m = kp at *
  have hkp1 : 1 ≤ kp := by omega
  have hkp2 : kp ≤ 12 := by omega
  clear hkp hm1 hmE hm2 hm3 hmF hmI
  go_loopw [8, 43] (fun g i W => ∃ (j gv : Nat) (v : Value) (T : List TxA), j ≤ n ∧ i = .int .i64 j ∧ g = .int .i64 gv ∧ gv ≤ j ∧ (T.length : Int) = min (gv : Int) kp ∧ RegAt W q p kp (gv + 1) v T ∧ Below q w W) (fun g i _ => n - (intOf i).toNat)
  case atStart => exact ⟨0, 0, _, [], by omega, rfl, rfl, by omega, by simp; omega, R2.out, B2.out⟩
  case round =>
    obtain ⟨j, gv, v, T, hj, rfl, rfl, hg, hlen, hr, hb⟩ := hrel
    have RG := hide hr
    have BW := hide hb
    have HLN := hide hlen
    clear hr hb R2 B2 hlen
    by_cases hlt : j < n
    · obtain ⟨b, off, rfl, hbl, c0, c1, c2, c3, c4⟩ := (HIN.out.below (show Below w.heap.size w wr by rw [HQ.out]; exact BW.out)) j (by omega)
      have HOX := hide (HOK.out (L.getD j actT0) (by have : j < L.length := by omega
                                                     simp [List.getD, this]))
      generalize L.getD j actT0 = x at *
      obtain ⟨xk, xs, xr, xa, xc⟩ := x
      dsimp only at *
      obtain ⟨ob, hob⟩ : ∃ ob, ob = (Obj.cells #[.int .u8 xk, .int .i64 xs, .int .i64 xr, .int .i64 xa, .int .i64 xc] 29) := ⟨_, rfl⟩
      have hal := (Below.refl wr.heap.size wr).alloc (Nat.le_refl _) ob
      have HSZ := hide (show q ≤ wr.heap.size by have := heap_lt RG.out.head; have := RG.out.low; omega)
      have X1 := hide (show (wr.alloc ob).heap[wr.heap.size]? = some (.cells #[.int .u8 xk, .int .i64 xs, .int .i64 xr, .int .i64 xa, .int .i64 xc] 29 (0, 0)) by rw [heap_new, hob])
      have RG1 := hide (RG.out.below hal)
      have BW1 := hide (BW.out.trans (hal.mono HSZ.out))
      go_upto_region 9 with (fail)
      rw [← hob]
      clear hal RG BW hbl c0 c1 c2 c3 c4
      have HSZ1 := hide (show q ≤ (wr.alloc ob).heap.size by have := heap_lt RG1.out.head; have := RG1.out.low; omega)
      generalize wr.alloc ob = w3 at *
      generalize wr.heap.size = q1 at *
      clear hob ob HSZ
      have d0 := cell_of_block X1.out 0
      have d1 := cell_of_block X1.out 1
      have d2 := cell_of_block X1.out 2
      have d3 := cell_of_block X1.out 3
      have d4 := cell_of_block X1.out 4
      have HTO := hide (ofTx_ok HOX.out.1 HOX.out.2.1 HOX.out.2.2.1 HOX.out.2.2.2.1 HOX.out.2.2.2.2)
      go_wp2_with fail
      refine (of_any xk xs xr xa xc w3).mono ?_
      rintro e w4 ⟨la, lc, lb, bc, rfl, hla, -, hb⟩
      have LA := hide (show LnT w4 la (ofTx xk xs xr xa xc).L from hla)
      have RG4 := hide (RG1.out.below hb)
      have BW4 := hide (BW1.out.trans (hb.mono HSZ1.out))
      clear hla hb RG1 BW1 X1 d0 d1 d2 d3 d4
      generalize ofTx xk xs xr xa xc = t at *
      unfold txV txC
      go_upto_region 10 with (fail)
      obtain ⟨oa, hoa⟩ : ∃ ob, ob = (Obj.cells #[.int .i64 t.num, .int .u8 t.kind, .int .i64 t.shift, .int .i64 t.ref, .int .i64 t.amt, .int .i64 t.left, .bool t.void, .slice la t.L.length lc] 35) := ⟨_, rfl⟩
      obtain ⟨oc, hoc⟩ : ∃ ob, ob = (Obj.cells #[.int .i64 0, .int .u8 xk, .int .i64 xs, .int .i64 xr, .int .i64 xa, .int .i64 0, .bool false, .slice lb (ofL xc).length bc] 38) := ⟨_, rfl⟩
      rw [← hoa, ← hoc]
      have al := (Below.refl w4.heap.size w4).alloc (Nat.le_refl _) oa
      have al2 := al.alloc (show w4.heap.size ≤ (w4.alloc oa).heap.size by simp) oc
      have X4 := hide (show ((w4.alloc oa).alloc oc).heap[w4.heap.size]? = some (.cells #[.int .i64 t.num, .int .u8 t.kind, .int .i64 t.shift, .int .i64 t.ref, .int .i64 t.amt, .int .i64 t.left, .bool t.void, .slice la t.L.length lc] 35 (0, 0)) by rw [heap_old _ _ _ (by simp), heap_new, hoa])
      have RG5 := hide (RG4.out.below al2)
      have LA5 := hide (LA.out.below al2)
      have BW5 := hide (BW4.out.trans (al2.mono (by have := heap_lt RG4.out.head; have := RG4.out.low; omega)))
      clear al al2 RG4 LA BW4
      generalize (w4.alloc oa).alloc oc = w5 at *
      generalize w4.heap.size = q4 at *
      clear hoa hoc oa oc HSZ1
      have d0 := cell_of_block X4.out 0
      have d1 := cell_of_block X4.out 1
      have d2 := cell_of_block X4.out 2
      have d3 := cell_of_block X4.out 3
      have d4 := cell_of_block X4.out 4
      have d5 := cell_of_block X4.out 5
      have d6 := cell_of_block X4.out 6
      have d7 := cell_of_block X4.out 7
      go_wp2_with fail
      refine (sladd_any q p kp (gv + 1) v T ⟨t, la, lc⟩ HTO.out w5 LA5.out RG5.out).mono ?_
      intro e w6 ha
      clear d0 d1 d2 d3 d4 d5 d6 d7 X4
      have HNS := hide (addM_nums (keep := kp) (t := t) RG5.out.nums hkp1)
      by_cases hE : addE (T.map (·.t)) (gv + 1) t = 0
      · obtain ⟨v', T', rfl, hr, hm, hb, -⟩ := add_says ha hE rfl (if_pos rfl) (if_pos rfl)
        obtain ⟨g2, hg2⟩ : ∃ g2 : Nat, (gv : Int) + 1 = g2 := ⟨gv + 1, by omega⟩
        have HLT := hide (show (T'.length : Int) = min (g2 : Int) kp by
          have h1 := HNS.out.2.1 hE
          rw [← hm, List.length_map, List.length_map] at h1
          have h2 := HLN.out
          omega)
        rw [hg2] at hr
        have RG6 := hide hr
        have BW6 := hide (BW5.out.trans hb)
        have HG2 := hide (show g2 ≤ j + 1 by omega)
        have HG3 := hide (show g2 ≤ 40 by omega)
        clear ha hr hm hb hE RG5 LA5 BW5 HNS
        go_wp2_with fail
        clear hg2
        refine (sllist_any q p kp (g2 + 1) v' T' w6 RG6.out).mono ?_
        rintro e w7 ⟨T6, a6, c6, hm6, rfl, ho, -, hb⟩
        have hl6 : T6.length = T'.length := by have := congrArg List.length hm6; simpa using this
        have RG7 := hide (RG6.out.below hb)
        have BW7 := hide (BW6.out.trans (hb.mono (by have := heap_lt RG6.out.head; have := RG6.out.low; omega)))
        rw [← hl6] at ho ⊢
        have OW7 := hide ho
        have HNM := hide (show ∀ i, i < T6.length → (g2 : Int) - (T6.length : Int) + 1 + (i : Int) = (T6.getD i ta0).t.num from fun i hi => by
          have h1 := RG6.out.nums i (by rw [List.length_map]; omega)
          rw [← hm6, List.length_map] at h1
          have h2 : (T6.map (·.t)).getD i tx0 = (T6.getD i ta0).t := by simp only [List.getD, List.getElem?_map, List.getElem?_eq_getElem hi]; rfl
          rw [h2] at h1
          omega)
        have HLI := hide (show (T6.length : Int) = min (g2 : Int) kp by rw [hl6]; exact HLT.out)
        generalize w6.heap.size = B6 at *
        have HLI' := hide HLT.out
        clear ho hb hm6 hl6 RG6 BW6 HLT
        go_wp2_with fail
        refine (slnext_any q p kp (g2 + 1) v' T' w7 RG7.out).mono ?_
        rintro e w8 ⟨rfl, rfl⟩
        obtain ⟨ln, hln⟩ : ∃ ln : Nat, T6.length = ln := ⟨_, rfl⟩
        have HLL := hide hln
        have hmF : (if kp < (g2 : Int) then kp else (g2 : Int)) = (ln : Int) := by have := HLI.out; split <;> omega
        have hmF2 : (if (g2 : Int) < kp then (g2 : Int) else kp) = (ln : Int) := by have := HLI.out; split <;> omega
        have hmI : min (g2 : Int) kp = (ln : Int) := by have := HLI.out; omega
        have hmI2 : min kp (g2 : Int) = (ln : Int) := by have := HLI.out; omega
        have hg40 := HG3.out
        have hln40 : ln ≤ 40 := by have := HLI.out; omega
        rw [hln]
        clear hln
        go_wp2_with fail
        clear hmF hmF2 hmI hmI2
        go_loopw [82] (fun z W => ∃ i : Nat, i ≤ ln ∧ z = .int .i64 i ∧ W.ownsRow B6 35 8 (.slice a6 ln c6) ln (T6.flatMap txC) ∧ RegAt W q p kp (g2 + 1) v' T' ∧ Below q w W) (fun z _ => ln - (intOf z).toNat)
        case atStart => exact ⟨0, by omega, rfl, by rw [← HLL.out]; exact OW7.out, RG7.out, BW7.out⟩
        case round =>
          obtain ⟨i, hi, rfl, ho, hr, hb⟩ := hrel
          have OW := hide ho
          have RG := hide hr
          have BW := hide hb
          clear ho hr hb OW7 RG7 BW7
          by_cases hlt2 : i < ln
          · obtain ⟨g, o, rfl, hg1, hg2, hcell, hfz⟩ := OffRow.rows txC txC_length ta0 (by rw [HLL.out]; exact OffRow.of_owns OW.out) HLL.out.symm (by decide) i (by rw [HLL.out]; exact hlt2)
            have hnm := HNM.out i (by rw [HLL.out]; exact hlt2)
            rw [HLL.out] at hnm
            have HC3 := hide hcell
            clear hcell hfz hg1 hg2
            generalize T6.getD i ta0 = y at *
            have c0 : wr.cell? ⟨g, o + i * 8, none⟩ = some (.int .i64 y.t.num) := HC3.out 0 (by decide)
            have c1 : wr.cell? ⟨g, o + i * 8 + 1, none⟩ = some (.int .u8 y.t.kind) := HC3.out 1 (by decide)
            have c2 : wr.cell? ⟨g, o + i * 8 + 2, none⟩ = some (.int .i64 y.t.shift) := HC3.out 2 (by decide)
            have c3 : wr.cell? ⟨g, o + i * 8 + 3, none⟩ = some (.int .i64 y.t.ref) := HC3.out 3 (by decide)
            have c4 : wr.cell? ⟨g, o + i * 8 + 4, none⟩ = some (.int .i64 y.t.amt) := HC3.out 4 (by decide)
            have c5 : wr.cell? ⟨g, o + i * 8 + 5, none⟩ = some (.int .i64 y.t.left) := HC3.out 5 (by decide)
            have c6' : wr.cell? ⟨g, o + i * 8 + 6, none⟩ = some (.bool y.t.void) := HC3.out 6 (by decide)
            have c7 : wr.cell? ⟨g, o + i * 8 + 7, none⟩ = some (.slice y.la y.t.L.length y.lc) := HC3.out 7 (by decide)
            obtain ⟨ob, hob⟩ : ∃ ob, ob = (Obj.cells #[.int .i64 y.t.num, .int .u8 y.t.kind, .int .i64 y.t.shift, .int .i64 y.t.ref, .int .i64 y.t.amt, .int .i64 y.t.left, .bool y.t.void, .slice y.la y.t.L.length y.lc] 35) := ⟨_, rfl⟩
            have hal := (Below.refl wr.heap.size wr).alloc (Nat.le_refl _) ob
            have X8 := hide (show (wr.alloc ob).heap[wr.heap.size]? = some (.cells #[.int .i64 y.t.num, .int .u8 y.t.kind, .int .i64 y.t.shift, .int .i64 y.t.ref, .int .i64 y.t.amt, .int .i64 y.t.left, .bool y.t.void, .slice y.la y.t.L.length y.lc] 35 (0, 0)) by rw [heap_new, hob])
            have OW8 := hide (owns_below OW.out hal)
            have RG8 := hide (RG.out.below hal)
            have BW8 := hide (BW.out.trans (hal.mono (by have := heap_lt RG.out.head; have := RG.out.low; omega)))
            go_upto_region 21 with (fail)
            rw [← hob]
            clear hal OW RG BW HC3 c0 c1 c2 c3 c4 c5 c6' c7
            generalize wr.alloc ob = v8 at *
            generalize wr.heap.size = q8 at *
            clear hob ob
            generalize y.t.num = ynum at *
            have x0 := cell_of_block X8.out 0
            go_wp2_with fail
            go_roundw
            case rel => exact ⟨i + 1, by omega, by go_num, OW8.out, RG8.out, BW8.out⟩
            case measure => simp [intOf]; omega
          · obtain rfl : i = ln := by omega
            go_wp2_with fail
            go_roundw
            case rel => exact ⟨j + 1, g2, v', T', by omega, by go_num, rfl, HG2.out, HLI'.out, RG.out, BW.out⟩
            case measure => simp [intOf]; omega
      · obtain ⟨v', T', rfl, hr, hm, hb, -⟩ := add_says ha rfl rfl (if_neg hE) (if_neg hE)
        obtain ⟨g2, hg2⟩ : ∃ g2 : Nat, gv = g2 := ⟨_, rfl⟩
        have HLT := hide (show (T'.length : Int) = min (g2 : Int) kp by
          have h1 := congrArg List.length (HNS.out.2.2 hE)
          rw [← hm, List.length_map, List.length_map] at h1
          have h2 := HLN.out
          omega)
        rw [hg2] at hr
        have RG6 := hide hr
        have BW6 := hide (BW5.out.trans hb)
        have HG2 := hide (show g2 ≤ j + 1 by omega)
        have HG3 := hide (show g2 ≤ 40 by omega)
        clear ha hr hm hb RG5 LA5 BW5 HNS
        generalize addE (T.map (·.t)) (gv + 1) t = er at *
        go_wp2_with fail
        try rw [hg2]
        clear hg2
        refine (sllist_any q p kp (g2 + 1) v' T' w6 RG6.out).mono ?_
        rintro e w7 ⟨T6, a6, c6, hm6, rfl, ho, -, hb⟩
        have hl6 : T6.length = T'.length := by have := congrArg List.length hm6; simpa using this
        have RG7 := hide (RG6.out.below hb)
        have BW7 := hide (BW6.out.trans (hb.mono (by have := heap_lt RG6.out.head; have := RG6.out.low; omega)))
        rw [← hl6] at ho ⊢
        have OW7 := hide ho
        have HNM := hide (show ∀ i, i < T6.length → (g2 : Int) - (T6.length : Int) + 1 + (i : Int) = (T6.getD i ta0).t.num from fun i hi => by
          have h1 := RG6.out.nums i (by rw [List.length_map]; omega)
          rw [← hm6, List.length_map] at h1
          have h2 : (T6.map (·.t)).getD i tx0 = (T6.getD i ta0).t := by simp only [List.getD, List.getElem?_map, List.getElem?_eq_getElem hi]; rfl
          rw [h2] at h1
          omega)
        have HLI := hide (show (T6.length : Int) = min (g2 : Int) kp by rw [hl6]; exact HLT.out)
        generalize w6.heap.size = B6 at *
        have HLI' := hide HLT.out
        clear ho hb hm6 hl6 RG6 BW6 HLT
        go_wp2_with fail
        refine (slnext_any q p kp (g2 + 1) v' T' w7 RG7.out).mono ?_
        rintro e w8 ⟨rfl, rfl⟩
        obtain ⟨ln, hln⟩ : ∃ ln : Nat, T6.length = ln := ⟨_, rfl⟩
        have HLL := hide hln
        have hmF : (if kp < (g2 : Int) then kp else (g2 : Int)) = (ln : Int) := by have := HLI.out; split <;> omega
        have hmF2 : (if (g2 : Int) < kp then (g2 : Int) else kp) = (ln : Int) := by have := HLI.out; split <;> omega
        have hmI : min (g2 : Int) kp = (ln : Int) := by have := HLI.out; omega
        have hmI2 : min kp (g2 : Int) = (ln : Int) := by have := HLI.out; omega
        have hg40 := HG3.out
        have hln40 : ln ≤ 40 := by have := HLI.out; omega
        rw [hln]
        clear hln
        go_wp2_with fail
        clear hmF hmF2 hmI hmI2
        go_loopw [82] (fun z W => ∃ i : Nat, i ≤ ln ∧ z = .int .i64 i ∧ W.ownsRow B6 35 8 (.slice a6 ln c6) ln (T6.flatMap txC) ∧ RegAt W q p kp (g2 + 1) v' T' ∧ Below q w W) (fun z _ => ln - (intOf z).toNat)
        case atStart => exact ⟨0, by omega, rfl, by rw [← HLL.out]; exact OW7.out, RG7.out, BW7.out⟩
        case round =>
          obtain ⟨i, hi, rfl, ho, hr, hb⟩ := hrel
          have OW := hide ho
          have RG := hide hr
          have BW := hide hb
          clear ho hr hb OW7 RG7 BW7
          by_cases hlt2 : i < ln
          · obtain ⟨g, o, rfl, hg1, hg2, hcell, hfz⟩ := OffRow.rows txC txC_length ta0 (by rw [HLL.out]; exact OffRow.of_owns OW.out) HLL.out.symm (by decide) i (by rw [HLL.out]; exact hlt2)
            have hnm := HNM.out i (by rw [HLL.out]; exact hlt2)
            rw [HLL.out] at hnm
            have HC3 := hide hcell
            clear hcell hfz hg1 hg2
            generalize T6.getD i ta0 = y at *
            have c0 : wr.cell? ⟨g, o + i * 8, none⟩ = some (.int .i64 y.t.num) := HC3.out 0 (by decide)
            have c1 : wr.cell? ⟨g, o + i * 8 + 1, none⟩ = some (.int .u8 y.t.kind) := HC3.out 1 (by decide)
            have c2 : wr.cell? ⟨g, o + i * 8 + 2, none⟩ = some (.int .i64 y.t.shift) := HC3.out 2 (by decide)
            have c3 : wr.cell? ⟨g, o + i * 8 + 3, none⟩ = some (.int .i64 y.t.ref) := HC3.out 3 (by decide)
            have c4 : wr.cell? ⟨g, o + i * 8 + 4, none⟩ = some (.int .i64 y.t.amt) := HC3.out 4 (by decide)
            have c5 : wr.cell? ⟨g, o + i * 8 + 5, none⟩ = some (.int .i64 y.t.left) := HC3.out 5 (by decide)
            have c6' : wr.cell? ⟨g, o + i * 8 + 6, none⟩ = some (.bool y.t.void) := HC3.out 6 (by decide)
            have c7 : wr.cell? ⟨g, o + i * 8 + 7, none⟩ = some (.slice y.la y.t.L.length y.lc) := HC3.out 7 (by decide)
            obtain ⟨ob, hob⟩ : ∃ ob, ob = (Obj.cells #[.int .i64 y.t.num, .int .u8 y.t.kind, .int .i64 y.t.shift, .int .i64 y.t.ref, .int .i64 y.t.amt, .int .i64 y.t.left, .bool y.t.void, .slice y.la y.t.L.length y.lc] 35) := ⟨_, rfl⟩
            have hal := (Below.refl wr.heap.size wr).alloc (Nat.le_refl _) ob
            have X8 := hide (show (wr.alloc ob).heap[wr.heap.size]? = some (.cells #[.int .i64 y.t.num, .int .u8 y.t.kind, .int .i64 y.t.shift, .int .i64 y.t.ref, .int .i64 y.t.amt, .int .i64 y.t.left, .bool y.t.void, .slice y.la y.t.L.length y.lc] 35 (0, 0)) by rw [heap_new, hob])
            have OW8 := hide (owns_below OW.out hal)
            have RG8 := hide (RG.out.below hal)
            have BW8 := hide (BW.out.trans (hal.mono (by have := heap_lt RG.out.head; have := RG.out.low; omega)))
            go_upto_region 21 with (fail)
            rw [← hob]
            clear hal OW RG BW HC3 c0 c1 c2 c3 c4 c5 c6' c7
            generalize wr.alloc ob = v8 at *
            generalize wr.heap.size = q8 at *
            clear hob ob
            generalize y.t.num = ynum at *
            have x0 := cell_of_block X8.out 0
            go_wp2_with fail
            go_roundw
            case rel => exact ⟨i + 1, by omega, by go_num, OW8.out, RG8.out, BW8.out⟩
            case measure => simp [intOf]; omega
          · obtain rfl : i = ln := by omega
            go_wp2_with fail
            go_roundw
            case rel => exact ⟨j + 1, g2, v', T', by omega, by go_num, rfl, HG2.out, HLI'.out, RG.out, BW.out⟩
            case measure => simp [intOf]; omega
    · obtain rfl : j = n := by omega
      go_wp2_with fail
      go_ret
      exact ⟨rfl, by rw [HQ.out]; exact BW.out⟩

set_option maxRecDepth 100000 in
set_option maxHeartbeats 1000000 in
theorem saleNumbers_lifted (os : Os) (started : os.Started) (H : Type) (enc : TypeId × Value → H) :
    ReturnsInHanded {} Try.checked os 6 .any (Rows.saleNumbersSpec.pre6 enc Try.prog Try.f6 Rows.saleNumbersRow.domain false) (Rows.saleNumbersSpec.post enc Try.prog Try.f6 false true false false) := by
  refine returnsInHanded_of_change (C := Try.checked) own started (by kernel_rfl) Try.func6
    (ChangeSpec.witness6 (enc := enc) (C := Try.checked) false ⟨#[], #[.slice none 0 0, .int .u8 0], []⟩ 8 (by kernel_rfl) (by kernel_rfl) (by kernel_rfl) (by kernel_rfl)) ?_
  intro W base args ds gs before hval0 hW _ _
  have hval : ∀ (j : Nat) t v, Try.f6.params[j]? = some t → args[j]? = some v → Value.okWide Try.prog W .any base t v := hval0
  have hW' := hW
  obtain ⟨p, q, hA0, hV, rfl, hfz, hnd⟩ := hW
  have hA : DataW.TrodAll enc Try.prog W 0 (fun _ => true) true Try.f6.params.toList args.toList ds p := hA0
  rw [Try.params6] at hA hval
  obtain ⟨v0, vs0, d0, ds0, p0, q0, hargs, rfl, rfl, h0, r0⟩ := trodAll_cons hA
  obtain ⟨v1, vs1, d1, ds1, p1, q1, rfl, rfl, rfl, h1, r1⟩ := trodAll_cons r0
  obtain ⟨rfl, rfl, rfl⟩ := trodAll_nil r1
  obtain rfl : args = #[v0, v1] := by cases args; simp_all
  obtain ⟨rfl, rfl⟩ := trodVars_none hV
  have z0 := open_actTs (hval 0 22 v0 rfl rfl) h0
  obtain ⟨keep, rfl, rfl, rfl, w1⟩ := open_int Try.underlying5 (hval 1 5 v1 rfl rfl) h1
  have z1 := wf_u8 w1
  clear hA0 hval0
  refine (saleNumbers_walk v0 keep z1.1 z1.2 W z0).mono fun e W' ⟨he, hb⟩ => ?_
  subst he
  exact ⟨_, rfl, post_law laidOut (of_decide_eq_true (by kernel_rfl)) rfl rfl Try.underlying4 hW' ⟨rfl, rfl, rfl⟩ hb⟩

/-- THE STATEMENT -/
theorem saleNumbers_holds : Rows.SaleNumbersSaid :=
  OpenClaim.holds_of_wide 6 Try.f6 rfl rfl rfl rfl rfl rfl rfl ⟨rfl, rfl, rfl, rfl, rfl⟩ rfl rfl rfl rfl rfl (by kernel_rfl) Try.func6 (by kernel_rfl)
    (of_decide_eq_true (by kernel_rfl)) (by unfold Func.isWrapper; first | (rw [if_pos (by decide +kernel)]; kernel_rfl) | (rw [if_neg (by decide +kernel)]; exact ⟨rfl, rfl⟩))
    (fun os started H enc _ => saleNumbers_lifted os started H enc)


end Go.Proofs.Ytbnbfnlfgmlcgaa
