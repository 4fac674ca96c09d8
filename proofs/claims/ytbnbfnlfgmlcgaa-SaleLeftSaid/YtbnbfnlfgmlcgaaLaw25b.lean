/-
  Layer 25: SaleLeft: of no sale more is refunded than its amount, and of a void one nothing; what is left and what was refunded are the amount. No condition.
-/
import Derived.Test.YtbnbfnlfgmlcgaaSale9
--import Derived.Test.Zdbg
namespace Go.Proofs.Ytbnbfnlfgmlcgaa
set_option linter.unusedSimpArgs false
set_option linter.unusedVariables false
open Go.RowKit Go.WideShapes Go.ChangeShapes Go.ChangeAt Go.Deep

theorem MapsAt.only {w w' : World} {pa pb pv N r : Nat} {M : List TxM} (h : MapsAt w pa pb pv N M) (ho : Only r w w') (ha : pa ≠ r) (hb : pb ≠ r) (hv : pv ≠ r) : MapsAt w' pa pb pv N M := by
  obtain ⟨⟨f1, n1, c1, a1, a2, a3⟩, ⟨f2, n2, c2, b1, b2, b3⟩, ⟨f3, n3, c3, d1, d2, d3⟩, x1, x2, x3⟩ := h
  exact ⟨⟨f1, n1, c1, a1, a2.only ho ha, a3⟩, ⟨f2, n2, c2, b1, b2.only ho hb, b3⟩, ⟨f3, n3, c3, d1, d2.only ho hv, d3⟩, x1, x2, x3⟩
set_option maxRecDepth 100000 in
set_option maxHeartbeats 2000000 in
theorem saleLeft_walk (v0 : Value) (W0 : World) (hz : ActsT W0 v0) :
    Calls Try.prog 4 #[v0] W0 fun e w' => e = .returned (.bool true) ∧ Below W0.heap.size W0 w' := by
  obtain ⟨a, L, cap, rfl, hcap, h63, hin, hok⟩ := hz
  generalize W0 = w at *
  obtain ⟨n, hn⟩ : ∃ n : Nat, min L.length 50 = n := ⟨_, rfl⟩
  have hmF : (if (50 : Int) < (L.length : Int) then (50 : Int) else (L.length : Int)) = (n : Int) := by split <;> omega
  have hmI : min (L.length : Int) 50 = (n : Int) := by omega
  have hn9 : n ≤ 50 := by omega
  have hnl : n ≤ L.length := by omega
  have hcI : (n : Int) ≤ (cap : Int) := by omega
  have HIN := hide hin
  have HOK := hide hok
  clear hin hok hn
  obtain ⟨q, hq⟩ : ∃ q, w.heap.size = q := ⟨_, rfl⟩
  have HQ := hide hq
  clear hq
  have hmm := @run_makeMap Try.prog
  go_enter Try.func4, Try.ntmps4
  go_wp2_with fail
  refine (slnew_ok 50 (by omega) (by omega) w).mono ?_
  rintro e w1 ⟨p, rfl, h, hb⟩
  rw [HQ.out] at h hb
  have R1 := hide h
  have B1 := hide hb
  clear h hb
  go_wp2_with fail
  refine (wakes25 w1).mono ?_
  rintro e w2 ⟨rfl, hb⟩
  have R2 := hide (R1.out.below hb)
  have B2 := hide (B1.out.trans (hb.mono (by have := heap_lt R1.out.head; have := R1.out.low; omega)))
  clear hb R1 B1
  have hmk := maps_made w2
  have MP0 := hide hmk.1
  have R3 := hide (R2.out.below hmk.2)
  have B3 := hide (B2.out.trans (hmk.2.mono (by have := heap_lt R2.out.head; have := R2.out.low; omega)))
  have HSZ2 := hide (show q ≤ w2.heap.size by have := heap_lt R2.out.head; have := R2.out.low; omega)
  clear hmk R2 B2
  go_wp2_with fail
  generalize ((w2.alloc (.map #[] 0)).alloc (.map #[] 0)).alloc (.map #[] 0) = w3 at *
  obtain ⟨pa, hpa⟩ : ∃ k, w2.heap.size = k := ⟨_, rfl⟩
  obtain ⟨pb, hpb⟩ : ∃ k, pa + 1 = k := ⟨_, rfl⟩
  obtain ⟨pv, hpv⟩ : ∃ k, pb + 1 = k := ⟨_, rfl⟩
  rw [hpa] at MP0 HSZ2 ⊢
  rw [hpb] at MP0 ⊢
  rw [hpv] at MP0 ⊢
  have HQAM := hide (show q ≤ pa from HSZ2.out)
  have HQBK := hide (show q ≤ pb by have := HSZ2.out; omega)
  have HQVD := hide (show q ≤ pv by have := HSZ2.out; omega)
  clear hmF hmI hpa hpb hpv HSZ2 hmm
  go_loopw [41] (fun i W => ∃ (j : Nat) (v : Value) (T : List TxA), j ≤ n ∧ i = .int .i64 j ∧ T.length ≤ j ∧ RegAt W q p 50 (T.length + 1) v T ∧ MapsAt W pa pb pv j (T.map (·.t)) ∧ Below q w W) (fun i _ => n - (intOf i).toNat)
  case atStart => exact ⟨0, _, [], by omega, rfl, Nat.le_refl _, R3.out, MP0.out, B3.out⟩
  case round =>
    obtain ⟨j, v, T, hj, rfl, hlen, hr, hm, hb⟩ := hrel
    have RG := hide hr
    have MP := hide hm
    have BW := hide hb
    have HLN := hide hlen
    clear hr hm hb R3 MP0 B3 hlen
    by_cases hlt : j < n
    · obtain ⟨b, off, rfl, hbl, c0, c1, c2, c3, c4⟩ := (HIN.out.below (show Below w.heap.size w wr by rw [HQ.out]; exact BW.out)) j (by omega)
      have HOX := hide (HOK.out (L.getD j actT0) (by have : j < L.length := by omega
                                                     simp [List.getD, this]))
      generalize L.getD j actT0 = x at *
      obtain ⟨xk, xs, xr, xa, xc⟩ := x
      dsimp only at *
      obtain ⟨ob, hob⟩ : ∃ ob, ob = (Obj.cells #[.int .u8 xk, .int .i64 xs, .int .i64 xr, .int .i64 xa, .int .i64 xc] 29) := ⟨_, rfl⟩
      have hal := (Below.refl wr.heap.size wr).alloc (Nat.le_refl _) ob
      have HSZ := hide (show q ≤ wr.heap.size by have := heap_lt RG.out.head; have := RG.out.low; omega)
      have X1 := hide (show (wr.alloc ob).heap[wr.heap.size]? = some (.cells #[.int .u8 xk, .int .i64 xs, .int .i64 xr, .int .i64 xa, .int .i64 xc] 29 (0, 0)) by rw [heap_new, hob])
      have RG1 := hide (RG.out.below hal)
      have MP1 := hide (MP.out.below hal)
      have BW1 := hide (BW.out.trans (hal.mono HSZ.out))
      go_upto_region 9 with (fail)
      rw [← hob]
      clear hal RG BW MP hbl c0 c1 c2 c3 c4
      have HSZ1 := hide (show q ≤ (wr.alloc ob).heap.size by have := heap_lt RG1.out.head; have := RG1.out.low; omega)
      generalize wr.alloc ob = w3 at *
      generalize wr.heap.size = q1 at *
      clear hob ob HSZ
      have d0 := cell_of_block X1.out 0
      have d1 := cell_of_block X1.out 1
      have d2 := cell_of_block X1.out 2
      have d3 := cell_of_block X1.out 3
      have d4 := cell_of_block X1.out 4
      have HTO := hide (ofTx_ok HOX.out.1 HOX.out.2.1 HOX.out.2.2.1 HOX.out.2.2.2.1 HOX.out.2.2.2.2)
      go_wp2_with fail
      refine (of_any xk xs xr xa xc w3).mono ?_
      rintro e w4 ⟨la, lc, lb, bc, rfl, hla, -, hb⟩
      have LA := hide (show LnT w4 la (ofTx xk xs xr xa xc).L from hla)
      have RG4 := hide (RG1.out.below hb)
      have MP4 := hide (MP1.out.below hb)
      have BW4 := hide (BW1.out.trans (hb.mono HSZ1.out))
      clear hla hb RG1 BW1 MP1 X1 d0 d1 d2 d3 d4
      generalize ofTx xk xs xr xa xc = t at *
      unfold txV txC
      go_upto_region 10 with (fail)
      obtain ⟨oa, hoa⟩ : ∃ ob, ob = (Obj.cells #[.int .i64 t.num, .int .u8 t.kind, .int .i64 t.shift, .int .i64 t.ref, .int .i64 t.amt, .int .i64 t.left, .bool t.void, .slice la t.L.length lc] 35) := ⟨_, rfl⟩
      obtain ⟨oc, hoc⟩ : ∃ ob, ob = (Obj.cells #[.int .i64 0, .int .u8 xk, .int .i64 xs, .int .i64 xr, .int .i64 xa, .int .i64 0, .bool false, .slice lb (ofL xc).length bc] 38) := ⟨_, rfl⟩
      rw [← hoa, ← hoc]
      have al := (Below.refl w4.heap.size w4).alloc (Nat.le_refl _) oa
      have al2 := al.alloc (show w4.heap.size ≤ (w4.alloc oa).heap.size by simp) oc
      have X4 := hide (show ((w4.alloc oa).alloc oc).heap[w4.heap.size]? = some (.cells #[.int .i64 t.num, .int .u8 t.kind, .int .i64 t.shift, .int .i64 t.ref, .int .i64 t.amt, .int .i64 t.left, .bool t.void, .slice la t.L.length lc] 35 (0, 0)) by rw [heap_old _ _ _ (by simp), heap_new, hoa])
      have RG5 := hide (RG4.out.below al2)
      have MP5 := hide (MP4.out.below al2)
      have LA5 := hide (LA.out.below al2)
      have BW5 := hide (BW4.out.trans (al2.mono (by have := heap_lt RG4.out.head; have := RG4.out.low; omega)))
      have HNQ := hide (show w4.heap.size ∉ p :: v.ownBlock.toList from fun hm => by
        rcases List.mem_cons.1 hm with e | e
        · have := heap_lt RG4.out.head; omega
        · have := (RG4.out.row.lt _ (Option.mem_toList.1 e)).2; omega)
      clear al al2 RG4 LA BW4 MP4
      generalize (w4.alloc oa).alloc oc = w5 at *
      generalize w4.heap.size = q4 at *
      clear hoa hoc oa oc HSZ1
      have d0 := cell_of_block X4.out 0
      have d1 := cell_of_block X4.out 1
      have d2 := cell_of_block X4.out 2
      have d3 := cell_of_block X4.out 3
      have d4 := cell_of_block X4.out 4
      have d5 := cell_of_block X4.out 5
      have d6 := cell_of_block X4.out 6
      have d7 := cell_of_block X4.out 7
      go_wp2_with fail
      refine (sladd_only (p :: v.ownBlock.toList) q p 50 (T.length + 1) v T ⟨t, la, lc⟩ HTO.out w5 LA5.out RG5.out (by simp) (fun k hk => by simp [hk])).mono ?_
      intro e w6 ha
      clear d0 d1 d2 d3 d4 d5 d6 d7
      have hl0 := HLN.out
      have HNS := hide (addM_nums (keep := 50) (t := t) RG5.out.nums (by omega))
      have RK := hide RG5.out.ok
      by_cases hE : addE (T.map (·.t)) (T.length + 1) t = 0
      · have hM := addM_all (keep := 50) hE (by rw [List.length_map]; omega)
        obtain ⟨v', T', rfl, hr, hm, hb, ho⟩ := add_saysO (er := 0) (n := T.length + 1) (nx := T.length + 1 + 1) ha hE hM rfl rfl
        have HLT := hide (show (T'.length : Int) = (T.length : Int) + 1 by
          have h1 := HNS.out.2.1 hE
          rw [← hM] at hm
          rw [← hm, List.length_map, List.length_map] at h1
          omega)
        have RG := hide (show RegAt w6 q p 50 ((T.length : Int) + 1 + 1) v' T' from hr)
        have XB := hide ((ho.ol.block _ (heap_lt X4.out) HNQ.out).trans X4.out)
        have MP := hide (MP5.out.keepsT ho.kt)
        have BW := hide (BW5.out.trans hb)
        have HTM := hide (show T'.map (·.t) = turnsT (T.map (·.t)) (((T.map (·.t)).length : Int) + 1) t ++ [newT (((T.map (·.t)).length : Int) + 1) t] by rw [List.length_map]; exact hm)
        obtain ⟨M1, hM1⟩ : ∃ M1, M1 = turnsT (T.map (·.t)) (((T.map (·.t)).length : Int) + 1) t ++ [newT (((T.map (·.t)).length : Int) + 1) t] := ⟨_, rfl⟩
        rw [← hM1] at HTM
        have HM' := hide hM1
        have HRF := hide (show inR t.ref from HTO.out.ref)
        have HAI := hide (amt_in (addE_right hE).1)
        have HEE := hide (show addE (T.map (·.t)) (((T.map (·.t)).length : Int) + 1) t = 0 by rw [List.length_map]; exact hE)
        clear ha hr hm hb ho hM hM1 RG5 LA5 BW5 MP5 X4 HNQ HNS hE
        have e1 := cell_of_block XB.out 1
        by_cases hk1 : t.kind = 1
        · have HL := hide (show ∀ k, (amM M1 k = if k = (T.length : Int) + 1 then some (.int .i64 t.amt) else amM (T.map (·.t)) k) ∧ bkM M1 k = bkM (T.map (·.t)) k ∧ vdM M1 k = vdM (T.map (·.t)) k from fun k => by
            have h := left_sale HEE.out HM'.out hk1 k
            rw [List.length_map] at h
            exact h)
          have e4 := cell_of_block XB.out 4
          have HKY := hide (key_num (a := (T.length : Int) + 1) (by unfold inR; omega))
          have hr0 : T.length ≤ 50 := by omega
          obtain ⟨f1, n1, c1, hn1, hm1, hF1⟩ := MP.out.am
          have HN := hide hn1
          have HM := hide hm1
          have HF := hide hF1
          clear hn1 hm1 hF1
          go_wp2_with (refine wpList_mapStore _ rfl _ _ _ 72 rfl 3 2 Keyed_num Try.underlying72 pa n1 c1 f1 rfl HM.out (by have := HN.out; unfold maxLen; omega) (.int .i64 ((T.length : Int) + 1)) (.int .i64 t.amt) (.int .i64 ((T.length : Int) + 1)) rfl rfl HKY.out (by trivial) ?_; intro w9 hm4 hg4; have HM4 := hide hm4; have HG4 := hide (only_of_grown hg4); clear hm4 hg4)
          have RG9 := hide (RG.out.only HG4.out HM.out.noCells)
          have BW9 := hide (HG4.out.below BW.out HQAM.out (by have := heap_lt RG.out.head; have := RG.out.low; omega))
          have MP9 := hide (MP.out.putA HF.out HN.out HM4.out HG4.out HL.out)
          go_roundw
          case rel => exact ⟨j + 1, v', T', by omega, by go_num, by have := HLT.out; omega, by rw [HLT.out]; exact RG9.out, by rw [HTM.out]; exact MP9.out, BW9.out⟩
          case measure => simp [intOf]; omega
        by_cases hk2 : t.kind = 2
        · obtain ⟨hv0, hb0, hL⟩ := left_void HEE.out HM'.out hk2
          have HL := hide hL
          clear hL
          have e3 := cell_of_block XB.out 3
          have hlV := MP.out.lookV HRF.out
          have hlB := MP.out.lookB HRF.out
          rw [hv0] at hlV
          rw [hb0] at hlB
          have HKY := hide (key_num (a := t.ref) HRF.out)
          obtain ⟨f3, n3, c3, hn3, hm3, hF3⟩ := MP.out.vd
          have HN := hide hn3
          have HM := hide hm3
          have HF := hide hF3
          clear hn3 hm3 hF3
          go_wp2_with (refine wpList_mapStore _ rfl _ _ _ 73 rfl 3 4 Keyed_num Try.underlying73 pv n3 c3 f3 rfl HM.out (by have := HN.out; unfold maxLen; omega) (.int .i64 t.ref) (.bool true) (.int .i64 t.ref) rfl rfl HKY.out (by trivial) ?_; intro w9 hm4 hg4; have HM4 := hide hm4; have HG4 := hide (only_of_grown hg4); clear hm4 hg4)
          have RG9 := hide (RG.out.only HG4.out HM.out.noCells)
          have BW9 := hide (HG4.out.below BW.out HQVD.out (by have := heap_lt RG.out.head; have := RG.out.low; omega))
          have MP9 := hide (MP.out.putV HF.out HN.out HM4.out HG4.out HL.out)
          go_roundw
          case rel => exact ⟨j + 1, v', T', by omega, by go_num, by have := HLT.out; omega, by rw [HLT.out]; exact RG9.out, by rw [HTM.out]; exact MP9.out, BW9.out⟩
          case measure => simp [intOf]; omega
        by_cases hk3 : t.kind = 3
        · obtain ⟨hv0, ⟨A, hA, hle, hA0, hA1⟩, hL⟩ := left_refund RK.out HEE.out HM'.out hk3
          have HL := hide hL
          clear hL
          have e3 := cell_of_block XB.out 3
          have e4 := cell_of_block XB.out 4
          have hlV := MP.out.lookV HRF.out
          have hlB := MP.out.lookB HRF.out
          have hlA := MP.out.lookA HRF.out hA
          rw [hv0] at hlV
          have hbi := bkM_in RK.out t.ref
          have hai := HAI.out
          generalize hbk : bkM (T.map (·.t)) t.ref = bk at *
          have HBK := hide hbk
          clear hbk
          have hw1 : wrap64 (A - bk) = A - bk := by unfold wrap64; omega
          have hgt : ¬ A - bk < t.amt := by omega
          have hw2 : wrap64 (bk + t.amt) = bk + t.amt := by unfold wrap64; omega
          have HKY := hide (key_num (a := t.ref) HRF.out)
          obtain ⟨f2, n2, c2, hn2, hm2, hF2⟩ := MP.out.bk
          have HN := hide hn2
          have HM := hide hm2
          have HF := hide hF2
          clear hn2 hm2 hF2
          go_wp2_with (refine wpList_mapStore _ rfl _ _ _ 72 rfl 3 2 Keyed_num Try.underlying72 pb n2 c2 f2 rfl HM.out (by have := HN.out; unfold maxLen; omega) (.int .i64 t.ref) (.int .i64 (bk + t.amt)) (.int .i64 t.ref) rfl rfl HKY.out (by trivial) ?_; intro w9 hm4 hg4; have HM4 := hide hm4; have HG4 := hide (only_of_grown hg4); clear hm4 hg4)
          have RG9 := hide (RG.out.only HG4.out HM.out.noCells)
          have BW9 := hide (HG4.out.below BW.out HQBK.out (by have := heap_lt RG.out.head; have := RG.out.low; omega))
          have MP9 := hide (MP.out.putB HF.out HN.out HM4.out HG4.out HL.out)
          go_roundw
          case rel => exact ⟨j + 1, v', T', by omega, by go_num, by have := HLT.out; omega, by rw [HLT.out]; exact RG9.out, by rw [HTM.out]; exact MP9.out, BW9.out⟩
          case measure => simp [intOf]; omega
        · have MP9 := hide (MP.out.same (left_other HEE.out HM'.out hk1 hk2 hk3))
          go_wp2_with fail
          go_roundw
          case rel => exact ⟨j + 1, v', T', by omega, by go_num, by have := HLT.out; omega, by rw [HLT.out]; exact RG.out, by rw [HTM.out]; exact MP9.out.mono (Nat.le_succ j), BW.out⟩
          case measure => simp [intOf]; omega
      · obtain ⟨v', T', rfl, hr, hm, hb, ho⟩ := add_saysO ha rfl rfl (if_neg hE) (if_neg hE)
        have hm2 : T'.map (·.t) = T.map (·.t) := hm.trans (HNS.out.2.2 hE)
        have hlT : T'.length = T.length := by have := congrArg List.length hm2; simpa using this
        have RG6 := hide hr
        have MP6 := hide (MP5.out.keepsT ho.kt)
        have BW6 := hide (BW5.out.trans hb)
        have HTL := hide hlT
        have HTM := hide hm2
        clear ha hr hm hb ho hm2 hlT RG5 LA5 BW5 MP5 X4 HNQ HNS
        have hE0 : addE (T.map (·.t)) (T.length + 1) t ≠ 0 := hE
        generalize addE (T.map (·.t)) (T.length + 1) t = er at *
        go_wp2_with fail
        go_roundw
        case rel => exact ⟨j + 1, v', T', by omega, by go_num, by rw [HTL.out]; omega, by rw [HTL.out]; exact RG6.out, by rw [HTM.out]; exact MP6.out.mono (Nat.le_succ j), BW6.out⟩
        case measure => simp [intOf]; omega
    · obtain rfl : j = n := by omega
      obtain ⟨fA, nA, cA, hnA, hmA, hFA⟩ := MP.out.am
      have HMA := hide hmA
      have HFA := hide hFA
      clear hnA hmA hFA
      have HWQ := hide (show q ≤ wr.heap.size by have := heap_lt RG.out.head; have := RG.out.low; omega)
      obtain ⟨r, hr⟩ : ∃ r, r = wr.heap.size := ⟨_, rfl⟩
      have HRQ := hide (show q ≤ r by have := HWQ.out; omega)
      have HRA := hide (show pa ≠ r by have := HMA.out.lt; omega)
      have HRB := hide (show pb ≠ r by obtain ⟨_, _, _, _, h, _⟩ := MP.out.bk; have := h.lt; omega)
      have HRV := hide (show pv ≠ r by obtain ⟨_, _, _, _, h, _⟩ := MP.out.vd; have := h.lt; omega)
      go_wp2_with (at_range; refine wpList_mapRange _ rfl _ 72 rfl 3 2 Keyed_num Try.underlying72 pa nA cA fA rfl HMA.out ?_; intro w5 left0 hrg hle hgr hsz; have RG0 := hide hrg; have G5 := hide hgr; clear hrg hle hgr hsz)
      go_frame
      rw [← hr] at RG0 ⊢
      have BB5 : Below wr.heap.size wr w5 := ⟨G5.out.os, G5.out.tape, G5.out.output, G5.out.size, fun j hj => G5.out.block j hj (by simp)⟩
      have R5 := hide (RG.out.below BB5)
      have M5 := hide (MP.out.below BB5)
      have B5 := hide (BW.out.trans (BB5.mono HWQ.out))
      clear BB5 G5 RG MP BW HMA HWQ hr
      go_loopw [] (fun W => ∃ (left : Lit → Bool) (cnt : Nat), RgIs W Try.prog 3 pa r cnt fA left ∧ RegAt W q p 50 (T.length + 1) v T ∧ MapsAt W pa pb pv j (T.map (·.t)) ∧ Below q w W) (fun W => W.rangeLeft pa r)
      case atStart => exact ⟨left0, cA, RG0.out, R5.out, M5.out, B5.out⟩
      case round =>
        obtain ⟨left, cnt, hrg, hr5, hm5, hb5⟩ := hrel
        have RGI := hide hrg
        have RG := hide hr5
        have MP := hide hm5
        have BW := hide hb5
        have HRL := hide hrg.rangeLeft
        clear hrg hr5 hm5 hb5 RG0 R5 M5 B5
        go_wp2_with (at_next; refine wpList_mapNext _ rfl _ rfl 3 .i64 Keyed_num Try.underlying3 pa r cnt fA left rfl RGI.out ?_ ?_)
        · intro hc0 hl0
          clear hc0 hl0
          go_wp2_with fail
          go_ret
          exact ⟨rfl, by rw [HQ.out]; exact BW.out⟩
        · intro x vx w1 cnt' hwx hlx hfx hrg1 hlt1 hg1 hs1 hen
          have hxi : inR x := wf_i64 hwx
          rw [HFA.out x hxi] at hfx
          obtain ⟨s, hs, rfl⟩ : ∃ s, saleOf (T.map (·.t)) x = some s ∧ vx = .int .i64 s.amt := by
            unfold amM at hfx
            cases h : saleOf (T.map (·.t)) x with
            | none => rw [h] at hfx; cases hfx
            | some s => rw [h] at hfx; exact ⟨s, rfl, (Option.some.inj hfx).symm⟩
          have ho := only_of_grown hg1
          have R1 := hide (RG.out.only ho RGI.out.noCells.1)
          have M1 := hide (MP.out.only ho HRA.out HRB.out HRV.out)
          have B1 := hide (ho.below BW.out HRQ.out (by have := heap_lt RG.out.head; have := RG.out.low; omega))
          have RI1 := hide hrg1
          have HLT := hide hlt1
          have HXI := hide hxi
          obtain ⟨g1, g2, g3, g4, g5⟩ := sale_left RG.out.ok hs
          obtain ⟨k1, k2, -, -, -, k3⟩ := saleOf_at hs
          rw [List.length_map] at k1 k3
          have HFT := hide k3
          have HSE := hide (show (T.getD (x - 1).toNat ta0).t = s by
            rw [← k2]
            simp only [List.getD, List.getElem?_map, List.getElem?_eq_getElem k1]
            rfl)
          have G1 := hide g1
          have G2 := hide g2
          have G3 := hide g3
          have G4 := hide g4
          have G5 := hide g5
          clear g1 g2 g3 g4 g5 k1 k2 k3 hfx hlx hwx hrg1 hlt1 hg1 hs1 ho hs RG MP BW RGI
          go_wp2_with fail
          clear hen
          refine (slget_any q p 50 (T.length + 1) v T x HXI.out w1 R1.out).mono ?_
          intro e w2 hg
          rcases hg with ⟨hn, -, -⟩ | ⟨i, a', c', hf, hi, rfl, -, hb⟩
          · rw [HFT.out] at hn; cases hn
          obtain rfl : i = (x - 1).toNat := by
            rw [HFT.out] at hf
            exact (Option.some.inj hf).symm
          rw [HSE.out]
          have HW1 := hide (show q ≤ w1.heap.size by have := heap_lt R1.out.head; have := R1.out.low; omega)
          have R2 := hide (R1.out.below hb)
          have M2 := hide (M1.out.below hb)
          have B2 := hide (B1.out.trans (hb.mono HW1.out))
          have RI2 := hide (RI1.out.below hb)
          clear hf hi hb R1 M1 B1 RI1 HW1
          unfold txV txC
          go_upto_region 28 with (fail)
          obtain ⟨ob, hob⟩ : ∃ ob, ob = (Obj.cells #[.int .i64 s.num, .int .u8 s.kind, .int .i64 s.shift, .int .i64 s.ref, .int .i64 s.amt, .int .i64 s.left, .bool s.void, .slice a' s.L.length c'] 35) := ⟨_, rfl⟩
          rw [← hob]
          have hal := (Below.refl w2.heap.size w2).alloc (Nat.le_refl _) ob
          have X3 := hide (show (w2.alloc ob).heap[w2.heap.size]? = some (.cells #[.int .i64 s.num, .int .u8 s.kind, .int .i64 s.shift, .int .i64 s.ref, .int .i64 s.amt, .int .i64 s.left, .bool s.void, .slice a' s.L.length c'] 35 (0, 0)) by rw [heap_new, hob])
          have R3 := hide (R2.out.below hal)
          have M3 := hide (M2.out.below hal)
          have B3 := hide (B2.out.trans (hal.mono (by have := heap_lt R2.out.head; have := R2.out.low; omega)))
          have RI3 := hide (RI2.out.below hal)
          clear hal R2 M2 B2 RI2
          generalize w2.alloc ob = w3 at *
          generalize w2.heap.size = q3 at *
          clear hob ob
          have d5 := cell_of_block X3.out 5
          have d6 := cell_of_block X3.out 6
          have hlV := M3.out.lookV HXI.out
          have hlB := M3.out.lookB HXI.out
          rw [G1.out] at hlV
          have g4 := G4.out
          have g5 := G5.out
          cases hv : s.void with
          | false =>
            have g2 := G2.out hv
            rw [hv] at hlV d6
            generalize bkM (T.map (·.t)) x = bk at *
            have hw : wrap64 (s.amt - bk) = s.amt - bk := by unfold wrap64; omega
            clear hv G1 G2 G3 G4 G5
            go_wp2_with fail
            go_roundw
            case rel => exact ⟨_, cnt', RI3.out, R3.out, M3.out, B3.out⟩
            case measure => rw [RI3.out.rangeLeft, HRL.out]; exact HLT.out
          | true =>
            have g3 := G3.out hv
            rw [hv] at hlV d6
            rw [g3] at d5
            clear hv G1 G2 G3 G4 G5
            go_wp2_with fail
            go_roundw
            case rel => exact ⟨_, cnt', RI3.out, R3.out, M3.out, B3.out⟩
            case measure => rw [RI3.out.rangeLeft, HRL.out]; exact HLT.out

set_option maxRecDepth 100000 in
set_option maxHeartbeats 1000000 in
theorem saleLeft_lifted (os : Os) (started : os.Started) (H : Type) (enc : TypeId × Value → H) :
    ReturnsInHanded {} Try.checked os 4 .any (Rows.saleLeftSpec.pre6 enc Try.prog Try.f4 Rows.saleLeftRow.domain false) (Rows.saleLeftSpec.post enc Try.prog Try.f4 false true false false) := by
  refine returnsInHanded_of_change (C := Try.checked) own started (by kernel_rfl) Try.func4
    (ChangeSpec.witness6 (enc := enc) (C := Try.checked) false ⟨#[], #[.slice none 0 0], []⟩ 8 (by kernel_rfl) (by kernel_rfl) (by kernel_rfl) (by kernel_rfl)) ?_
  intro W base args ds gs before hval0 hW _ _
  have hval : ∀ (j : Nat) t v, Try.f4.params[j]? = some t → args[j]? = some v → Value.okWide Try.prog W .any base t v := hval0
  have hW' := hW
  obtain ⟨p, q, hA0, hV, rfl, hfz, hnd⟩ := hW
  have hA : DataW.TrodAll enc Try.prog W 0 (fun _ => true) true Try.f4.params.toList args.toList ds p := hA0
  rw [Try.params4] at hA hval
  obtain ⟨v0, vs0, d0, ds0, p0, q0, hargs, rfl, rfl, h0, r0⟩ := trodAll_cons hA
  obtain ⟨rfl, rfl, rfl⟩ := trodAll_nil r0
  obtain rfl : args = #[v0] := by cases args; simp_all
  obtain ⟨rfl, rfl⟩ := trodVars_none hV
  have z0 := open_actTs (hval 0 22 v0 rfl rfl) h0
  clear hA0 hval0
  refine (saleLeft_walk v0 W z0).mono fun e W' ⟨he, hb⟩ => ?_
  subst he
  exact ⟨_, rfl, post_law laidOut (of_decide_eq_true (by kernel_rfl)) rfl rfl Try.underlying4 hW' ⟨rfl, rfl, rfl⟩ hb⟩

/-- THE STATEMENT -/
theorem saleLeft_holds : Rows.SaleLeftSaid :=
  OpenClaim.holds_of_wide 4 Try.f4 rfl rfl rfl rfl rfl rfl rfl ⟨rfl, rfl, rfl, rfl, rfl⟩ rfl rfl rfl rfl rfl (by kernel_rfl) Try.func4 (by kernel_rfl)
    (of_decide_eq_true (by kernel_rfl)) (by unfold Func.isWrapper; first | (rw [if_pos (by decide +kernel)]; kernel_rfl) | (rw [if_neg (by decide +kernel)]; exact ⟨rfl, rfl⟩))
    (fun os started H enc _ => saleLeft_lifted os started H enc)


end Go.Proofs.Ytbnbfnlfgmlcgaa
