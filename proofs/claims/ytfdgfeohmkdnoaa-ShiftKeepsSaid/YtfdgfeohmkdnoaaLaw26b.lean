/-
  Layer 26: ShiftKeeps: a closed shift's totals are what was added while it was open, and never change while it is kept. No condition.
-/
import Derived.Test.YtfdgfeohmkdnoaaShK
import Derived.Test.YtfdgfeohmkdnoaaShift3
import Derived.Deep.CutBlock
--import Derived.Test.Zdbg
namespace Go.Proofs.Ytfdgfeohmkdnoaa
set_option linter.unusedSimpArgs false
set_option linter.unusedVariables false
open Go.RowKit Go.WideShapes Go.ChangeShapes Go.ChangeAt Go.Deep

theorem neq_self (a b c d e f : Int) (w : World) : (binOp .neq 43 (.agg #[.int .i64 a, .int .i64 b, .int .i64 c, .int .i64 d, .int .i64 e, .int .i64 f]) (.agg #[.int .i64 a, .int .i64 b, .int .i64 c, .int .i64 d, .int .i64 e, .int .i64 f])).run Try.prog w = .ok (.bool false) w := by
  rw [run_neq_struct]
  have := eqF_six a b c d e f a b c d e f w
  unfold totA at this
  rw [this]
  simp
theorem guard_totn (x y : Operand) (a b : Array Value) (w : World) : (eqGuard .neq 43 x y (.agg a) (.agg b)).run Try.prog w = .ok () w := run_eqGuard_agg w .neq 43 x y a b (by kernel_rfl)
set_option maxRecDepth 100000 in
set_option maxHeartbeats 4000000 in
theorem shiftKeeps_walk (v0 : Value) (W0 : World) (hz : ActsS W0 v0) :
    Calls Try.prog 6 #[v0] W0 fun e w' => e = .returned (.bool true) ∧ Below W0.heap.size W0 w' := by
  obtain ⟨a, L, cap, rfl, hcap, h63, hin, hok⟩ := hz
  generalize W0 = w at *
  obtain ⟨n, hn⟩ : ∃ n : Nat, min L.length 60 = n := ⟨_, rfl⟩
  have hmF : (if (60 : Int) < (L.length : Int) then (60 : Int) else (L.length : Int)) = (n : Int) := by split <;> omega
  have hmI : min (L.length : Int) 60 = (n : Int) := by omega
  have hn9 : n ≤ 60 := by omega
  have hnl : n ≤ L.length := by omega
  have hcI : (n : Int) ≤ (cap : Int) := by omega
  have HIN := hide hin
  have HOK := hide hok
  clear hin hok hn
  obtain ⟨q, hq⟩ : ∃ q, w.heap.size = q := ⟨_, rfl⟩
  have HQ := hide hq
  clear hq
  have hmm := @run_makeMap Try.prog
  go_enter Try.func6, Try.ntmps6
  go_wp2_with fail
  refine (shnew_ok 6 (by omega) (by omega) w).mono ?_
  rintro e w1 ⟨rfl, h, hb⟩
  rw [HQ.out] at h hb ⊢
  have S1 := hide h
  have B1 := hide hb
  clear h hb
  obtain ⟨p, hp⟩ : ∃ p, q = p := ⟨_, rfl⟩
  have HPQ := hide hp
  rw [show ShIs w1 q q = ShIs w1 q p by rw [hp]] at S1
  simp only [show (Value.pointer (some ⟨q, 0, none⟩)) = Value.pointer (some ⟨p, 0, none⟩) by rw [hp]]
  clear hp
  go_wp2_with fail
  refine (wakes26 w1).mono ?_
  rintro e w2 ⟨rfl, hb⟩
  have S2 := hide (S1.out.below hb)
  have B2 := hide (B1.out.trans (hb.mono (by have := S1.out.lt; have := S1.out.low; omega)))
  clear hb S1 B1
  have hb3 := (Below.refl w2.heap.size w2).alloc (Nat.le_refl _) (.map #[] 0)
  have CL3 := hide (show ClAt (w2.alloc (.map #[] 0)) w2.heap.size 0 [] from ⟨_, 0, Nat.le_refl _, MapIs.made w2 Try.prog 3, fun x _ => by unfold clM; rw [if_neg (by simp; omega)]⟩)
  have S3 := hide (S2.out.below hb3)
  have HSZ2 := hide (show q ≤ w2.heap.size by have := S2.out.lt; have := S2.out.low; omega)
  have B3 := hide (B2.out.trans (hb3.mono HSZ2.out))
  clear hb3 S2 B2
  go_wp2_with fail
  generalize w2.alloc (.map #[] 0) = w3 at *
  obtain ⟨pm, hpm⟩ : ∃ k, w2.heap.size = k := ⟨_, rfl⟩
  rw [hpm] at CL3 HSZ2 ⊢
  have HQM := hide (show q ≤ pm from HSZ2.out)
  clear hmF hmI hpm HSZ2 hmm
  go_loopw [6, 7, 41] (fun s6 s7 i W => ∃ (j : Nat) (sm ct : Int) (M : ShM) (C : List TotM) (V : Value), j ≤ n ∧ s6 = .int .i64 sm ∧ s7 = .int .i64 ct ∧ i = .int .i64 j ∧ K26 M C sm ct j ∧ ShIs W q p M V ∧ ClAt W pm j C ∧ Below q w W) (fun _ _ i _ => n - (intOf i).toNat)
  case atStart => exact ⟨0, 0, 0, _, [], _, by omega, rfl, rfl, rfl, ⟨rfl, rfl, rfl, Nat.le_refl _, by omega, by omega, fun h => by cases h⟩, S3.out, CL3.out, B3.out⟩
  case round =>
    obtain ⟨j, sm, ct, M, C, V, hj, rfl, rfl, rfl, hk, hs, hc, hb⟩ := hrel
    have KK := hide hk
    have SS := hide hs
    have CC := hide hc
    have BW := hide hb
    clear hk hs hc hb S3 CL3 B3
    by_cases hlt : j < n
    · obtain ⟨b, off, rfl, hbl, c0, c1, c2⟩ := (HIN.out.below (show Below w.heap.size w wr by rw [HQ.out]; exact BW.out)) j (by omega)
      have HOX := hide (HOK.out (L.getD j actS0) (by have : j < L.length := by omega
                                                     simp [List.getD, this]))
      generalize L.getD j actS0 = x at *
      obtain ⟨xd, xk, xa⟩ := x
      dsimp only at *
      obtain ⟨ob, hob⟩ : ∃ ob, ob = (Obj.cells #[.int .i64 xd, .int .u8 xk, .int .i64 xa] 35) := ⟨_, rfl⟩
      have hal := (Below.refl wr.heap.size wr).alloc (Nat.le_refl _) ob
      have HSZ := hide (show q ≤ wr.heap.size by have := SS.out.lt; have := SS.out.low; omega)
      have X1 := hide (show (wr.alloc ob).heap[wr.heap.size]? = some (.cells #[.int .i64 xd, .int .u8 xk, .int .i64 xa] 35 (0, 0)) by rw [heap_new, hob])
      have S1 := hide (SS.out.below hal)
      have C1 := hide (CC.out.below hal)
      have B1 := hide (BW.out.trans (hal.mono HSZ.out))
      go_upto_region 9 with (fail)
      rw [← hob]
      clear hal SS CC BW hbl c0 c1 c2
      have HSZ1 := hide (show q ≤ (wr.alloc ob).heap.size by have := S1.out.lt; have := S1.out.low; omega)
      generalize wr.alloc ob = w4 at *
      generalize wr.heap.size = xb at *
      clear hob ob HSZ
      have d0 := cell_of_block X1.out 0
      have d1 := cell_of_block X1.out 1
      have d2 := cell_of_block X1.out 2
      obtain ⟨hd0, hk0, ha0⟩ := HOX.out
      dsimp only at hd0 hk0 ha0
      unfold inR at hd0 ha0
      obtain ⟨u, huF, huI, hu0⟩ : ∃ u : Int, (if 0 < xd then xd else 0) = u ∧ max 0 xd = u ∧ 0 ≤ u := ⟨max 0 xd, by split <;> omega, rfl, by omega⟩
      obtain ⟨r, hr1, hr2, hr3⟩ : ∃ r : Int, u.tmod 5 = r ∧ 0 ≤ r ∧ r ≤ 4 := ⟨_, rfl, by rw [Int.tmod_eq_emod_of_nonneg hu0]; omega, by rw [Int.tmod_eq_emod_of_nonneg hu0]; omega⟩
      have HJN := hide hlt
      go_upto_block 2 with (fail)
      clear huF huI hr1 hu0 hd0
      go_cut [6, 7] from 42 to 109 (fun s6 s7 W => ∃ (sm' ct' : Int) (M' : ShM) (C' : List TotM) (V' : Value), s6 = .int .i64 sm' ∧ s7 = .int .i64 ct' ∧ K26 M' C' sm' ct' (j + 1) ∧ ShIs W q p M' V' ∧ ClAt W pm (j + 1) C' ∧ Below q w W)
      case first =>
        by_cases r3 : r = 3
        · subst r3
          go_wp2_with fail
          refine (shstart_any q p M V w4 S1.out).mono ?_
          rintro e w5 ⟨rfl, hs5, hk5⟩
          have S5 := hide hs5
          have C5 := hide (C1.out.keepsT hk5.kt)
          have B5 := hide (hk5.base B1.out (fun z hz => by rw [List.mem_singleton.1 hz]; exact S1.out.low) HSZ1.out)
          clear hs5 hk5 S1 C1 B1 d0 d1 d2 X1
          by_cases hE : shStartE M = 0
          · have K5 := hide (KK.out.start hE)
            rw [hE]
            clear KK hE
            go_wp2_with fail
            go_meet
            exact ⟨0, 0, _, C, V, rfl, rfl, K5.out, S5.out, C5.out.mono, B5.out⟩
          · have hM := startM_no hE
            rw [hM] at S5
            have hEb : (shStartE M == 0) = false := beq_eq_false_iff_ne.mpr hE
            generalize shStartE M = er at *
            generalize shStartN M = nn at *
            have K5 := hide KK.out.mono
            clear hE hM KK
            go_wp2_with fail
            go_meet
            exact ⟨sm, ct, M, C, V, rfl, rfl, K5.out, S5.out, C5.out.mono, B5.out⟩
        by_cases r4 : r = 4
        · subst r4
          go_wp2_with fail
          refine (shend_any q p M V w4 HSZ1.out S1.out).mono ?_
          rintro e w5 ⟨V', he, hs5, hk5, -⟩
          have S5 := hide hs5
          have C5 := hide (C1.out.keepsT hk5.kt)
          have B5 := hide (hk5.base B1.out (fun z hz => by
            rcases List.mem_cons.1 hz with rfl | hz
            · exact S1.out.low
            · exact (S1.out.row.lt z (Option.mem_toList.1 hz)).1) HSZ1.out)
          have HW5 := hide (show q ≤ w5.heap.size by have := S5.out.lt; have := S5.out.low; omega)
          have HTO := hide S1.out.ok.now
          clear hs5 hk5 S1 C1 B1 d0 d1 d2 X1
          by_cases hE : shEndE M = 0
          · obtain ⟨hk5, hN, hT, hsm, hct⟩ := KK.out.ended hE
            have hsb := KK.out.smb
            have hlen := KK.out.len
            have K5 := hide hk5
            rw [hN, hT, hE] at he
            subst he
            generalize shEndM M = M5 at *
            generalize M.now = t at *
            obtain ⟨tc, ts, tv, tr, ti, tz⟩ := t
            dsimp only at hsm hct
            subst hsm
            have hct2 : tc = ct := hct.symm
            subst hct2
            have htok : sumOk ts ∧ sumOk tv ∧ sumOk tr ∧ sumOk ti ∧ sumOk tz := ⟨HTO.out.s, HTO.out.v, HTO.out.r, HTO.out.i, HTO.out.o⟩
            unfold sumOk at htok
            have hj61 : (j : Int) ≤ 60 := by omega
            have hw1 : wrap64 (ts + tv) = ts + tv := by unfold wrap64; omega
            have hw2 : wrap64 (ts + tv + tr) = ts + tv + tr := by unfold wrap64; omega
            have hw3 : wrap64 (ts + tv + tr + ti) = ts + tv + tr + ti := by unfold wrap64; omega
            have hw4 : wrap64 (ts + tv + tr + ti + tz) = ts + tv + tr + ti + tz := by unfold wrap64; omega
            have hv1 : IntKind.i64.wrap (ts + tv) = ts + tv := by rw [IntKind.wrap_i64]; omega
            have hv2 : IntKind.i64.wrap (ts + tv + tr) = ts + tv + tr := by rw [IntKind.wrap_i64]; omega
            have hv3 : IntKind.i64.wrap (ts + tv + tr + ti) = ts + tv + tr + ti := by rw [IntKind.wrap_i64]; omega
            have hv4 : IntKind.i64.wrap (ts + tv + tr + ti + tz) = ts + tv + tr + ti + tz := by rw [IntKind.wrap_i64]; omega
            have HKY := hide (key_num (a := (C.length : Int) + 1) (by unfold inR; omega))
            have HCL := hide (show C.length ≤ 60 by omega)
            clear htok hsb hE hN hT hlen KK HTO hk5
            unfold totV
            go_upto_region 19 with (fail)
            obtain ⟨oz, hoz⟩ : ∃ oz, oz = Obj.cells #[.int .i64 tc, .int .i64 ts, .int .i64 tv, .int .i64 tr, .int .i64 ti, .int .i64 tz] 43 := ⟨_, rfl⟩
            rw [← hoz]
            have hal := (Below.refl w5.heap.size w5).alloc (Nat.le_refl _) oz
            have XZ := hide (heap_new w5 oz)
            have S6 := hide (S5.out.below hal)
            have C6 := hide (C5.out.below hal)
            have B6 := hide (B5.out.trans (hal.mono HW5.out))
            have HW6 := hide (show q ≤ (w5.alloc oz).heap.size from by have := HW5.out; simp; omega)
            clear hal S5 C5 B5
            generalize w5.alloc oz = w6 at *
            generalize w5.heap.size = tb at *
            rw [hoz] at XZ
            clear hoz oz HW5
            obtain ⟨⟨g0, g1, g2, g3, g4, g5⟩, -⟩ := six_facts XZ.out
            obtain ⟨f, nf, hnf, hmf, hF⟩ := C6.out
            have HNF := hide hnf
            have HMF := hide hmf
            have HF := hide hF
            have hnone : f (.int .i64 ((C.length : Int) + 1)) = none := by rw [hF _ (by unfold inR; have := HCL.out; omega), clM_new]
            have HNO := hide hnone
            clear hnf hmf hF hnone
            go_wp2_with (refine wpList_mapStore _ rfl _ _ _ 82 rfl 3 43 Keyed_num Try.underlying82 pm nf C.length f rfl HMF.out (by have := HNF.out; unfold maxLen; omega) (.int .i64 ((C.length : Int) + 1)) (totV ⟨tc, ts, tv, tr, ti, tz⟩) (.int .i64 ((C.length : Int) + 1)) rfl rfl HKY.out (by trivial) ?_; intro w9 hm4 hg4; have HM4 := hide hm4; have HG4 := hide (only_of_grown hg4); clear hm4 hg4)
            go_meet
            refine ⟨_, _, M5, C ++ [TotM.mk tc ts tv tr ti tz], V', rfl, rfl, K5.out, S6.out.only HG4.out HMF.out.noCells, ?_, HG4.out.below B6.out HQM.out HW6.out⟩
            have hm := HM4.out
            rw [if_neg (by rw [HNO.out]; decide)] at hm
            refine ⟨_, nf + 1, by have := HNF.out; omega, by rw [List.length_append, List.length_singleton]; exact hm, fun x hx => ?_⟩
            rw [clM_next]
            by_cases e : x = (C.length : Int) + 1
            · rw [if_pos ((same_num x _).2 e), if_pos e]
            · rw [if_neg (fun h => e ((same_num x _).1 h)), if_neg e, HF.out x hx]
          · have hM := endM_no hE
            rw [hM] at S5
            have hEb : (shEndE M == 0) = false := beq_eq_false_iff_ne.mpr hE
            generalize shEndE M = er at *
            generalize shEndN M = nn at *
            generalize shEndT M = t at *
            subst he
            obtain ⟨tc, ts, tv, tr, ti, tz⟩ := t
            have K5 := hide KK.out.mono
            clear hE hM KK HTO
            unfold totV
            go_upto_region 19 with (fail)
            obtain ⟨oz, hoz⟩ : ∃ oz, oz = Obj.cells #[.int .i64 tc, .int .i64 ts, .int .i64 tv, .int .i64 tr, .int .i64 ti, .int .i64 tz] 43 := ⟨_, rfl⟩
            rw [← hoz]
            have hal := (Below.refl w5.heap.size w5).alloc (Nat.le_refl _) oz
            have S6 := hide (S5.out.below hal)
            have C6 := hide (C5.out.below hal)
            have B6 := hide (B5.out.trans (hal.mono HW5.out))
            clear hal S5 C5 B5
            generalize w5.alloc oz = w6 at *
            go_wp2_with fail
            go_meet
            exact ⟨sm, ct, M, C, V', rfl, rfl, K5.out, S6.out, C6.out.mono, B6.out⟩
        · obtain ⟨u2, hu2F, hu2I, hu20⟩ : ∃ u2 : Int, (if 0 < xa then xa else 0) = u2 ∧ max 0 xa = u2 ∧ 0 ≤ u2 := ⟨max 0 xa, by split <;> omega, rfl, by omega⟩
          obtain ⟨am, ham1, ham2⟩ : ∃ am : Int, u2.tmod 1099511627776 = am ∧ (0 ≤ am ∧ am < 1099511627776) := ⟨_, rfl, by rw [Int.tmod_eq_emod_of_nonneg hu20]; omega⟩
          obtain ⟨kk, hkk1, hkk2⟩ : ∃ kk : Int, xk.tmod 5 = kk ∧ (0 ≤ kk ∧ kk ≤ 4) := ⟨_, rfl, by rw [Int.tmod_eq_emod_of_nonneg hk0.1]; omega⟩
          have hwr : IntKind.u8.wrap (1 + kk) = 1 + kk := by
            have e : ∀ x : Int, 0 ≤ x ∧ x ≤ 255 → IntKind.u8.wrap x = x := fun x hx => by
              simp [IntKind.wrap, IntKind.signed, IntKind.bits]; omega
            exact e _ (by omega)
          have r3b : (r == 3) = false := beq_eq_false_iff_ne.mpr r3
          have r4b : (r == 4) = false := beq_eq_false_iff_ne.mpr r4
          have HAM := hide ham2
          have HKK := hide hkk2
          clear r3 r4 hr2 hr3 ha0 hk0
          go_wp2_with fail
          refine (shadd_any (1 + kk) am (by have := HKK.out; omega) (by have := HAM.out; unfold inR; omega) q p M V w4 S1.out).mono ?_
          rintro e w5 ⟨rfl, hs5, hk5⟩
          have S5 := hide hs5
          have C5 := hide (C1.out.keepsT hk5.kt)
          have B5 := hide (hk5.base B1.out (fun z hz => by rw [List.mem_singleton.1 hz]; exact S1.out.low) HSZ1.out)
          clear hs5 hk5 S1 C1 B1 d0 d1 d2 X1
          by_cases hE : shAddE M (1 + kk) am = 0
          · have K5 := hide (KK.out.added hE (by have := HKK.out; omega) HAM.out)
            have hsb := KK.out.smb
            have hcb := KK.out.ctb
            have hj61 : (j : Int) ≤ 60 := by omega
            have ham := HAM.out
            have hw1 : wrap64 (sm + am) = sm + am := by unfold wrap64; omega
            have hw2 : wrap64 (ct + 1) = ct + 1 := by unfold wrap64; omega
            have hv1 : IntKind.i64.wrap (sm + am) = sm + am := by rw [IntKind.wrap_i64]; omega
            have hv2 : IntKind.i64.wrap (ct + 1) = ct + 1 := by rw [IntKind.wrap_i64]; omega
            rw [hE]
            clear KK hE hsb hcb hj61 ham hu2F hu2I hu20 ham1 ham2 hkk1 hkk2 hwr
            go_wp2_with fail
            go_meet
            exact ⟨sm + am, ct + 1, _, C, V, rfl, rfl, K5.out, S5.out, C5.out.mono, B5.out⟩
          · have hM := addM_no hE
            rw [hM] at S5
            have hEb : (shAddE M (1 + kk) am == 0) = false := beq_eq_false_iff_ne.mpr hE
            generalize shAddE M (1 + kk) am = er at *
            have K5 := hide KK.out.mono
            clear hE hM KK hu2F hu2I hu20 ham1 ham2 hkk1 hkk2 hwr
            go_wp2_with fail
            go_meet
            exact ⟨sm, ct, M, C, V, rfl, rfl, K5.out, S5.out, C5.out.mono, B5.out⟩
      case rest =>
        obtain ⟨sm', ct', M', C', V', rfl, rfl, hk, hs, hc, hb⟩ := hcut
        have KK' := hide hk
        have S5 := hide hs
        have C5 := hide hc
        have B5 := hide hb
        clear hk hs hc hb S1 C1 B1 d0 d1 d2 X1 KK hr2 hr3 hk0 ha0
        obtain ⟨w5, rfl⟩ : ∃ w5 : World, w5 = wc := ⟨_, rfl⟩
        have HW5 := hide (show q ≤ w5.heap.size by have := S5.out.lt; have := S5.out.low; omega)
        obtain ⟨f, nf, hnf, hmf, hF⟩ := C5.out
        have HMF := hide hmf
        have HF := hide hF
        clear hnf hmf hF
        obtain ⟨rr, hrr⟩ : ∃ r, r = w5.heap.size := ⟨_, rfl⟩
        have HRQ := hide (show q ≤ rr by have := HW5.out; omega)
        have HRM := hide (show pm ≠ rr by have := HMF.out.lt; omega)
        go_wp2_with (at_range; refine wpList_mapRange _ rfl _ 82 rfl 3 43 Keyed_num Try.underlying82 pm nf C'.length f rfl HMF.out ?_; intro w6 left0 hrg hle hgr hsz; have RG0 := hide hrg; have G6 := hide hgr; clear hrg hle hgr hsz)
        go_frame
        rw [← hrr] at RG0 ⊢
        have BB6 : Below w5.heap.size w5 w6 := ⟨G6.out.os, G6.out.tape, G6.out.output, G6.out.size, fun j hj => G6.out.block j hj (by simp)⟩
        have S6 := hide (S5.out.below BB6)
        have C6 := hide (C5.out.below BB6)
        have B6 := hide (B5.out.trans (BB6.mono HW5.out))
        clear BB6 G6 S5 C5 B5 HMF HW5 hrr
        go_loopw [] (fun W => ∃ (left : Lit → Bool) (cnt : Nat), RgIs W Try.prog 3 pm rr cnt f left ∧ ShIs W q p M' V' ∧ ClAt W pm (j + 1) C' ∧ Below q w W) (fun W => W.rangeLeft pm rr)
        case atStart => exact ⟨left0, _, RG0.out, S6.out, C6.out, B6.out⟩
        case round =>
          obtain ⟨left, cnt, hrg, hs, hc, hb⟩ := hrel
          have RGI := hide hrg
          have SS := hide hs
          have CC := hide hc
          have BW := hide hb
          have HRL := hide hrg.rangeLeft
          clear hrg hs hc hb RG0 S6 C6 B6
          go_wp2_with (at_next; refine wpList_mapNext _ rfl _ rfl 3 .i64 Keyed_num Try.underlying3 pm rr cnt f left rfl RGI.out ?_ ?_)
          · intro hc0 hl0
            clear hc0 hl0
            go_wp2_with fail
            go_roundw
            case rel => exact ⟨j + 1, sm', ct', M', C', V', by have := HJN.out; omega, rfl, rfl, by go_num, KK'.out, SS.out, CC.out, BW.out⟩
            case measure => have := HJN.out; simp [intOf]; omega
          · intro x vx w7 cnt' hwx hlx hfx hrg1 hlt1 hg1 hs1 hen
            have hxi : inR x := wf_i64 hwx
            rw [HF.out x hxi] at hfx
            obtain ⟨hx1, hx2⟩ : (1 ≤ x ∧ x ≤ (C'.length : Int)) ∧ vx = totV (C'.getD (x - 1).toNat tot0) := by
              unfold clM at hfx
              split at hfx
              · next h => exact ⟨h, (Option.some.inj hfx).symm⟩
              · cases hfx
            subst hx2
            have ho := only_of_grown hg1
            have S7 := hide (SS.out.only ho RGI.out.noCells.1)
            have C7 := hide (CC.out.only ho HRM.out)
            have B7 := hide (ho.below BW.out HRQ.out (by have := SS.out.lt; have := SS.out.low; omega))
            have RI7 := hide hrg1
            have HLT := hide hlt1
            have HXI := hide hxi
            have HTD := hide (KK'.out.told hx1)
            generalize C'.getD (x - 1).toNat tot0 = t at *
            obtain ⟨tc, ts, tv, tr, ti, tz⟩ := t
            unfold totV at hen ⊢
            clear hfx hlx hwx hrg1 hlt1 hg1 hs1 ho SS CC BW RGI hxi
            go_upto_region 26 with (fail)
            clear hen
            obtain ⟨oz, hoz⟩ : ∃ oz, oz = Obj.cells #[.int .i64 tc, .int .i64 ts, .int .i64 tv, .int .i64 tr, .int .i64 ti, .int .i64 tz] 43 := ⟨_, rfl⟩
            rw [← hoz]
            have hal := (Below.refl w7.heap.size w7).alloc (Nat.le_refl _) oz
            have XZ := hide (heap_new w7 oz)
            have S8 := hide (S7.out.below hal)
            have C8 := hide (C7.out.below hal)
            have R8 := hide (RI7.out.below hal)
            have HW7 := hide (show q ≤ w7.heap.size by have := S7.out.lt; have := S7.out.low; omega)
            have B8 := hide (B7.out.trans (hal.mono HW7.out))
            clear hal S7 C7 B7 RI7 HW7
            generalize w7.alloc oz = w8 at *
            generalize w7.heap.size = tb at *
            rw [hoz] at XZ
            clear hoz oz
            go_wp2_with fail
            refine (shtot_any x HXI.out q p M' V' w8 S8.out).mono ?_
            rintro e w9 ⟨he, hb9⟩
            have S9 := hide (S8.out.below hb9)
            have C9 := hide (C8.out.below hb9)
            have R9 := hide (R8.out.below hb9)
            have X9 := hide ((hb9.block _ (heap_lt XZ.out)).trans XZ.out)
            have B9 := hide (B8.out.trans (hb9.mono (by have := S8.out.lt; have := S8.out.low; omega)))
            have HW9 := hide (show q ≤ w9.heap.size by have := S9.out.lt; have := S9.out.low; omega)
            clear hb9 S8 C8 B8 R8 XZ
            rcases HTD.out with hto | ⟨hto, h6⟩
            · rw [hto] at he
              simp only [Option.getD_some, Option.isSome_some] at he
              subst he
              unfold totV
              clear hto
              obtain ⟨oz, hoz⟩ : ∃ oz, oz = Obj.cells #[.int .i64 tc, .int .i64 ts, .int .i64 tv, .int .i64 tr, .int .i64 ti, .int .i64 tz] 43 := ⟨_, rfl⟩
              have hal := (Below.refl w9.heap.size w9).alloc (Nat.le_refl _) oz
              have XA := hide (heap_new w9 oz)
              have S10 := hide (S9.out.below hal)
              have C10 := hide (C9.out.below hal)
              have R10 := hide (R9.out.below hal)
              have X10 := hide ((hal.block _ (heap_lt X9.out)).trans X9.out)
              have B10 := hide (B9.out.trans (hal.mono HW9.out))
              clear hal
              go_upto_region 27 with (fail)
              rw [← hoz]
              generalize w9.alloc oz = w10 at *
              generalize w9.heap.size = ub at *
              rw [hoz] at XA
              clear hoz oz S9 C9 R9 X9 B9
              obtain ⟨⟨g0, g1, g2, g3, g4, g5⟩, -⟩ := six_facts X10.out
              obtain ⟨⟨h0, h1, h2, h3, h4, h5⟩, -⟩ := six_facts XA.out
              have hguard := guard_totn
              have heql := neq_self
              go_wp2_with fail
              go_roundw
              case rel => exact ⟨_, cnt', R10.out, S10.out, C10.out, B10.out⟩
              case measure => rw [R10.out.rangeLeft, HRL.out]; exact HLT.out
            · rw [hto] at he
              simp only [Option.getD_none, Option.isSome_none] at he
              subst he
              unfold totV tot0
              clear hto
              obtain ⟨oz, hoz⟩ : ∃ oz, oz = Obj.cells #[.int .i64 0, .int .i64 0, .int .i64 0, .int .i64 0, .int .i64 0, .int .i64 0] 43 := ⟨_, rfl⟩
              have hal := (Below.refl w9.heap.size w9).alloc (Nat.le_refl _) oz
              have S10 := hide (S9.out.below hal)
              have C10 := hide (C9.out.below hal)
              have R10 := hide (R9.out.below hal)
              have B10 := hide (B9.out.trans (hal.mono HW9.out))
              clear hal
              go_upto_region 27 with (fail)
              rw [← hoz]
              generalize w9.alloc oz = w10 at *
              clear hoz S9 C9 R9 X9 B9
              obtain ⟨f2, n2, -, hm2, -⟩ := C10.out
              have hlen := fun ty => hm2.len Try.underlying82 ty
              have hlt6 : ¬ (C'.length : Int) - x < 6 := by omega
              have hxr := HXI.out
              unfold inR at hxr
              have hlc : C'.length ≤ 61 := by have := KK'.out.len; omega
              have hw1 : wrap64 ((C'.length : Int) - x) = (C'.length : Int) - x := by unfold wrap64; omega
              have hv1 : IntKind.i64.wrap ((C'.length : Int) - x) = (C'.length : Int) - x := by rw [IntKind.wrap_i64]; omega
              clear hm2 hxr hlc
              go_wp2_with fail
              go_roundw
              case rel => exact ⟨_, cnt', R10.out, S10.out, C10.out, B10.out⟩
              case measure => rw [R10.out.rangeLeft, HRL.out]; exact HLT.out
    · go_wp2_with fail
      go_ret
      exact ⟨rfl, by rw [HQ.out]; exact BW.out⟩

set_option maxRecDepth 100000 in
theorem shiftKeeps_lifted (os : Os) (started : os.Started) (H : Type) (enc : TypeId × Value → H) :
    ReturnsInHanded {} Try.checked os 6 .any (Rows.shiftKeepsSpec.pre6 enc Try.prog Try.f6 Rows.shiftKeepsRow.domain false) (Rows.shiftKeepsSpec.post enc Try.prog Try.f6 false true false false) := by
  refine returnsInHanded_of_change (C := Try.checked) own started (by kernel_rfl) Try.func6
    (ChangeSpec.witness6 (enc := enc) (C := Try.checked) false ⟨#[], #[.slice none 0 0], []⟩ 8 (by kernel_rfl) (by kernel_rfl) (by kernel_rfl) (by kernel_rfl)) ?_
  intro W base args ds gs before hval0 hW _ _
  have hval : ∀ (j : Nat) t v, Try.f6.params[j]? = some t → args[j]? = some v → Value.okWide Try.prog W .any base t v := hval0
  have hW' := hW
  obtain ⟨p, q, hA0, hV, rfl, hfz, hnd⟩ := hW
  have hA : DataW.TrodAll enc Try.prog W 0 (fun _ => true) true Try.f6.params.toList args.toList ds p := hA0
  rw [Try.params6] at hA hval
  obtain ⟨v0, vs0, d0, ds0, p0, q0, hargs, rfl, rfl, h0, r0⟩ := trodAll_cons hA
  obtain ⟨rfl, rfl, rfl⟩ := trodAll_nil r0
  obtain rfl : args = #[v0] := by cases args; simp_all
  obtain ⟨rfl, rfl⟩ := trodVars_none hV
  have z0 := open_actSs (hval 0 22 v0 rfl rfl) h0
  clear hA0 hval0
  refine (shiftKeeps_walk v0 W z0).mono fun e W' ⟨he, hb⟩ => ?_
  subst he
  exact ⟨_, rfl, post_law laidOut (of_decide_eq_true (by kernel_rfl)) rfl rfl Try.underlying4 hW' ⟨rfl, rfl, rfl⟩ hb⟩

/-- THE STATEMENT -/
theorem shiftKeeps_holds : Rows.ShiftKeepsSaid :=
  OpenClaim.holds_of_wide 6 Try.f6 rfl rfl rfl rfl rfl rfl rfl ⟨rfl, rfl, rfl, rfl, rfl⟩ rfl rfl rfl rfl rfl (by kernel_rfl) Try.func6 (by kernel_rfl)
    (of_decide_eq_true (by kernel_rfl)) (by unfold Func.isWrapper; first | (rw [if_pos (by decide +kernel)]; kernel_rfl) | (rw [if_neg (by decide +kernel)]; exact ⟨rfl, rfl⟩))
    (fun os started H enc _ => shiftKeeps_lifted os started H enc)

end Go.Proofs.Ytfdgfeohmkdnoaa
