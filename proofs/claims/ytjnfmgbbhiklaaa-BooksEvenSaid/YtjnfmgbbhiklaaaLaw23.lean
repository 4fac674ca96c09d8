/-
  BooksEven: books to which only even postings were applied have as much on the one side as on the other; a posting and its contra one leave them as they were. No condition.
-/
import Derived.Test.YtjnfmgbbhiklaaaBooks8
--import Derived.Test.Zdbg
namespace Go.Proofs.Ytjnfmgbbhiklaaa
set_option linter.unusedSimpArgs false
set_option linter.unusedVariables false
open Go.RowKit Go.WideShapes Go.ChangeShapes Go.ChangeAt Go.Deep
theorem w64_in {n : Int} (h : -9223372036854775808 ≤ n ∧ n ≤ 9223372036854775807) : wrap64 n = n := by unfold wrap64; omega
theorem evp_next (l : List LnM) (j : Nat) (h : j < l.length) : (l.take (j + 1)).map evL = (l.take j).map evL ++ [evL (l.getD j ln0)] := by
  rw [ln_next l j h, List.map_append]; rfl
set_option maxRecDepth 100000 in
set_option maxHeartbeats 1000000 in
theorem booksEven_walk (v0 : Value) (W0 : World) (hz : ∃ (a : Option Addr) (LL : List (Option Addr × Nat × List LnM)) (cap : Nat), v0 = .slice a LL.length cap ∧ LL.length ≤ cap ∧ LL.length ≤ 9223372036854775807 ∧ InLL W0 a LL) :
    Calls Try.prog 4 #[v0] W0 fun e w' => e = .returned (.bool true) ∧ Below W0.heap.size W0 w' := by
  obtain ⟨a, LL, cap, rfl, hcap, h63, hin⟩ := hz
  generalize W0 = w at *
  obtain ⟨i0, hi, hz0, hz1, hz2⟩ := info_parts (show (Try.prog.info? 56).map (fun i => (i.zero, i.size, i.bytes)) = some (some (.agg #[.int .i64 0, .int .i64 0]), 2, 16) by kernel_rfl)
  have HI := hide hi
  have HZ0 := hide hz0
  have HZ1 := hide hz1
  have HZ2 := hide hz2
  obtain ⟨n, hn⟩ : ∃ n : Nat, min LL.length 20 = n := ⟨_, rfl⟩
  have hmF : (if (20 : Int) < (LL.length : Int) then (20 : Int) else (LL.length : Int)) = (n : Int) := by split <;> omega
  have hmI : min (LL.length : Int) 20 = (n : Int) := by omega
  have hn9 : n ≤ 20 := by omega
  have hnl : n ≤ LL.length := by omega
  have hcI : (n : Int) ≤ (cap : Int) := by omega
  have HIN := hide hin
  clear hi hz0 hz1 hz2 hin hn
  go_enter Try.func4, Try.ntmps4
  go_wp2_with fail
  refine (bkNew w).mono ?_
  rintro e w1 ⟨p, bm, rfl, hbk, hbm, hp, hb⟩
  have BK1 := hide hbk
  have HBM := hide hbm
  have HP := hide hp
  have B1 := hide hb
  clear hbk hbm hp hb
  go_wp2_with fail
  refine (wakes23 w1).mono ?_
  rintro e w2 ⟨rfl, hb⟩
  have BK2 := hide (BK1.out.below hb)
  have B2 := hide (B1.out.trans (hb.mono B1.out.size))
  clear hb BK1 B1
  go_wp2_with fail
  go_loopw [31] (fun i W => ∃ (k : Nat) (M : List LnM), k ≤ n ∧ i = .int .i64 k ∧ SmallB k M ∧ BooksIs (24 * k) W p bm M ∧ Below w.heap.size w W) (fun i _ => n - (intOf i).toNat)
  case atStart => exact ⟨0, [], by omega, rfl, SmallB.none, BK2.out.mono (Nat.zero_le _), B2.out⟩
  case round =>
    obtain ⟨k, M, hk, rfl, hsm, hbk, hb⟩ := hrel
    have SM := hide hsm
    have BK := hide hbk
    have BW := hide hb
    clear hsm hbk hb BK2 B2
    by_cases hlt : k < n
    · obtain ⟨-, -, -, -, -, hli, -⟩ := HIN.out k (by omega)
      obtain ⟨b, off, rfl, hbl, c0, -, hlc, hl63, hlo⟩ := (HIN.out.below BW.out) k (by omega)
      generalize LL.getD k (none, 0, []) = x at *
      obtain ⟨xa, xcap, xl⟩ := x
      dsimp only at *
      obtain ⟨m, hm⟩ : ∃ m : Nat, min xl.length 7 = m := ⟨_, rfl⟩
      have hmF2 : (if (7 : Int) < (xl.length : Int) then (7 : Int) else (xl.length : Int)) = (m : Int) := by split <;> omega
      have hmI2 : min (xl.length : Int) 7 = (m : Int) := by omega
      have hm7 : m ≤ 7 := by omega
      have hmc : (m : Int) ≤ (xcap : Int) := by omega
      have HLI := hide (hli.take m)
      have HLO := hide (show ∀ y ∈ xl.take m, LnOk y from fun y hy => hlo y (List.mem_of_mem_take hy))
      have hll : (xl.take m).length = m := by rw [List.length_take]; omega
      generalize hl : xl.take m = l at *
      have HLL := hide hll
      clear hl hm hli hlo hll
      go_wp2_with fail
      clear c0 hbl
      go_loopw [6, 7, 41] (fun s z i W => ∃ (j : Nat) (a6 : Option Addr) (c6 : Nat), j ≤ m ∧ i = .int .i64 j ∧ s = .slice a6 j c6 ∧ z = .int .i64 (numS ((l.take j).map evL)) ∧ W.ownsRow w.heap.size 56 2 (.slice a6 j c6) j (((l.take j).map evL).flatMap lnC) ∧ BooksIs (24 * k) W p bm M ∧ Below w.heap.size w W) (fun s z i _ => m - (intOf i).toNat)
      case atStart => exact ⟨0, none, 0, by omega, rfl, rfl, rfl, World.ownsRow_nil _ _ _ _, BK.out, BW.out⟩
      case round =>
        obtain ⟨j, a6, c6, hj, rfl, rfl, rfl, ho, hbk, hb⟩ := hrel
        have OW := hide ho
        have BK := hide hbk
        have BW := hide hb
        clear ho hbk hb
        by_cases hlt2 : j < m
        · obtain ⟨b, off, rfl, hbl, c0, c1⟩ := (HLI.out.below BW.out) j (by rw [HLL.out]; exact hlt2)
          have HNX := hide (evp_next l j (by rw [HLL.out]; exact hlt2))
          have HNS := hide (numS_in (l.take j))
          have HEI := hide (evL_in (l.getD j ln0))
          have HED := hide (show evL (l.getD j ln0) = ⟨max 0 (l.getD j ln0).c % 9, (l.getD j ln0).n.tmod 1099511627776⟩ from rfl)
          generalize (l.take j).map evL = X at *
          generalize l.getD j ln0 = y at *
          obtain ⟨yc, yn⟩ := y
          dsimp only at *
          obtain ⟨ob, hob⟩ : ∃ ob, ob = (Obj.cells #[.int .i64 yc, .int .i64 yn] 54) := ⟨_, rfl⟩
          have hal := (Below.refl wr.heap.size wr).alloc (Nat.le_refl _) ob
          have X1 := hide (show (wr.alloc ob).heap[wr.heap.size]? = some (.cells #[.int .i64 yc, .int .i64 yn] 54 (0, 0)) by rw [heap_new, hob])
          have O1 := hide (owns_below OW.out hal)
          have BK1 := hide (BK.out.below hal)
          have BW1 := hide (BW.out.trans (hal.mono BW.out.size))
          go_upto_region 13 with (fail)
          rw [← hob]
          clear hal OW hbl c0 c1
          generalize wr.alloc ob = v1 at *
          generalize wr.heap.size = q at *
          clear hob ob
          have d0 := cell_of_block X1.out 0
          have d1 := cell_of_block X1.out 1
          obtain ⟨u, huF, huI, hu0⟩ : ∃ u : Int, (if 0 < yc then yc else 0) = u ∧ max 0 yc = u ∧ 0 ≤ u := ⟨max 0 yc, by split <;> omega, rfl, by omega⟩
          obtain ⟨ec, hec1, hec2⟩ : ∃ ec : Int, u % 9 = ec ∧ u.tmod 9 = ec := ⟨_, rfl, Int.tmod_eq_emod_of_nonneg hu0⟩
          rw [huI, hec1] at HED
          generalize yn.tmod 1099511627776 = en at *
          rw [HED.out] at HNX HEI
          have HSN := hide (numS_snoc X ⟨ec, en⟩)
          have hll2 : (l.take j).length ≤ 7 := by rw [List.length_take]; omega
          have hws : wrap64 (numS X + en) = numS X + en := w64_in (by have h1 := HNS.out; have h2 := HEI.out.2; dsimp only at h2; omega)
          have hA := (Below.refl v1.heap.size v1).alloc (Nat.le_refl _) (.cells #[.int .i64 ec, .int .i64 en] 56)
          have XB := hide (heap_new v1 (.cells #[.int .i64 ec, .int .i64 en] 56))
          have O2 := hide (owns_below O1.out hA)
          have BK2 := hide (BK1.out.below hA)
          have BW2 := hide (BW1.out.trans (hA.mono BW1.out.size))
          have hw2 : w.heap.size ≤ (v1.alloc (.cells #[.int .i64 ec, .int .i64 en] 56)).heap.size := BW2.out.size
          generalize numS X = sx at *
          have HWS := hide hws
          clear hA O1 BK1 BW1 HEI hu0 hws
          go_wp2_with (at_builtin; clear huF huI hec1 hec2; refine wpList_append_own2 _ rfl _ _ 29 rfl w.heap.size 56 i0 (.agg #[.int .i64 0, .int .i64 0]) 2 16 Try.underlying29 HI.out HZ0.out HZ1.out HZ2.out rfl (by decide) (.slice a6 j c6) j (X.flatMap lnC) rfl O2.out ⟨v1.heap.size, 0, none⟩ 1 1 (by decide) (lnC ⟨ec, en⟩) rfl rfl (cells_new XB.out) (lnC_one _) (by unfold maxLen; omega) (by omega) hw2 ?_; intro g3 c3' w3 ho hgr hnil; have O3 := hide ho; have BK3 := hide (BK2.out.kept ((grown_stays O2.out hgr BK2.out.head (by decide)).trans BK2.out.head.symm) (grown_other O2.out hgr BK2.out.lt.1 BK2.out.noCells)); have B3 := hide (BW2.out.grown hgr BW2.out.size (fun jj h => (O2.out.lt jj h).1)); have hws := HWS.out; clear ho hgr hnil)
          clear hws
          go_roundw
          case rel => exact ⟨j + 1, _, _, by omega, by go_num, rfl, by rw [HNX.out, HSN.out, HWS.out], by rw [HNX.out, List.flatMap_append]; simpa using O3.out, BK3.out, B3.out⟩
          case measure => simp [intOf]; omega
        · obtain rfl : j = m := by omega
          rw [List.take_of_length_le (by rw [HLL.out]; exact Nat.le_refl _)] at OW
          rw [List.take_of_length_le (by rw [HLL.out]; exact Nat.le_refl _)]
          have HEP := hide (show evP l = l.map evL ++ [⟨9, -(numS (l.map evL))⟩] from rfl)
          have HEL := hide (show (evP l).length = j + 1 by rw [evP_len, HLL.out])
          have HNS := hide (numS_in l)
          have HL7 := hide (show l.length ≤ 7 by rw [HLL.out]; exact hm7)
          generalize l.map evL = X at *
          have hng : IntKind.i64.wrap (-(numS X)) = -(numS X) := wrap_in (by have h1 := HNS.out; have h2 := HL7.out; unfold inR; omega)
          generalize numS X = sx at *
          have hA := (Below.refl wr.heap.size wr).alloc (Nat.le_refl _) (.cells #[.int .i64 9, .int .i64 (-sx)] 56)
          have XB := hide (heap_new wr (.cells #[.int .i64 9, .int .i64 (-sx)] 56))
          have O2 := hide (owns_below OW.out hA)
          have BK2 := hide (BK.out.below hA)
          have BW2 := hide (BW.out.trans (hA.mono BW.out.size))
          have hw2 : w.heap.size ≤ (wr.alloc (.cells #[.int .i64 9, .int .i64 (-sx)] 56)).heap.size := BW2.out.size
          clear hA OW BK BW HLI HLO
          go_wp2_with (at_builtin; clear hng; refine wpList_append_own2 _ rfl _ _ 29 rfl w.heap.size 56 i0 (.agg #[.int .i64 0, .int .i64 0]) 2 16 Try.underlying29 HI.out HZ0.out HZ1.out HZ2.out rfl (by decide) (.slice a6 j c6) j (X.flatMap lnC) rfl O2.out ⟨wr.heap.size, 0, none⟩ 1 1 (by decide) (lnC ⟨9, -sx⟩) rfl rfl (cells_new XB.out) (lnC_one _) (by unfold maxLen; omega) (by omega) hw2 ?_; intro g3 c3' w3 ho hgr hnil; have O3 := hide ho; have BK3 := hide (BK2.out.kept ((grown_stays O2.out hgr BK2.out.head (by decide)).trans BK2.out.head.symm) (grown_other O2.out hgr BK2.out.lt.1 BK2.out.noCells)); have B3 := hide (BW2.out.grown hgr BW2.out.size (fun jj h => (O2.out.lt jj h).1)); clear ho hgr hnil)
          have P3 := hide (LnIn.of_owns (L := evP l) (c := c3') (by rw [HEL.out, HEP.out, List.flatMap_append]; simpa using O3.out))
          clear O3 O2 BK2 BW2 XB
          refine (bkcopy_any (24 * k) p bm M w3 BK3.out).mono ?_
          rintro e w4 ⟨p', bm', rfl, hbk, h1, h2, hb⟩
          have CK4 := hide hbk
          have HN1 := hide (show bm' ≠ bm by have := BK3.out.lt.1; omega)
          have HN2 := hide (show p' ≠ bm by have := BK3.out.lt.1; omega)
          have BK4 := hide (BK3.out.below hb)
          have P4 := hide (P3.out.below hb)
          have B4 := hide (B3.out.trans (hb.mono B3.out.size))
          clear hbk h1 h2 hb BK3 P3 B3
          have HC := hide (contra_any (evP l) (by rw [HEL.out]; omega) (fun x hx => (evP_ok l HL7.out x hx).2) (some ⟨g3, 0, none⟩) c3' w4 P4.out)
          rw [HEL.out] at HC
          have HLF := hide (evP_least l HL7.out)
          go_wp2_with fail
          refine HC.out.mono ?_
          rintro e w5 ⟨⟨-, a7, c7, rfl, hcp, hq⟩ | ⟨hbad, -⟩, hb⟩
          · rw [HEL.out]
            rw [HEL.out] at hcp
            have Q5 := hide hq
            have P5 := hide (P4.out.below hb)
            have CK5 := hide (CK4.out.below hb)
            have BK5 := hide (BK4.out.below hb)
            have B5 := hide (B4.out.trans (hb.mono B4.out.size))
            clear hq hb CK4 BK4 P4 B4 HC
            obtain ⟨h0, hS1⟩ := SM.out.apply (by omega) l HL7.out
            obtain ⟨hq0, hbk0⟩ := SM.out.back (by omega) l HL7.out
            have HAP := hide h0
            have HS1 := hide hS1
            have HAQ := hide hq0
            have HBA := hide hbk0
            have HPO := hide (evP_ok l HL7.out)
            have HQO := hide (negP_ok l HL7.out)
            have HQL := hide (show (negL (evP l)).length = j + 1 by rw [negL_len, HEL.out])
            clear h0 hS1 hq0 hbk0 SM
            have HA := hide (fun N hN M W hW hB => bkapply_any N hN p bm M (evP l) (by rw [HEL.out]; omega) HPO.out (some ⟨g3, 0, none⟩) c3' W hW hB)
            have HQ := hide (fun N hN M W hW hB => bkapply_any N hN p bm M (negL (evP l)) (by rw [HQL.out]; omega) HQO.out a7 c7 W hW hB)
            unfold ApplyIs at HA HQ
            rw [HEL.out] at HA
            rw [HQL.out] at HQ
            generalize hm1 : nextB M (evP l) = M1 at *
            have HM1 := hide hm1
            clear hm1
            generalize evP l = PP at *
            clear HEP HEL HNS HQL HPO HQO HLF
            go_wp2_with fail
            refine (HA.out (24 * k) (by omega) M w5 P5.out BK5.out).mono ?_
            rintro e w6 ⟨rfl, hbk, ho⟩
            rw [HAP.out]
            rw [HM1.out] at hbk
            have BK6 := hide hbk
            have Q6 := hide (Q5.out.only ho BK5.out.noCells)
            have P6 := hide (P5.out.only ho BK5.out.noCells)
            have CK6 := hide (CK5.out.kept (ho.block _ CK5.out.lt.2 HN2.out) (ho.block _ CK5.out.lt.1 HN1.out))
            have B6 := hide (ho.below B5.out HBM.out B5.out.size)
            clear hbk ho Q5 P5 CK5 BK5 B5
            go_wp2_with fail
            refine (HQ.out (24 * k + (j + 1)) (by omega) M1 w6 Q6.out BK6.out).mono ?_
            rintro e w7 ⟨rfl, hbk, ho⟩
            rw [HAQ.out]
            rw [HBA.out] at hbk
            have BK7 := hide hbk
            have P7 := hide (P6.out.only ho BK6.out.noCells)
            have CK7 := hide (CK6.out.kept (ho.block _ CK6.out.lt.2 HN2.out) (ho.block _ CK6.out.lt.1 HN1.out))
            have B7 := hide (ho.below B6.out HBM.out B6.out.size)
            clear hbk ho Q6 P6 CK6 BK6 B6 HQ HAQ HBA
            go_wp2_with fail
            go_loopw [88] (fun i W => ∃ t : Nat, t ≤ 10 ∧ i = .int .i64 t ∧ LnIn W (some ⟨g3, 0, none⟩) PP ∧ BooksIs (24 * k + (j + 1) + (j + 1)) W p bm M ∧ BooksIs (24 * k) W p' bm' M ∧ Below w.heap.size w W) (fun i _ => 10 - (intOf i).toNat)
            case atStart => exact ⟨0, by omega, rfl, P7.out, BK7.out, CK7.out, B7.out⟩
            case round =>
              obtain ⟨t, ht, rfl, hp, hbk, hck, hb⟩ := hrel
              have PW := hide hp
              have BW := hide hbk
              have CW := hide hck
              have BL := hide hb
              clear hp hbk hck hb P7 BK7 CK7 B7
              by_cases hlt3 : t < 10
              · have HG := hide (bkBal _ p bm M (t : Int) (by unfold inR; omega) wr BW.out)
                have HG2 := hide (bkBal _ p' bm' M (t : Int) (by unfold inR; omega) wr CW.out)
                generalize getB M (t : Int) = gb at *
                go_wp2_with fail
                refine HG.out.mono ?_
                rintro e w8 ⟨rfl, rfl⟩
                go_wp2_with fail
                refine HG2.out.mono ?_
                rintro e w8 ⟨rfl, rfl⟩
                clear HG HG2
                go_wp2_with fail
                go_roundw
                case rel => exact ⟨t + 1, by omega, by go_num, PW.out, BW.out, CW.out, BL.out⟩
                case measure => simp [intOf]; omega
              · obtain rfl : t = 10 := by omega
                go_wp2_with fail
                refine (HA.out (24 * k + (j + 1) + (j + 1)) (by omega) M wr PW.out BW.out).mono ?_
                rintro e w8 ⟨rfl, hbk, ho⟩
                rw [HAP.out]
                rw [HM1.out] at hbk
                have BK8 := hide hbk
                have B8 := hide (ho.below BL.out HBM.out BL.out.size)
                clear hbk ho PW CW BW BL HA HAP
                obtain ⟨t0, t1⟩ := HS1.out.trial (by omega)
                have HT := hide (bktrial_any _ p bm M1 (by have := HS1.out.len; omega) w8 BK8.out)
                unfold TriIs at HT
                rw [t0, t1] at HT
                generalize triC M1 = tc at *
                clear t0 t1
                go_wp2_with fail
                refine HT.out.mono ?_
                rintro e w9 ⟨rfl, hb⟩
                have BK9 := hide (BK8.out.below hb)
                have B9 := hide (B8.out.trans (hb.mono B8.out.size))
                clear hb HT BK8 B8
                go_wp2_with fail
                go_roundw
                case rel => exact ⟨k + 1, M1, by omega, by go_num, HS1.out, BK9.out.mono (by omega), B9.out⟩
                case measure => simp [intOf]; omega
          · rw [HLF.out] at hbad; cases hbad
    · obtain rfl : n = k := by omega
      go_wp2_with fail
      go_ret
      exact ⟨rfl, BW.out⟩

set_option maxRecDepth 100000 in
theorem booksEven_lifted (os : Os) (started : os.Started) (H : Type) (enc : TypeId × Value → H) :
    ReturnsInHanded {} Try.checked os 4 .any (Rows.booksEvenSpec.pre6 enc Try.prog Try.f4 Rows.booksEvenRow.domain false) (Rows.booksEvenSpec.post enc Try.prog Try.f4 false true false false) := by
  refine returnsInHanded_of_change (C := Try.checked) own started (by kernel_rfl) Try.func4
    (ChangeSpec.witness6 (enc := enc) (C := Try.checked) false ⟨#[], #[.slice none 0 0], []⟩ 8 (by kernel_rfl) (by kernel_rfl) (by kernel_rfl) (by kernel_rfl)) ?_
  intro W base args ds gs before hval0 hW _ _
  have hval : ∀ (j : Nat) t v, Try.f4.params[j]? = some t → args[j]? = some v → Value.okWide Try.prog W .any base t v := hval0
  have hW' := hW
  obtain ⟨p, q, hA0, hV, rfl, hfz, hnd⟩ := hW
  have hA : DataW.TrodAll enc Try.prog W 0 (fun _ => true) true Try.f4.params.toList args.toList ds p := hA0
  rw [Try.params4] at hA hval
  obtain ⟨v0, vs0, d0, ds0, p0, q0, hargs, rfl, rfl, h0, r0⟩ := trodAll_cons hA
  obtain ⟨rfl, rfl, rfl⟩ := trodAll_nil r0
  obtain rfl : args = #[v0] := by cases args; simp_all
  obtain ⟨rfl, rfl⟩ := trodVars_none hV
  have z0 := open_posts (hval 0 22 v0 rfl rfl) h0
  clear hA0 hval0
  refine (booksEven_walk v0 W z0).mono fun e W' ⟨he, hb⟩ => ?_
  subst he
  exact ⟨_, rfl, post_law laidOut (of_decide_eq_true (by kernel_rfl)) rfl rfl Try.underlying4 hW' ⟨rfl, rfl, rfl⟩ hb⟩

/-- THE STATEMENT -/
theorem booksEven_holds : Rows.BooksEvenSaid :=
  OpenClaim.holds_of_wide 4 Try.f4 rfl rfl rfl rfl rfl rfl rfl ⟨rfl, rfl, rfl, rfl, rfl⟩ rfl rfl rfl rfl rfl (by kernel_rfl) Try.func4 (by kernel_rfl)
    (of_decide_eq_true (by kernel_rfl)) (by unfold Func.isWrapper; first | (rw [if_pos (by decide +kernel)]; kernel_rfl) | (rw [if_neg (by decide +kernel)]; exact ⟨rfl, rfl⟩))
    (fun os started H enc _ => booksEven_lifted os started H enc)

end Go.Proofs.Ytjnfmgbbhiklaaa
