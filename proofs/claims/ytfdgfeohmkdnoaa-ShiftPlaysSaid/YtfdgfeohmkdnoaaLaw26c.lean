/-
  Layer 26: ShiftPlays: whatever is started, added and ended, the answers, all totals that are kept, and the fields, are the document's; a copy has nothing to do with what it is of. No condition.
-/
import Derived.Test.YtfdgfeohmkdnoaaShP
import Derived.Test.YtfdgfeohmkdnoaaKitRow
import Derived.Deep.CutBlock
--import Derived.Test.Zdbg
namespace Go.Proofs.Ytfdgfeohmkdnoaa
set_option linter.unusedSimpArgs false
set_option linter.unusedVariables false
open Go.RowKit Go.WideShapes Go.ChangeShapes Go.ChangeAt Go.Deep

set_option maxRecDepth 100000 in
set_option maxHeartbeats 16000000 in
theorem shiftPlays_walk (keep0 : Int) (hkeep0 : -9223372036854775808 ≤ keep0) (hkeep1 : keep0 ≤ 9223372036854775807) (v1 : Value) (num : Int) (hnum0 : -9223372036854775808 ≤ num) (hnum1 : num ≤ 9223372036854775807) (W0 : World) (hz : ActsS W0 v1) :
    Calls Try.prog 3 #[.int .i64 keep0, v1, .int .i64 num] W0 fun e w' => e = .returned (.bool true) ∧ Below W0.heap.size W0 w' := by
  obtain ⟨al, AL, acap, rfl, hcap, h63, hin, hok⟩ := hz
  generalize W0 = w at *
  obtain ⟨n, hn⟩ : ∃ n : Nat, min AL.length 50 = n := ⟨_, rfl⟩
  have hmF : (if (50 : Int) < (AL.length : Int) then (50 : Int) else (AL.length : Int)) = (n : Int) := by split <;> omega
  have hmI : min (AL.length : Int) 50 = (n : Int) := by omega
  have hn9 : n ≤ 50 := by omega
  have hnl : n ≤ AL.length := by omega
  have hcI : (n : Int) ≤ (acap : Int) := by omega
  have HIN := hide hin
  have HOK := hide hok
  have HNUM := hide (show inR num from ⟨hnum0, hnum1⟩)
  clear hin hok hn hnum0 hnum1
  obtain ⟨q, hq⟩ : ∃ q, w.heap.size = q := ⟨_, rfl⟩
  have HQ := hide hq
  clear hq
  go_enter Try.func3, Try.ntmps3
  go_upto_region 1 with (fail)
  go_cut [7, 8] from 39 to 64 (fun s7 s8 W => Below q w W ∧ ((1 ≤ keep0 ∧ keep0 ≤ 64 ∧ s8 = .int .i64 0) ∨ (¬ (1 ≤ keep0 ∧ keep0 ≤ 64) ∧ s7 = .pointer none ∧ s8 = .int .i64 2)))
  case first =>
    by_cases hk : 1 ≤ keep0 ∧ keep0 ≤ 64
    · obtain ⟨hk1, hk2⟩ := hk
      go_wp2_with fail
      refine (shnew_ok keep0 hk1 hk2 w).mono ?_
      rintro e w1 ⟨rfl, -, hb⟩
      have HB := hide hb
      clear hb
      go_wp2_with fail
      go_meet
      exact ⟨by rw [← HQ.out]; exact HB.out, .inl ⟨hk1, hk2, rfl⟩⟩
    · have HNN := hide hk
      go_wp2_with fail
      refine (shnew_no keep0 hk w).mono ?_
      rintro e w1 ⟨rfl, rfl⟩
      clear hk
      go_wp2_with fail
      go_meet
      exact ⟨Below.refl _ _, .inr ⟨HNN.out, rfl, rfl⟩⟩
  case rest =>
  obtain ⟨hbw, hcs⟩ := hcut
  have BW0 := hide hbw
  have HCS := hide hcs
  clear hbw hcs
  go_upto_region 2 with (fail)
  obtain ⟨w0, hw0⟩ : ∃ w0 : World, w0 = wc := ⟨_, rfl⟩
  rw [← hw0] at BW0 ⊢
  clear hw0
  go_cut [64] from 44 to 64 (fun s64 W => s64 = .bool false ∧ W = w0)
  case first =>
    rcases HCS.out with ⟨h1, h2, rfl⟩ | ⟨h1, rfl, rfl⟩
    · go_wp2_with fail
      go_meet
      exact ⟨rfl, rfl⟩
    · by_cases h2 : 1 ≤ keep0
      · have h3 : ¬ keep0 ≤ 64 := fun h => h1 ⟨h2, h⟩
        clear h1
        go_wp2_with fail
        go_meet
        exact ⟨rfl, rfl⟩
      · clear h1
        go_wp2_with fail
        go_meet
        exact ⟨rfl, rfl⟩
  case rest =>
  obtain ⟨rfl, rfl⟩ := hcut
  clear HCS
  obtain ⟨u, huF, huI, hu0⟩ : ∃ u : Int, (if 0 < keep0 then keep0 else 0) = u ∧ max 0 keep0 = u ∧ 0 ≤ u := ⟨max 0 keep0, by split <;> omega, rfl, by omega⟩
  obtain ⟨r, hr1, hr2, hr3⟩ : ∃ r : Int, u.tmod 5 = r ∧ 0 ≤ r ∧ r ≤ 4 := ⟨_, rfl, by rw [Int.tmod_eq_emod_of_nonneg hu0]; omega, by rw [Int.tmod_eq_emod_of_nonneg hu0]; omega⟩
  have hwr : wrap64 (1 + r) = 1 + r := by unfold wrap64; omega
  have hwr2 : IntKind.i64.wrap (1 + r) = 1 + r := by rw [IntKind.wrap_i64]; omega
  have HSZC := hide (show q ≤ wc.heap.size from Nat.le_trans (Nat.le_of_eq HQ.out.symm) BW0.out.size)
  go_wp2_with fail
  refine (shnew_ok (1 + r) (by omega) (by omega) wc).mono ?_
  rintro e w1 ⟨rfl, h, hb⟩
  have S1 := hide (h.mono HSZC.out)
  have B1 := hide (BW0.out.trans (hb.mono HSZC.out))
  have HSZ1 := hide (Nat.le_trans HSZC.out hb.size)
  clear h hb BW0 HSZC
  obtain ⟨p, hp⟩ : ∃ p, wc.heap.size = p := ⟨_, rfl⟩
  rw [hp] at S1 ⊢
  clear hp
  go_upto_region 7 with (fail)
  clear hwr hwr2 huF huI hu0 hr1 hkeep0 hkeep1
  obtain ⟨ox, hox⟩ : ∃ o, o = Obj.cells #[.int .i64 (1 + r), .int .i64 1, .bool false, .int .i64 0, .int .i64 0, .int .i64 0, .int .i64 0, .int .i64 0, .int .i64 0, .slice none 0 0] 32 := ⟨_, rfl⟩
  rw [← hox]
  have hal := (Below.refl w1.heap.size w1).alloc (Nat.le_refl _) ox
  have D2 := hide (show MdAt (w1.alloc ox) w1.heap.size ⟨1 + r, 1, false, tot0, []⟩ tot0 none 0 from ⟨by rw [heap_new, hox]; rfl, ⟨World.ownsRow_nil _ _ _ _, fun h => by cases h⟩⟩)
  have S2 := hide (S1.out.below hal)
  have B2 := hide (B1.out.trans (hal.mono HSZ1.out))
  have HSZ2 := hide (Nat.le_trans HSZ1.out hal.size)
  have HQM := hide HSZ1.out
  clear hal S1 B1 HSZ1 hox
  generalize w1.alloc ox = w2 at *
  obtain ⟨mb, hmb⟩ : ∃ k, w1.heap.size = k := ⟨_, rfl⟩
  rw [hmb] at D2 HQM ⊢
  clear hmb
  go_wp2_with fail
  refine (wakes26 w2).mono ?_
  rintro e w3 ⟨rfl, hb⟩
  have D3 := hide (D2.out.below hb)
  have S3 := hide (S2.out.below hb)
  have B3 := hide (B2.out.trans (hb.mono HSZ2.out))
  have HSZ3 := hide (Nat.le_trans HSZ2.out hb.size)
  clear hb D2 S2 B2 HSZ2
  go_wp2_with fail
  clear hmF hmI
  go_loopw [92] (fun i W => ∃ (j : Nat) (M : ShM) (V : Value) (nw : TotM) (a : Option Addr) (cp : Nat), j ≤ n ∧ i = .int .i64 j ∧ ShIs W q p M V ∧ MdAt W mb M nw a cp ∧ Below q w W ∧ q ≤ W.heap.size) (fun i _ => n - (intOf i).toNat)
  case atStart => exact ⟨0, _, _, _, _, _, by omega, rfl, S3.out, D3.out, B3.out, HSZ3.out⟩
  case round =>
    obtain ⟨j, M, V, nw, a, cp, hj, rfl, hs, hd, hb, hsz⟩ := hrel
    have S1 := hide hs
    have D1 := hide hd
    have B1 := hide hb
    have HSZ1 := hide hsz
    have HOKM := hide hs.ok
    clear hs hd hb hsz S3 D3 B3 HSZ3
    by_cases hlt : j < n
    · have HJN := hide hlt
      obtain ⟨b, off, rfl, hbl, c0, c1, c2⟩ := (HIN.out.below (show Below w.heap.size w wr by rw [HQ.out]; exact B1.out)) j (by omega)
      have HOX := hide (HOK.out (AL.getD j actS0) (by have : j < AL.length := by omega
                                                      simp [List.getD, this]))
      generalize AL.getD j actS0 = x at *
      obtain ⟨xd, xk, xa⟩ := x
      dsimp only at *
      obtain ⟨ob, hob⟩ : ∃ ob, ob = (Obj.cells #[.int .i64 xd, .int .u8 xk, .int .i64 xa] 35) := ⟨_, rfl⟩
      have hal := (Below.refl wr.heap.size wr).alloc (Nat.le_refl _) ob
      have X0 := hide (show (wr.alloc ob).heap[wr.heap.size]? = some (.cells #[.int .i64 xd, .int .u8 xk, .int .i64 xa] 35 (0, 0)) by rw [heap_new, hob])
      have S2 := hide (S1.out.below hal)
      have D2 := hide (D1.out.below hal)
      have B2 := hide (B1.out.trans (hal.mono HSZ1.out))
      have HSZ2 := hide (Nat.le_trans HSZ1.out hal.size)
      clear hal S1 D1 B1 HSZ1
      go_upto_region 12 with (fail)
      rw [← hob]
      clear c0 c1 c2 hbl hob
      generalize wr.alloc ob = w2 at *
      obtain ⟨ab, hab⟩ : ∃ k, wr.heap.size = k := ⟨_, rfl⟩
      rw [hab] at X0 ⊢
      clear hab ob
      go_wp2_with fail
      refine (shcopy_any q p M V w2 S2.out).mono ?_
      rintro e w3 ⟨V2, rfl, ho, hb⟩
      have O3 := hide ho
      have HAP := hide (show ∀ z ∈ p :: V.ownBlock.toList, z < w2.heap.size from fun z hz => by
        rcases List.mem_cons.1 hz with rfl | hz
        · exact S2.out.lt
        · exact (S2.out.row.lt z (Option.mem_toList.1 hz)).2)
      have X1 := hide ((hb.block _ (heap_lt X0.out)).trans X0.out)
      have S3 := hide (S2.out.below hb)
      have D3 := hide (D2.out.below hb)
      have B3 := hide (B2.out.trans (hb.mono HSZ2.out))
      have HSZ3 := hide (Nat.le_trans HSZ2.out hb.size)
      clear ho hb S2 D2 B2 HSZ2 X0
      obtain ⟨p2, hp2⟩ : ∃ k, w2.heap.size = k := ⟨_, rfl⟩
      rw [hp2] at O3 HAP ⊢
      clear hp2
      obtain ⟨⟨c0, c1, c2, c3, c4, c5, c6, c7, c8, c9⟩, ⟨f0, f1, f2, f3, f4, f5, f6, f7, f8, f9⟩⟩ := sh_facts D3.out.1
      clear f0 f1 f2 f3 f4 f5 f6 f7 f8 f9
      go_upto_region 14 with (fail)
      clear c0 c1 c2 c3 c4 c5 c6 c7 c8 c9
      obtain ⟨ox, hox⟩ : ∃ o, o = Obj.cells #[.int .i64 M.keep, .int .i64 M.next, .bool M.op, .int .i64 nw.c, .int .i64 nw.s, .int .i64 nw.v, .int .i64 nw.r, .int .i64 nw.i, .int .i64 nw.o, .slice a M.L.length cp] 32 := ⟨_, rfl⟩
      rw [← hox]
      have hal := (Below.refl w3.heap.size w3).alloc (Nat.le_refl _) ox
      have N4 := hide (show (w3.alloc ox).heap[w3.heap.size]? = some (.cells #[.int .i64 M.keep, .int .i64 M.next, .bool M.op, .int .i64 nw.c, .int .i64 nw.s, .int .i64 nw.v, .int .i64 nw.r, .int .i64 nw.i, .int .i64 nw.o, .slice a M.L.length cp] 32 (0, 0)) by rw [heap_new, hox])
      have X1 := hide ((hal.block _ (heap_lt X1.out)).trans X1.out)
      have S4 := hide (S3.out.below hal)
      have D4 := hide (D3.out.below hal)
      have O4 := hide (O3.out.below hal)
      have B4 := hide (B3.out.trans (hal.mono HSZ3.out))
      have HSZ4 := hide (Nat.le_trans HSZ3.out hal.size)
      have HMN := hide (show mb ≠ w3.heap.size from fun e => by have := heap_lt D3.out.1; omega)
      have HQN := hide HSZ3.out
      have HNL := hide (show w3.heap.size < (w3.alloc ox).heap.size by simp)
      clear hal S3 D3 O3 B3 HSZ3 hox
      generalize w3.alloc ox = w4 at *
      obtain ⟨nb, hnb⟩ : ∃ k, w3.heap.size = k := ⟨_, rfl⟩
      rw [hnb] at N4 HMN HQN HNL ⊢
      clear hnb ox
      have d0 := cell_of_block X1.out 0
      obtain ⟨hd0, hk0, ha0⟩ := HOX.out
      dsimp only at hd0 hk0 ha0
      have HST := hide (fun W h2 => rsstart_any M nw a cp W HOKM.out h2)
      have HEN := hide (fun W h2 => rsend_any M nw a cp W HOKM.out h2)
      have HRA := hide (fun W h2 => rsadd_any xk xa hk0 ha0 M nw a cp W HOKM.out h2)
      have HAD := hide (fun W hW => shadd_any xk xa hk0 ha0 q p M V W hW)
      have HOF := hide (fun W => lof_any (shEndT M).c (shEndT M).s (shEndT M).v (shEndT M).r (shEndT M).i (shEndT M).o W)
      unfold rsV at HST HEN HRA
      unfold totA at HOF
      unfold inR at hd0
      obtain ⟨u, huF, huI, hu0⟩ : ∃ u : Int, (if 0 < xd then xd else 0) = u ∧ max 0 xd = u ∧ 0 ≤ u := ⟨max 0 xd, by split <;> omega, rfl, by omega⟩
      obtain ⟨s, hs1, hs2, hs3⟩ : ∃ r : Int, u.tmod 5 = r ∧ 0 ≤ r ∧ r ≤ 4 := ⟨_, rfl, by rw [Int.tmod_eq_emod_of_nonneg hu0]; omega, by rw [Int.tmod_eq_emod_of_nonneg hu0]; omega⟩
      go_upto_block 2 with (fail)
      clear huF huI hs1 hu0 hd0 hk0 ha0 d0
      have hrl := rguard_eql
      have hre := reql_self
      go_cut [17] from 103 to 172 (fun s17 W => ∃ (M' : ShM) (V' : Value) (nw' : TotM) (a' : Option Addr) (cp' : Nat), s17 = .bool true ∧ ShIs W q p M' V' ∧ W.heap[nb]? = some (.cells #[.int .i64 M'.keep, .int .i64 M'.next, .bool M'.op, .int .i64 nw'.c, .int .i64 nw'.s, .int .i64 nw'.v, .int .i64 nw'.r, .int .i64 nw'.i, .int .i64 nw'.o, .slice a' M'.L.length cp'] 32 (0, 0)) ∧ RsIs W M' nw' a' cp' ∧ MdAt W mb M nw a cp ∧ ShIs W p2 p2 M V2 ∧ Below q w W)
      case first =>
        by_cases r3 : s = 3
        · subst r3
          as_aux_lemma =>
            go_wp2_with fail
            refine (shstart_any q p M V w4 S4.out).mono ?_
            rintro e w5 ⟨rfl, hs5, hk5⟩
            have S5 := hide hs5
            have D5 := hide (D4.out.keepsT hk5.kt (by decide) (by decide))
            have N5 := hide (hk5.kt.cells N4.out (by decide))
            have O5 := hide (old_apart (q := q) (p := p) (M := M) (V := V) O4.out (fun z hz => HAP.out z (by rw [List.mem_singleton.1 hz]; exact List.mem_cons_self)) hk5.ol)
            have B5 := hide (hk5.base B4.out (fun z hz => by rw [List.mem_singleton.1 hz]; exact S4.out.low) HSZ4.out)
            have HSZ5 := hide (Nat.le_trans HSZ4.out hk5.ol.size)
            clear hs5 hk5 S4 D4 N4 O4 B4 HSZ4
            obtain ⟨⟨c0, c1, c2, c3, c4, c5, c6, c7, c8, c9⟩, ⟨f0, f1, f2, f3, f4, f5, f6, f7, f8, f9⟩⟩ := sh_facts D5.out.1
            clear f0 f1 f2 f3 f4 f5 f6 f7 f8 f9
            go_wp2_with fail
            refine (HST.out w5 D5.out.2).mono ?_
            rintro e w6 ⟨nw', rfl, hr, hb⟩
            have R6 := hide hr
            clear c0 c1 c2 c3 c4 c5 c6 c7 c8 c9 hr
            have S6 := hide (S5.out.below hb)
            have D6 := hide (D5.out.below hb)
            have N6 := hide ((hb.block _ (heap_lt N5.out)).trans N5.out)
            have O6 := hide (O5.out.below hb)
            have B6 := hide (B5.out.trans (hb.mono HSZ5.out))
            have HSZ6 := hide (Nat.le_trans HSZ5.out hb.size)
            clear S5 D5 N5 O5 B5 HSZ5
            clear hb
            unfold rsV
            go_upto_region 20 with (fail)
            obtain ⟨ox, hox⟩ : ∃ o, o = Obj.cells #[.int .i64 (shStartM M).keep, .int .i64 (shStartM M).next, .bool (shStartM M).op, .int .i64 nw'.c, .int .i64 nw'.s, .int .i64 nw'.v, .int .i64 nw'.r, .int .i64 nw'.i, .int .i64 nw'.o, .slice a (shStartM M).L.length cp] 32 := ⟨_, rfl⟩
            rw [← hox]
            have hal := (Below.refl w6.heap.size w6).alloc (Nat.le_refl _) ox
            have XT := hide (heap_new w6 ox)
            have R7 := hide (R6.out.below hal)
            have S7 := hide (S6.out.below hal)
            have D7 := hide (D6.out.below hal)
            have N7 := hide ((hal.block _ (heap_lt N6.out)).trans N6.out)
            have O7 := hide (O6.out.below hal)
            have B7 := hide (B6.out.trans (hal.mono HSZ6.out))
            have HSZ7 := hide (Nat.le_trans HSZ6.out hal.size)
            clear S6 D6 N6 O6 B6 HSZ6
            clear hal R6
            generalize w6.alloc ox = w7 at *
            generalize w6.heap.size = tb at *
            rw [hox] at XT
            clear hox ox
            go_wp2_with (first | (refine rw_load rfl 32 (.tmp 20) rfl tb rfl 32 _ (0, 0) _ XT.out Try.underlying32 rfl (by kernel_rfl) ?_) | (refine rw_store rfl 32 (.tmp 16) (.tmp 134) rfl nb rfl #[.int .i64 (shStartM M).keep, .int .i64 (shStartM M).next, .bool (shStartM M).op, .int .i64 nw'.c, .int .i64 nw'.s, .int .i64 nw'.v, .int .i64 nw'.r, .int .i64 nw'.i, .int .i64 nw'.o, .slice a (shStartM M).L.length cp] rfl _ N7.out (by kernel_rfl) rfl (rs_ones _ _ _ _ _ _ _ _ _ _ _ _) ?_))
            have hts := setRow_same (cs := #[.int .i64 (shStartM M).keep, .int .i64 (shStartM M).next, .bool (shStartM M).op, .int .i64 nw'.c, .int .i64 nw'.s, .int .i64 nw'.v, .int .i64 nw'.r, .int .i64 nw'.i, .int .i64 nw'.o, .slice a (shStartM M).L.length cp]) N7.out
            have hto := setRow_only w7 nb #[.int .i64 (shStartM M).keep, .int .i64 (shStartM M).next, .bool (shStartM M).op, .int .i64 nw'.c, .int .i64 nw'.s, .int .i64 nw'.v, .int .i64 nw'.r, .int .i64 nw'.i, .int .i64 nw'.o, .slice a (shStartM M).L.length cp]
            have hkt := only_keeps (Ts := [32]) N7.out (by decide) hto
            have NN := hide hts
            have S8 := hide (S7.out.keepsT hkt (by decide) (by decide))
            have D8 := hide (D7.out.only N7.out hto HMN.out)
            have O8 := hide (O7.out.keepsT hkt (by decide) (by decide))
            have R8 := hide (R7.out.keepsT hkt (by decide))
            have B8 := hide (hto.below B7.out HQN.out HSZ7.out)
            clear hts hkt hto
            go_meet
            exact ⟨shStartM M, V, nw', a, cp, rfl, S8.out, NN.out, R8.out, D8.out, O8.out, B8.out⟩
        by_cases r4 : s = 4
        · subst r4
          as_aux_lemma =>
            go_wp2_with fail
            refine (shend_any q p M V w4 HSZ4.out S4.out).mono ?_
            rintro e w5 ⟨V', rfl, hs5, hk5, -⟩
            have S5 := hide hs5
            have D5 := hide (D4.out.keepsT hk5.kt (by decide) (by decide))
            have N5 := hide (hk5.kt.cells N4.out (by decide))
            have O5 := hide (old_apart (q := q) (p := p) (M := M) (V := V) O4.out HAP.out hk5.ol)
            have B5 := hide (hk5.base B4.out (fun z hz => by
              rcases List.mem_cons.1 hz with rfl | hz
              · exact S4.out.low
              · exact (S4.out.row.lt z (Option.mem_toList.1 hz)).1) HSZ4.out)
            have HSZ5 := hide (Nat.le_trans HSZ4.out hk5.ol.size)
            clear hs5 hk5 S4 D4 N4 O4 B4 HSZ4
            unfold totV
            go_upto_region 23 with (fail)
            obtain ⟨ox, hox⟩ : ∃ o, o = Obj.cells #[.int .i64 (shEndT M).c, .int .i64 (shEndT M).s, .int .i64 (shEndT M).v, .int .i64 (shEndT M).r, .int .i64 (shEndT M).i, .int .i64 (shEndT M).o] 43 := ⟨_, rfl⟩
            rw [← hox]
            have hal := (Below.refl w5.heap.size w5).alloc (Nat.le_refl _) ox
            have XA := hide (heap_new w5 ox)
            have S50 := hide (S5.out.below hal)
            have D50 := hide (D5.out.below hal)
            have N50 := hide ((hal.block _ (heap_lt N5.out)).trans N5.out)
            have O50 := hide (O5.out.below hal)
            have B50 := hide (B5.out.trans (hal.mono HSZ5.out))
            have HSZ50 := hide (Nat.le_trans HSZ5.out hal.size)
            clear S5 D5 N5 O5 B5 HSZ5
            clear hal
            generalize w5.alloc ox = w50 at *
            generalize w5.heap.size = ta at *
            rw [hox] at XA
            clear hox ox
            obtain ⟨⟨c0, c1, c2, c3, c4, c5, c6, c7, c8, c9⟩, ⟨f0, f1, f2, f3, f4, f5, f6, f7, f8, f9⟩⟩ := sh_facts D50.out.1
            clear f0 f1 f2 f3 f4 f5 f6 f7 f8 f9
            go_wp2_with fail
            refine (HEN.out w50 D50.out.2).mono ?_
            rintro e w6 ⟨nw', a', cp', rfl, hr, hb⟩
            have R6 := hide hr
            have XA6 := hide ((hb.block _ (heap_lt XA.out)).trans XA.out)
            clear c0 c1 c2 c3 c4 c5 c6 c7 c8 c9 hr XA
            have S6 := hide (S50.out.below hb)
            have D6 := hide (D50.out.below hb)
            have N6 := hide ((hb.block _ (heap_lt N50.out)).trans N50.out)
            have O6 := hide (O50.out.below hb)
            have B6 := hide (B50.out.trans (hb.mono HSZ50.out))
            have HSZ6 := hide (Nat.le_trans HSZ50.out hb.size)
            clear S50 D50 N50 O50 B50 HSZ50
            clear hb
            unfold rsV totV
            go_upto_region 24 with (fail)
            obtain ⟨ox, hox⟩ : ∃ o, o = Obj.cells #[.int .i64 (shEndM M).keep, .int .i64 (shEndM M).next, .bool (shEndM M).op, .int .i64 nw'.c, .int .i64 nw'.s, .int .i64 nw'.v, .int .i64 nw'.r, .int .i64 nw'.i, .int .i64 nw'.o, .slice a' (shEndM M).L.length cp'] 32 := ⟨_, rfl⟩
            obtain ⟨oy, hoy⟩ : ∃ o, o = Obj.cells #[.int .i64 (shEndT M).c, .int .i64 (shEndT M).s, .int .i64 (shEndT M).v, .int .i64 (shEndT M).r, .int .i64 (shEndT M).i, .int .i64 (shEndT M).o] 29 := ⟨_, rfl⟩
            rw [← hox, ← hoy]
            have hal := ((Below.refl w6.heap.size w6).alloc (Nat.le_refl _) ox).alloc (show w6.heap.size ≤ (w6.alloc ox).heap.size by simp) oy
            have XX := hide (show ((w6.alloc ox).alloc oy).heap[w6.heap.size]? = some ox by rw [heap_old _ _ _ (by simp), heap_new])
            have XB := hide (show ((w6.alloc ox).alloc oy).heap[w6.heap.size + 1]? = some oy by exact heap_alloc2_new w6 _ _)
            have XA7 := hide ((hal.block _ (heap_lt XA6.out)).trans XA6.out)
            have R7 := hide (R6.out.below hal)
            have hnl6 := heap_lt N6.out
            have S7 := hide (S6.out.below hal)
            have D7 := hide (D6.out.below hal)
            have N7 := hide ((hal.block _ (heap_lt N6.out)).trans N6.out)
            have O7 := hide (O6.out.below hal)
            have B7 := hide (B6.out.trans (hal.mono HSZ6.out))
            have HSZ7 := hide (Nat.le_trans HSZ6.out hal.size)
            clear S6 D6 N6 O6 B6 HSZ6
            clear hal R6 XA6
            generalize (w6.alloc ox).alloc oy = w7 at *
            obtain ⟨xb, hxb⟩ : ∃ k, w6.heap.size = k := ⟨_, rfl⟩
            obtain ⟨tb, htb⟩ : ∃ k, xb + 1 = k := ⟨_, rfl⟩
            rw [hxb] at XX XB ⊢
            rw [htb] at XB ⊢
            rw [hox] at XX
            rw [hoy] at XB
            have HXN := hide (show nb ≠ xb from fun e => by omega)
            clear hox hoy ox oy hxb htb hnl6
            have XX8 := hide (show w7.drew.heap[xb]? = _ from XX.out)
            have XA8 := hide (show w7.drew.heap[ta]? = _ from XA7.out)
            have XB8 := hide (show w7.drew.heap[tb]? = _ from XB.out)
            have S8 := hide S7.out.drew
            have D8 := hide (show MdAt w7.drew mb M nw a cp from ⟨D7.out.1, ⟨D7.out.2.row, D7.out.2.now⟩⟩)
            have N8 := hide (show w7.drew.heap[nb]? = _ from N7.out)
            have O8 := hide O7.out.drew
            have R8 := hide (show RsIs w7.drew (shEndM M) nw' a' cp' from ⟨R7.out.row, R7.out.now⟩)
            have B8 := hide B7.out.drew
            have HSZ8 := hide (show q ≤ w7.drew.heap.size from HSZ7.out)
            clear XX XA7 XB S7 D7 N7 O7 R7 B7 HSZ7
            refine wp_region_held_drew (S := (fun W => W.heap[xb]? = some (.cells #[.int .i64 (shEndM M).keep, .int .i64 (shEndM M).next, .bool (shEndM M).op, .int .i64 nw'.c, .int .i64 nw'.s, .int .i64 nw'.v, .int .i64 nw'.r, .int .i64 nw'.i, .int .i64 nw'.o, .slice a' (shEndM M).L.length cp'] 32 (0, 0)) ∧ W.heap[ta]? = some (.cells #[.int .i64 (shEndT M).c, .int .i64 (shEndT M).s, .int .i64 (shEndT M).v, .int .i64 (shEndT M).r, .int .i64 (shEndT M).i, .int .i64 (shEndT M).o] 43 (0, 0)) ∧ W.heap[tb]? = some (.cells #[.int .i64 (shEndT M).c, .int .i64 (shEndT M).s, .int .i64 (shEndT M).v, .int .i64 (shEndT M).r, .int .i64 (shEndT M).i, .int .i64 (shEndT M).o] 29 (0, 0)))) (by kernel_rfl) (⟨XX8.out, XA8.out, XB8.out⟩) (fun hHeld => ?_)
            generalize w7.drew = w8 at *
            refine wpAnyH_take (i := 0) (oi := { dst := some 158, op := Op.load 32 (Operand.tmp 26), type := 32, pos := "law.go:79", after := #[], guard := none }) (v := ?_) rfl (by kernel_rfl) (by kernel_rfl) (by kernel_rfl) (fun _ _ _ h => h) (Or.inl ⟨by kernel_rfl, ?_⟩) hHeld ?_
            rotate_left
            · (intro w hSw; (try dsimp only at hSw); have e0 := cell_of_block hSw.1 0; have e1 := cell_of_block hSw.1 1; have e2 := cell_of_block hSw.1 2; have e3 := cell_of_block hSw.1 3; have e4 := cell_of_block hSw.1 4; have e5 := cell_of_block hSw.1 5; have e6 := cell_of_block hSw.1 6; have e7 := cell_of_block hSw.1 7; have e8 := cell_of_block hSw.1 8; have e9 := cell_of_block hSw.1 9; have g0 := cell_of_block hSw.2.1 0; have h0 := cell_of_block hSw.2.2 0; have g1 := cell_of_block hSw.2.1 1; have h1 := cell_of_block hSw.2.2 1; have g2 := cell_of_block hSw.2.1 2; have h2 := cell_of_block hSw.2.2 2; have g3 := cell_of_block hSw.2.1 3; have h3 := cell_of_block hSw.2.2 3; have g4 := cell_of_block hSw.2.1 4; have h4 := cell_of_block hSw.2.2 4; have g5 := cell_of_block hSw.2.1 5; have h5 := cell_of_block hSw.2.2 5; go_simp); try with_reducible rfl
            try simp only [Act.put, List.setIfInBounds_toArray, List.set_cons_zero, List.set_cons_succ]
            refine wpAnyH_take (i := 1) (oi := { dst := some 159, op := Op.move (Operand.tmp 23), type := 3, pos := "law.go:79", after := #[], guard := none }) (v := ?_) rfl (by kernel_rfl) (by kernel_rfl) (by kernel_rfl) (fun _ _ _ h => h) (Or.inl ⟨by kernel_rfl, ?_⟩) hHeld ?_
            rotate_left
            · (intro w hSw; (try dsimp only at hSw); have e0 := cell_of_block hSw.1 0; have e1 := cell_of_block hSw.1 1; have e2 := cell_of_block hSw.1 2; have e3 := cell_of_block hSw.1 3; have e4 := cell_of_block hSw.1 4; have e5 := cell_of_block hSw.1 5; have e6 := cell_of_block hSw.1 6; have e7 := cell_of_block hSw.1 7; have e8 := cell_of_block hSw.1 8; have e9 := cell_of_block hSw.1 9; have g0 := cell_of_block hSw.2.1 0; have h0 := cell_of_block hSw.2.2 0; have g1 := cell_of_block hSw.2.1 1; have h1 := cell_of_block hSw.2.2 1; have g2 := cell_of_block hSw.2.1 2; have h2 := cell_of_block hSw.2.2 2; have g3 := cell_of_block hSw.2.1 3; have h3 := cell_of_block hSw.2.2 3; have g4 := cell_of_block hSw.2.1 4; have h4 := cell_of_block hSw.2.2 4; have g5 := cell_of_block hSw.2.1 5; have h5 := cell_of_block hSw.2.2 5; go_simp); try with_reducible rfl
            try simp only [Act.put, List.setIfInBounds_toArray, List.set_cons_zero, List.set_cons_succ]
            refine wpAnyH_take (i := 2) (oi := { dst := some 160, op := Op.move (Operand.tmp 27), type := 3, pos := "law.go:79", after := #[], guard := none }) (v := ?_) rfl (by kernel_rfl) (by kernel_rfl) (by kernel_rfl) (fun _ _ _ h => h) (Or.inl ⟨by kernel_rfl, ?_⟩) hHeld ?_
            rotate_left
            · (intro w hSw; (try dsimp only at hSw); have e0 := cell_of_block hSw.1 0; have e1 := cell_of_block hSw.1 1; have e2 := cell_of_block hSw.1 2; have e3 := cell_of_block hSw.1 3; have e4 := cell_of_block hSw.1 4; have e5 := cell_of_block hSw.1 5; have e6 := cell_of_block hSw.1 6; have e7 := cell_of_block hSw.1 7; have e8 := cell_of_block hSw.1 8; have e9 := cell_of_block hSw.1 9; have g0 := cell_of_block hSw.2.1 0; have h0 := cell_of_block hSw.2.2 0; have g1 := cell_of_block hSw.2.1 1; have h1 := cell_of_block hSw.2.2 1; have g2 := cell_of_block hSw.2.1 2; have h2 := cell_of_block hSw.2.2 2; have g3 := cell_of_block hSw.2.1 3; have h3 := cell_of_block hSw.2.2 3; have g4 := cell_of_block hSw.2.1 4; have h4 := cell_of_block hSw.2.2 4; have g5 := cell_of_block hSw.2.1 5; have h5 := cell_of_block hSw.2.2 5; go_simp); try with_reducible rfl
            try simp only [Act.put, List.setIfInBounds_toArray, List.set_cons_zero, List.set_cons_succ]
            refine wpAnyH_take (i := 3) (oi := { dst := some 161, op := Op.binOp BinOp.eql 3 (Operand.tmp 159) (Operand.tmp 160) 3, type := 4, pos := "law.go:79", after := #[{ on := 1, ground := Ground.data }, { on := 2, ground := Ground.data }], guard := none }) (v := ?_) rfl (by kernel_rfl) (by kernel_rfl) (by kernel_rfl) (fun _ _ _ h => h) (Or.inl ⟨by kernel_rfl, ?_⟩) hHeld ?_
            rotate_left
            · (intro w hSw; (try dsimp only at hSw); have e0 := cell_of_block hSw.1 0; have e1 := cell_of_block hSw.1 1; have e2 := cell_of_block hSw.1 2; have e3 := cell_of_block hSw.1 3; have e4 := cell_of_block hSw.1 4; have e5 := cell_of_block hSw.1 5; have e6 := cell_of_block hSw.1 6; have e7 := cell_of_block hSw.1 7; have e8 := cell_of_block hSw.1 8; have e9 := cell_of_block hSw.1 9; have g0 := cell_of_block hSw.2.1 0; have h0 := cell_of_block hSw.2.2 0; have g1 := cell_of_block hSw.2.1 1; have h1 := cell_of_block hSw.2.2 1; have g2 := cell_of_block hSw.2.1 2; have h2 := cell_of_block hSw.2.2 2; have g3 := cell_of_block hSw.2.1 3; have h3 := cell_of_block hSw.2.2 3; have g4 := cell_of_block hSw.2.1 4; have h4 := cell_of_block hSw.2.2 4; have g5 := cell_of_block hSw.2.1 5; have h5 := cell_of_block hSw.2.2 5; go_simp); try with_reducible rfl
            try simp only [Act.put, List.setIfInBounds_toArray, List.set_cons_zero, List.set_cons_succ]
            refine wpAnyH_take (i := 4) (oi := { dst := some 162, op := Op.move (Operand.tmp 161), type := 4, pos := "law.go:79", after := #[{ on := 3, ground := Ground.data }], guard := none }) (v := ?_) rfl (by kernel_rfl) (by kernel_rfl) (by kernel_rfl) (fun _ _ _ h => h) (Or.inl ⟨by kernel_rfl, ?_⟩) hHeld ?_
            rotate_left
            · (intro w hSw; (try dsimp only at hSw); have e0 := cell_of_block hSw.1 0; have e1 := cell_of_block hSw.1 1; have e2 := cell_of_block hSw.1 2; have e3 := cell_of_block hSw.1 3; have e4 := cell_of_block hSw.1 4; have e5 := cell_of_block hSw.1 5; have e6 := cell_of_block hSw.1 6; have e7 := cell_of_block hSw.1 7; have e8 := cell_of_block hSw.1 8; have e9 := cell_of_block hSw.1 9; have g0 := cell_of_block hSw.2.1 0; have h0 := cell_of_block hSw.2.2 0; have g1 := cell_of_block hSw.2.1 1; have h1 := cell_of_block hSw.2.2 1; have g2 := cell_of_block hSw.2.1 2; have h2 := cell_of_block hSw.2.2 2; have g3 := cell_of_block hSw.2.1 3; have h3 := cell_of_block hSw.2.2 3; have g4 := cell_of_block hSw.2.1 4; have h4 := cell_of_block hSw.2.2 4; have g5 := cell_of_block hSw.2.1 5; have h5 := cell_of_block hSw.2.2 5; go_simp); try with_reducible rfl
            try simp only [Act.put, List.setIfInBounds_toArray, List.set_cons_zero, List.set_cons_succ]
            refine wpAnyH_take (i := 5) (oi := { dst := some 163, op := Op.load 43 (Operand.tmp 24), type := 43, pos := "law.go:79", after := #[{ on := 4, ground := Ground.guard }], guard := some (4, true) }) (v := ?_) rfl (by kernel_rfl) (by kernel_rfl) (by kernel_rfl) (fun _ _ _ h => h) (Or.inl ⟨by kernel_rfl, ?_⟩) hHeld ?_
            rotate_left
            · (intro w hSw; (try dsimp only at hSw); have e0 := cell_of_block hSw.1 0; have e1 := cell_of_block hSw.1 1; have e2 := cell_of_block hSw.1 2; have e3 := cell_of_block hSw.1 3; have e4 := cell_of_block hSw.1 4; have e5 := cell_of_block hSw.1 5; have e6 := cell_of_block hSw.1 6; have e7 := cell_of_block hSw.1 7; have e8 := cell_of_block hSw.1 8; have e9 := cell_of_block hSw.1 9; have g0 := cell_of_block hSw.2.1 0; have h0 := cell_of_block hSw.2.2 0; have g1 := cell_of_block hSw.2.1 1; have h1 := cell_of_block hSw.2.2 1; have g2 := cell_of_block hSw.2.1 2; have h2 := cell_of_block hSw.2.2 2; have g3 := cell_of_block hSw.2.1 3; have h3 := cell_of_block hSw.2.2 3; have g4 := cell_of_block hSw.2.1 4; have h4 := cell_of_block hSw.2.2 4; have g5 := cell_of_block hSw.2.1 5; have h5 := cell_of_block hSw.2.2 5; go_simp); try with_reducible rfl
            try simp only [Act.put, List.setIfInBounds_toArray, List.set_cons_zero, List.set_cons_succ]
            refine wpAnyH_take (i := 7) (oi := { dst := some 165, op := Op.load 29 (Operand.tmp 28), type := 29, pos := "law.go:79", after := #[{ on := 4, ground := Ground.guard }], guard := some (4, true) }) (v := ?_) rfl (by kernel_rfl) (by kernel_rfl) (by kernel_rfl) (fun _ _ _ h => h) (Or.inl ⟨by kernel_rfl, ?_⟩) hHeld ?_
            rotate_left
            · (intro w hSw; (try dsimp only at hSw); have e0 := cell_of_block hSw.1 0; have e1 := cell_of_block hSw.1 1; have e2 := cell_of_block hSw.1 2; have e3 := cell_of_block hSw.1 3; have e4 := cell_of_block hSw.1 4; have e5 := cell_of_block hSw.1 5; have e6 := cell_of_block hSw.1 6; have e7 := cell_of_block hSw.1 7; have e8 := cell_of_block hSw.1 8; have e9 := cell_of_block hSw.1 9; have g0 := cell_of_block hSw.2.1 0; have h0 := cell_of_block hSw.2.2 0; have g1 := cell_of_block hSw.2.1 1; have h1 := cell_of_block hSw.2.2 1; have g2 := cell_of_block hSw.2.1 2; have h2 := cell_of_block hSw.2.2 2; have g3 := cell_of_block hSw.2.1 3; have h3 := cell_of_block hSw.2.2 3; have g4 := cell_of_block hSw.2.1 4; have h4 := cell_of_block hSw.2.2 4; have g5 := cell_of_block hSw.2.1 5; have h5 := cell_of_block hSw.2.2 5; go_simp); try with_reducible rfl
            try simp only [Act.put, List.setIfInBounds_toArray, List.set_cons_zero, List.set_cons_succ]
            refine wpAnyH_ready (rs := [6]) (by kernel_rfl) (by simp) (AllReadyH.cons (o := { dst := some 164, op := Op.call { callee := Callee.value (Operand.func 14), args := #[Operand.tmp 163], argTypes := #[43] }, type := 29, pos := "law.go:79", after := #[{ on := 5, ground := Ground.data }, { on := 4, ground := Ground.chain }, { on := 4, ground := Ground.guard }], guard := some (4, true) }) rfl (fun K hK => ?_) AllReadyH.nil)
            have hOld := hide hHeld
            clear hHeld
            go_simp
            refine (HOF.out _).mono ?_
            rintro e w9 ⟨rfl, hb⟩
            have R9 := hide (R8.out.below hb)
            have XX9 := hide ((hb.block _ (heap_lt XX8.out)).trans XX8.out)
            have XA9 := hide ((hb.block _ (heap_lt XA8.out)).trans XA8.out)
            have XB9 := hide ((hb.block _ (heap_lt XB8.out)).trans XB8.out)
            have S9 := hide (S8.out.below hb)
            have D9 := hide (D8.out.below hb)
            have N9 := hide ((hb.block _ (heap_lt N8.out)).trans N8.out)
            have O9 := hide (O8.out.below hb)
            have B9 := hide (B8.out.trans (hb.mono HSZ8.out))
            have HSZ9 := hide (Nat.le_trans HSZ8.out hb.size)
            clear S8 D8 N8 O8 B8 HSZ8
            clear hb R8 XX8 XA8 XB8
            try unfold totA
            (try go_wp2_with fail)
            refine hK.out _ _ (⟨XX9.out, XA9.out, XB9.out⟩) (fun hHeld => ?_)
            clear hK K hOld
            try simp only [Act.put, List.setIfInBounds_toArray, List.set_cons_zero, List.set_cons_succ]
            refine wpAnyH_take (i := 8) (oi := { dst := some 166, op := Op.binOp BinOp.eql 29 (Operand.tmp 164) (Operand.tmp 165) 29, type := 4, pos := "law.go:79", after := #[{ on := 6, ground := Ground.data }, { on := 7, ground := Ground.data }, { on := 4, ground := Ground.guard }], guard := some (4, true) }) (v := ?_) rfl (by kernel_rfl) (by kernel_rfl) (by kernel_rfl) (fun _ _ _ h => h) (Or.inl ⟨by kernel_rfl, ?_⟩) hHeld ?_
            rotate_left
            · (intro w hSw; (try dsimp only at hSw); have e0 := cell_of_block hSw.1 0; have e1 := cell_of_block hSw.1 1; have e2 := cell_of_block hSw.1 2; have e3 := cell_of_block hSw.1 3; have e4 := cell_of_block hSw.1 4; have e5 := cell_of_block hSw.1 5; have e6 := cell_of_block hSw.1 6; have e7 := cell_of_block hSw.1 7; have e8 := cell_of_block hSw.1 8; have e9 := cell_of_block hSw.1 9; have g0 := cell_of_block hSw.2.1 0; have h0 := cell_of_block hSw.2.2 0; have g1 := cell_of_block hSw.2.1 1; have h1 := cell_of_block hSw.2.2 1; have g2 := cell_of_block hSw.2.1 2; have h2 := cell_of_block hSw.2.2 2; have g3 := cell_of_block hSw.2.1 3; have h3 := cell_of_block hSw.2.2 3; have g4 := cell_of_block hSw.2.1 4; have h4 := cell_of_block hSw.2.2 4; have g5 := cell_of_block hSw.2.1 5; have h5 := cell_of_block hSw.2.2 5; go_simp); try with_reducible rfl
            try simp only [Act.put, List.setIfInBounds_toArray, List.set_cons_zero, List.set_cons_succ]
            refine wpAnyH_take (i := 9) (oi := { dst := some 167, op := Op.pick (Operand.tmp 162) (Operand.tmp 166) (Operand.const (Value.bool false)), type := 4, pos := "law.go:79", after := #[{ on := 4, ground := Ground.data }, { on := 8, ground := Ground.data }], guard := none }) (v := ?_) rfl (by kernel_rfl) (by kernel_rfl) (by kernel_rfl) (fun _ _ _ h => h) (Or.inl ⟨by kernel_rfl, ?_⟩) hHeld ?_
            rotate_left
            · (intro w hSw; (try dsimp only at hSw); have e0 := cell_of_block hSw.1 0; have e1 := cell_of_block hSw.1 1; have e2 := cell_of_block hSw.1 2; have e3 := cell_of_block hSw.1 3; have e4 := cell_of_block hSw.1 4; have e5 := cell_of_block hSw.1 5; have e6 := cell_of_block hSw.1 6; have e7 := cell_of_block hSw.1 7; have e8 := cell_of_block hSw.1 8; have e9 := cell_of_block hSw.1 9; have g0 := cell_of_block hSw.2.1 0; have h0 := cell_of_block hSw.2.2 0; have g1 := cell_of_block hSw.2.1 1; have h1 := cell_of_block hSw.2.2 1; have g2 := cell_of_block hSw.2.1 2; have h2 := cell_of_block hSw.2.2 2; have g3 := cell_of_block hSw.2.1 3; have h3 := cell_of_block hSw.2.2 3; have g4 := cell_of_block hSw.2.1 4; have h4 := cell_of_block hSw.2.2 4; have g5 := cell_of_block hSw.2.1 5; have h5 := cell_of_block hSw.2.2 5; go_simp); try with_reducible rfl
            try simp only [Act.put, List.setIfInBounds_toArray, List.set_cons_zero, List.set_cons_succ]
            refine wpAnyH_take (i := 10) (oi := { dst := some 168, op := Op.move (Operand.tmp 167), type := 4, pos := "law.go:79", after := #[{ on := 9, ground := Ground.data }, { on := 6, ground := Ground.chain }], guard := none }) (v := ?_) rfl (by kernel_rfl) (by kernel_rfl) (by kernel_rfl) (fun _ _ _ h => h) (Or.inl ⟨by kernel_rfl, ?_⟩) hHeld ?_
            rotate_left
            · (intro w hSw; (try dsimp only at hSw); have e0 := cell_of_block hSw.1 0; have e1 := cell_of_block hSw.1 1; have e2 := cell_of_block hSw.1 2; have e3 := cell_of_block hSw.1 3; have e4 := cell_of_block hSw.1 4; have e5 := cell_of_block hSw.1 5; have e6 := cell_of_block hSw.1 6; have e7 := cell_of_block hSw.1 7; have e8 := cell_of_block hSw.1 8; have e9 := cell_of_block hSw.1 9; have g0 := cell_of_block hSw.2.1 0; have h0 := cell_of_block hSw.2.2 0; have g1 := cell_of_block hSw.2.1 1; have h1 := cell_of_block hSw.2.2 1; have g2 := cell_of_block hSw.2.1 2; have h2 := cell_of_block hSw.2.2 2; have g3 := cell_of_block hSw.2.1 3; have h3 := cell_of_block hSw.2.2 3; have g4 := cell_of_block hSw.2.1 4; have h4 := cell_of_block hSw.2.2 4; have g5 := cell_of_block hSw.2.1 5; have h5 := cell_of_block hSw.2.2 5; go_simp); try with_reducible rfl
            try simp only [Act.put, List.setIfInBounds_toArray, List.set_cons_zero, List.set_cons_succ]
            refine wpAnyH_take (i := 11) (oi := { dst := some 169, op := Op.move (Operand.tmp 25), type := 24, pos := "law.go:79", after := #[{ on := 10, ground := Ground.guard }, { on := 15, ground := Ground.gcOnly Departure.lateStores }], guard := some (10, true) }) (v := ?_) rfl (by kernel_rfl) (by kernel_rfl) (by kernel_rfl) (fun _ _ _ h => h) (Or.inl ⟨by kernel_rfl, ?_⟩) hHeld ?_
            rotate_left
            · (intro w hSw; (try dsimp only at hSw); have e0 := cell_of_block hSw.1 0; have e1 := cell_of_block hSw.1 1; have e2 := cell_of_block hSw.1 2; have e3 := cell_of_block hSw.1 3; have e4 := cell_of_block hSw.1 4; have e5 := cell_of_block hSw.1 5; have e6 := cell_of_block hSw.1 6; have e7 := cell_of_block hSw.1 7; have e8 := cell_of_block hSw.1 8; have e9 := cell_of_block hSw.1 9; have g0 := cell_of_block hSw.2.1 0; have h0 := cell_of_block hSw.2.2 0; have g1 := cell_of_block hSw.2.1 1; have h1 := cell_of_block hSw.2.2 1; have g2 := cell_of_block hSw.2.1 2; have h2 := cell_of_block hSw.2.2 2; have g3 := cell_of_block hSw.2.1 3; have h3 := cell_of_block hSw.2.2 3; have g4 := cell_of_block hSw.2.1 4; have h4 := cell_of_block hSw.2.2 4; have g5 := cell_of_block hSw.2.1 5; have h5 := cell_of_block hSw.2.2 5; go_simp); try with_reducible rfl
            try simp only [Act.put, List.setIfInBounds_toArray, List.set_cons_zero, List.set_cons_succ]
            refine wpAnyH_take (i := 12) (oi := { dst := some 170, op := Op.move (Operand.tmp 29), type := 3, pos := "law.go:79", after := #[{ on := 10, ground := Ground.guard }, { on := 15, ground := Ground.gcOnly Departure.lateStores }], guard := some (10, true) }) (v := ?_) rfl (by kernel_rfl) (by kernel_rfl) (by kernel_rfl) (fun _ _ _ h => h) (Or.inl ⟨by kernel_rfl, ?_⟩) hHeld ?_
            rotate_left
            · (intro w hSw; (try dsimp only at hSw); have e0 := cell_of_block hSw.1 0; have e1 := cell_of_block hSw.1 1; have e2 := cell_of_block hSw.1 2; have e3 := cell_of_block hSw.1 3; have e4 := cell_of_block hSw.1 4; have e5 := cell_of_block hSw.1 5; have e6 := cell_of_block hSw.1 6; have e7 := cell_of_block hSw.1 7; have e8 := cell_of_block hSw.1 8; have e9 := cell_of_block hSw.1 9; have g0 := cell_of_block hSw.2.1 0; have h0 := cell_of_block hSw.2.2 0; have g1 := cell_of_block hSw.2.1 1; have h1 := cell_of_block hSw.2.2 1; have g2 := cell_of_block hSw.2.1 2; have h2 := cell_of_block hSw.2.2 2; have g3 := cell_of_block hSw.2.1 3; have h3 := cell_of_block hSw.2.2 3; have g4 := cell_of_block hSw.2.1 4; have h4 := cell_of_block hSw.2.2 4; have g5 := cell_of_block hSw.2.1 5; have h5 := cell_of_block hSw.2.2 5; go_simp); try with_reducible rfl
            try simp only [Act.put, List.setIfInBounds_toArray, List.set_cons_zero, List.set_cons_succ]
            refine wpAnyH_take (i := 13) (oi := { dst := some 171, op := Op.binOp BinOp.eql 3 (Operand.tmp 169) (Operand.tmp 170) 3, type := 4, pos := "law.go:79", after := #[{ on := 11, ground := Ground.data }, { on := 12, ground := Ground.data }, { on := 10, ground := Ground.guard }, { on := 15, ground := Ground.gcOnly Departure.lateStores }], guard := some (10, true) }) (v := ?_) rfl (by kernel_rfl) (by kernel_rfl) (by kernel_rfl) (fun _ _ _ h => h) (Or.inl ⟨by kernel_rfl, ?_⟩) hHeld ?_
            rotate_left
            · (intro w hSw; (try dsimp only at hSw); have e0 := cell_of_block hSw.1 0; have e1 := cell_of_block hSw.1 1; have e2 := cell_of_block hSw.1 2; have e3 := cell_of_block hSw.1 3; have e4 := cell_of_block hSw.1 4; have e5 := cell_of_block hSw.1 5; have e6 := cell_of_block hSw.1 6; have e7 := cell_of_block hSw.1 7; have e8 := cell_of_block hSw.1 8; have e9 := cell_of_block hSw.1 9; have g0 := cell_of_block hSw.2.1 0; have h0 := cell_of_block hSw.2.2 0; have g1 := cell_of_block hSw.2.1 1; have h1 := cell_of_block hSw.2.2 1; have g2 := cell_of_block hSw.2.1 2; have h2 := cell_of_block hSw.2.2 2; have g3 := cell_of_block hSw.2.1 3; have h3 := cell_of_block hSw.2.2 3; have g4 := cell_of_block hSw.2.1 4; have h4 := cell_of_block hSw.2.2 4; have g5 := cell_of_block hSw.2.1 5; have h5 := cell_of_block hSw.2.2 5; go_simp); try with_reducible rfl
            try simp only [Act.put, List.setIfInBounds_toArray, List.set_cons_zero, List.set_cons_succ]
            refine wpAnyH_take (i := 14) (oi := { dst := some 172, op := Op.pick (Operand.tmp 168) (Operand.tmp 171) (Operand.const (Value.bool false)), type := 4, pos := "law.go:79", after := #[{ on := 10, ground := Ground.data }, { on := 13, ground := Ground.data }, { on := 15, ground := Ground.gcOnly Departure.lateStores }], guard := none }) (v := ?_) rfl (by kernel_rfl) (by kernel_rfl) (by kernel_rfl) (fun _ _ _ h => h) (Or.inl ⟨by kernel_rfl, ?_⟩) hHeld ?_
            rotate_left
            · (intro w hSw; (try dsimp only at hSw); have e0 := cell_of_block hSw.1 0; have e1 := cell_of_block hSw.1 1; have e2 := cell_of_block hSw.1 2; have e3 := cell_of_block hSw.1 3; have e4 := cell_of_block hSw.1 4; have e5 := cell_of_block hSw.1 5; have e6 := cell_of_block hSw.1 6; have e7 := cell_of_block hSw.1 7; have e8 := cell_of_block hSw.1 8; have e9 := cell_of_block hSw.1 9; have g0 := cell_of_block hSw.2.1 0; have h0 := cell_of_block hSw.2.2 0; have g1 := cell_of_block hSw.2.1 1; have h1 := cell_of_block hSw.2.2 1; have g2 := cell_of_block hSw.2.1 2; have h2 := cell_of_block hSw.2.2 2; have g3 := cell_of_block hSw.2.1 3; have h3 := cell_of_block hSw.2.2 3; have g4 := cell_of_block hSw.2.1 4; have h4 := cell_of_block hSw.2.2 4; have g5 := cell_of_block hSw.2.1 5; have h5 := cell_of_block hSw.2.2 5; go_simp); try with_reducible rfl
            try simp only [Act.put, List.setIfInBounds_toArray, List.set_cons_zero, List.set_cons_succ]
            refine wpAnyH_ready (rs := [15]) (by kernel_rfl) (by simp) (AllReadyH.cons (o := { dst := none, op := Op.store 32 (Operand.tmp 16) (Operand.tmp 158), type := 0, pos := "law.go:79", after := #[{ on := 0, ground := Ground.data }, { on := 10, ground := Ground.chain }, { on := 0, ground := Ground.phase }, { on := 1, ground := Ground.textOnly Departure.lateStores }, { on := 2, ground := Ground.textOnly Departure.lateStores }, { on := 3, ground := Ground.textOnly Departure.lateStores }, { on := 4, ground := Ground.textOnly Departure.lateStores }, { on := 5, ground := Ground.textOnly Departure.lateStores }, { on := 6, ground := Ground.textOnly Departure.lateStoresUnsure }, { on := 7, ground := Ground.textOnly Departure.lateStores }, { on := 8, ground := Ground.textOnly Departure.lateStores }, { on := 9, ground := Ground.textOnly Departure.lateStores }, { on := 10, ground := Ground.textOnly Departure.lateStores }, { on := 11, ground := Ground.textOnly Departure.lateStores }, { on := 12, ground := Ground.textOnly Departure.lateStores }, { on := 13, ground := Ground.textOnly Departure.lateStores }, { on := 14, ground := Ground.textOnly Departure.lateStores }], guard := none }) rfl (fun K hK => ?_) AllReadyH.nil)
            have hOld := hide hHeld
            clear hHeld
            refine rw_storeO 32 (.tmp 16) (.tmp 158) rfl nb rfl #[.int .i64 (shEndM M).keep, .int .i64 (shEndM M).next, .bool (shEndM M).op, .int .i64 nw'.c, .int .i64 nw'.s, .int .i64 nw'.v, .int .i64 nw'.r, .int .i64 nw'.i, .int .i64 nw'.o, .slice a' (shEndM M).L.length cp'] rfl _ N9.out (by kernel_rfl) rfl (rs_ones _ _ _ _ _ _ _ _ _ _ _ _) ?_
            have hts := setRow_same (cs := #[.int .i64 (shEndM M).keep, .int .i64 (shEndM M).next, .bool (shEndM M).op, .int .i64 nw'.c, .int .i64 nw'.s, .int .i64 nw'.v, .int .i64 nw'.r, .int .i64 nw'.i, .int .i64 nw'.o, .slice a' (shEndM M).L.length cp']) N9.out
            have hto := setRow_only w9 nb #[.int .i64 (shEndM M).keep, .int .i64 (shEndM M).next, .bool (shEndM M).op, .int .i64 nw'.c, .int .i64 nw'.s, .int .i64 nw'.v, .int .i64 nw'.r, .int .i64 nw'.i, .int .i64 nw'.o, .slice a' (shEndM M).L.length cp']
            have hkt := only_keeps (Ts := [32]) N9.out (by decide) hto
            have NN := hide hts
            have SA := hide (S9.out.keepsT hkt (by decide) (by decide))
            have DA := hide (D9.out.only N9.out hto HMN.out)
            have OA := hide (O9.out.keepsT hkt (by decide) (by decide))
            have RA := hide (R9.out.keepsT hkt (by decide))
            have BA := hide (hto.below B9.out HQN.out HSZ9.out)
            have XXA := hide ((setRow_diff (cs := #[.int .i64 (shEndM M).keep, .int .i64 (shEndM M).next, .bool (shEndM M).op, .int .i64 nw'.c, .int .i64 nw'.s, .int .i64 nw'.v, .int .i64 nw'.r, .int .i64 nw'.i, .int .i64 nw'.o, .slice a' (shEndM M).L.length cp']) HXN.out).trans XX9.out)
            have XAA := hide (hkt.cells XA9.out (by decide))
            have XBA := hide (hkt.cells XB9.out (by decide))
            clear hts hkt hto
            generalize w9.setRow nb #[.int .i64 (shEndM M).keep, .int .i64 (shEndM M).next, .bool (shEndM M).op, .int .i64 nw'.c, .int .i64 nw'.s, .int .i64 nw'.v, .int .i64 nw'.r, .int .i64 nw'.i, .int .i64 nw'.o, .slice a' (shEndM M).L.length cp'] = wA at *
            refine hK.out _ _ (⟨XXA.out, XAA.out, XBA.out⟩) (fun hHeld => ?_)
            clear hK K hOld
            try simp only [Act.put, List.setIfInBounds_toArray, List.set_cons_zero, List.set_cons_succ]
            refine wpAnyH_take (i := 16) (oi := { dst := some 17, op := Op.assign (Operand.tmp 172), type := 4, pos := "law.go:79", after := #[{ on := 14, ground := Ground.data }, { on := 15, ground := Ground.chain }, { on := 0, ground := Ground.phase }, { on := 1, ground := Ground.phase }, { on := 2, ground := Ground.phase }, { on := 3, ground := Ground.phase }, { on := 4, ground := Ground.phase }, { on := 5, ground := Ground.phase }, { on := 6, ground := Ground.phase }, { on := 7, ground := Ground.phase }, { on := 8, ground := Ground.phase }, { on := 9, ground := Ground.phase }, { on := 10, ground := Ground.phase }, { on := 11, ground := Ground.phase }, { on := 12, ground := Ground.phase }, { on := 13, ground := Ground.phase }, { on := 14, ground := Ground.phase }, { on := 15, ground := Ground.phase }], guard := none }) (v := ?_) rfl (by kernel_rfl) (by kernel_rfl) (by kernel_rfl) (fun _ _ _ h => h) (Or.inl ⟨by kernel_rfl, ?_⟩) hHeld ?_
            rotate_left
            · (intro w hSw; (try dsimp only at hSw); have e0 := cell_of_block hSw.1 0; have e1 := cell_of_block hSw.1 1; have e2 := cell_of_block hSw.1 2; have e3 := cell_of_block hSw.1 3; have e4 := cell_of_block hSw.1 4; have e5 := cell_of_block hSw.1 5; have e6 := cell_of_block hSw.1 6; have e7 := cell_of_block hSw.1 7; have e8 := cell_of_block hSw.1 8; have e9 := cell_of_block hSw.1 9; have g0 := cell_of_block hSw.2.1 0; have h0 := cell_of_block hSw.2.2 0; have g1 := cell_of_block hSw.2.1 1; have h1 := cell_of_block hSw.2.2 1; have g2 := cell_of_block hSw.2.1 2; have h2 := cell_of_block hSw.2.2 2; have g3 := cell_of_block hSw.2.1 3; have h3 := cell_of_block hSw.2.2 3; have g4 := cell_of_block hSw.2.1 4; have h4 := cell_of_block hSw.2.2 4; have g5 := cell_of_block hSw.2.1 5; have h5 := cell_of_block hSw.2.2 5; go_simp); try with_reducible rfl
            try simp only [Act.put, List.setIfInBounds_toArray, List.set_cons_zero, List.set_cons_succ]
            refine wpAnyH_done (by kernel_rfl) ?_ _
            clear hHeld
            go_wp2_with fail
            go_meet
            exact ⟨shEndM M, V', nw', a', cp', rfl, SA.out, NN.out, RA.out, DA.out, OA.out, BA.out⟩
        · have r3b : (s == 3) = false := beq_eq_false_iff_ne.mpr r3
          have r4b : (s == 4) = false := beq_eq_false_iff_ne.mpr r4
          clear r3 r4 hs2 hs3
          as_aux_lemma =>
            have d1 := cell_of_block X1.out 1
            have d2 := cell_of_block X1.out 2
            obtain ⟨⟨c0, c1, c2, c3, c4, c5, c6, c7, c8, c9⟩, ⟨f0, f1, f2, f3, f4, f5, f6, f7, f8, f9⟩⟩ := sh_facts D4.out.1
            clear f0 f1 f2 f3 f4 f5 f6 f7 f8 f9
            go_wp2_with fail
            refine (HRA.out w4 D4.out.2).mono ?_
            rintro e w6 ⟨nw', rfl, hr, hb⟩
            have R6 := hide hr
            have XC6 := hide ((hb.block _ (heap_lt X1.out)).trans X1.out)
            clear c0 c1 c2 c3 c4 c5 c6 c7 c8 c9 hr
            have S6 := hide (S4.out.below hb)
            have D6 := hide (D4.out.below hb)
            have N6 := hide ((hb.block _ (heap_lt N4.out)).trans N4.out)
            have O6 := hide (O4.out.below hb)
            have B6 := hide (B4.out.trans (hb.mono HSZ4.out))
            have HSZ6 := hide (Nat.le_trans HSZ4.out hb.size)
            clear S4 D4 N4 O4 B4 HSZ4
            clear hb
            unfold rsV
            go_upto_region 16 with (fail)
            obtain ⟨ox, hox⟩ : ∃ o, o = Obj.cells #[.int .i64 (shAddM M xk xa).keep, .int .i64 (shAddM M xk xa).next, .bool (shAddM M xk xa).op, .int .i64 nw'.c, .int .i64 nw'.s, .int .i64 nw'.v, .int .i64 nw'.r, .int .i64 nw'.i, .int .i64 nw'.o, .slice a (shAddM M xk xa).L.length cp] 32 := ⟨_, rfl⟩
            rw [← hox]
            have hal := (Below.refl w6.heap.size w6).alloc (Nat.le_refl _) ox
            have XX := hide (heap_new w6 ox)
            have XC7 := hide ((hal.block _ (heap_lt XC6.out)).trans XC6.out)
            have R7 := hide (R6.out.below hal)
            have hnl6 := heap_lt N6.out
            have S7 := hide (S6.out.below hal)
            have D7 := hide (D6.out.below hal)
            have N7 := hide ((hal.block _ (heap_lt N6.out)).trans N6.out)
            have O7 := hide (O6.out.below hal)
            have B7 := hide (B6.out.trans (hal.mono HSZ6.out))
            have HSZ7 := hide (Nat.le_trans HSZ6.out hal.size)
            clear S6 D6 N6 O6 B6 HSZ6
            clear hal R6 XC6
            generalize w6.alloc ox = w7 at *
            obtain ⟨xb, hxb⟩ : ∃ k, w6.heap.size = k := ⟨_, rfl⟩
            rw [hxb] at XX ⊢
            rw [hox] at XX
            have HXN := hide (show nb ≠ xb from fun e => by omega)
            clear hox ox hxb hnl6
            have XX8 := hide (show w7.drew.heap[xb]? = _ from XX.out)
            have XC8 := hide (show w7.drew.heap[ab]? = _ from XC7.out)
            have S8 := hide S7.out.drew
            have D8 := hide (show MdAt w7.drew mb M nw a cp from ⟨D7.out.1, ⟨D7.out.2.row, D7.out.2.now⟩⟩)
            have N8 := hide (show w7.drew.heap[nb]? = _ from N7.out)
            have O8 := hide O7.out.drew
            have R8 := hide (show RsIs w7.drew (shAddM M xk xa) nw' a cp from ⟨R7.out.row, R7.out.now⟩)
            have B8 := hide B7.out.drew
            have HSZ8 := hide (show q ≤ w7.drew.heap.size from HSZ7.out)
            clear XX XC7 S7 D7 N7 O7 R7 B7 HSZ7
            refine wp_region_held_drew (S := (fun W => W.heap[xb]? = some (.cells #[.int .i64 (shAddM M xk xa).keep, .int .i64 (shAddM M xk xa).next, .bool (shAddM M xk xa).op, .int .i64 nw'.c, .int .i64 nw'.s, .int .i64 nw'.v, .int .i64 nw'.r, .int .i64 nw'.i, .int .i64 nw'.o, .slice a (shAddM M xk xa).L.length cp] 32 (0, 0)) ∧ W.heap[ab]? = some (.cells #[.int .i64 xd, .int .u8 xk, .int .i64 xa] 35 (0, 0)))) (by kernel_rfl) (⟨XX8.out, XC8.out⟩) (fun hHeld => ?_)
            generalize w7.drew = w8 at *
            refine wpAnyH_take (i := 0) (oi := { dst := some 112, op := Op.load 32 (Operand.tmp 30), type := 32, pos := "law.go:82", after := #[], guard := none }) (v := ?_) rfl (by kernel_rfl) (by kernel_rfl) (by kernel_rfl) (fun _ _ _ h => h) (Or.inl ⟨by kernel_rfl, ?_⟩) hHeld ?_
            rotate_left
            · (intro w hSw; (try dsimp only at hSw); have e0 := cell_of_block hSw.1 0; have e1 := cell_of_block hSw.1 1; have e2 := cell_of_block hSw.1 2; have e3 := cell_of_block hSw.1 3; have e4 := cell_of_block hSw.1 4; have e5 := cell_of_block hSw.1 5; have e6 := cell_of_block hSw.1 6; have e7 := cell_of_block hSw.1 7; have e8 := cell_of_block hSw.1 8; have e9 := cell_of_block hSw.1 9; have g0 := cell_of_block hSw.2 0; have g1 := cell_of_block hSw.2 1; have g2 := cell_of_block hSw.2 2; go_simp); try with_reducible rfl
            try simp only [Act.put, List.setIfInBounds_toArray, List.set_cons_zero, List.set_cons_succ]
            refine wpAnyH_take (i := 1) (oi := { dst := some 113, op := Op.move (Operand.tmp 10), type := 23, pos := "law.go:82", after := #[], guard := none }) (v := ?_) rfl (by kernel_rfl) (by kernel_rfl) (by kernel_rfl) (fun _ _ _ h => h) (Or.inl ⟨by kernel_rfl, ?_⟩) hHeld ?_
            rotate_left
            · (intro w hSw; (try dsimp only at hSw); have e0 := cell_of_block hSw.1 0; have e1 := cell_of_block hSw.1 1; have e2 := cell_of_block hSw.1 2; have e3 := cell_of_block hSw.1 3; have e4 := cell_of_block hSw.1 4; have e5 := cell_of_block hSw.1 5; have e6 := cell_of_block hSw.1 6; have e7 := cell_of_block hSw.1 7; have e8 := cell_of_block hSw.1 8; have e9 := cell_of_block hSw.1 9; have g0 := cell_of_block hSw.2 0; have g1 := cell_of_block hSw.2 1; have g2 := cell_of_block hSw.2 2; go_simp); try with_reducible rfl
            try simp only [Act.put, List.setIfInBounds_toArray, List.set_cons_zero, List.set_cons_succ]
            refine wpAnyH_take (i := 2) (oi := { dst := some 114, op := Op.fieldAddr 35 (Operand.tmp 14) 1, type := 0, pos := "law.go:82", after := #[], guard := none }) (v := ?_) rfl (by kernel_rfl) (by kernel_rfl) (by kernel_rfl) (fun _ _ _ h => h) (Or.inl ⟨by kernel_rfl, ?_⟩) hHeld ?_
            rotate_left
            · (intro w hSw; (try dsimp only at hSw); have e0 := cell_of_block hSw.1 0; have e1 := cell_of_block hSw.1 1; have e2 := cell_of_block hSw.1 2; have e3 := cell_of_block hSw.1 3; have e4 := cell_of_block hSw.1 4; have e5 := cell_of_block hSw.1 5; have e6 := cell_of_block hSw.1 6; have e7 := cell_of_block hSw.1 7; have e8 := cell_of_block hSw.1 8; have e9 := cell_of_block hSw.1 9; have g0 := cell_of_block hSw.2 0; have g1 := cell_of_block hSw.2 1; have g2 := cell_of_block hSw.2 2; go_simp); try with_reducible rfl
            try simp only [Act.put, List.setIfInBounds_toArray, List.set_cons_zero, List.set_cons_succ]
            refine wpAnyH_take (i := 3) (oi := { dst := some 115, op := Op.load 5 (Operand.tmp 114), type := 5, pos := "law.go:82", after := #[{ on := 2, ground := Ground.data }], guard := none }) (v := ?_) rfl (by kernel_rfl) (by kernel_rfl) (by kernel_rfl) (fun _ _ _ h => h) (Or.inl ⟨by kernel_rfl, ?_⟩) hHeld ?_
            rotate_left
            · (intro w hSw; (try dsimp only at hSw); have e0 := cell_of_block hSw.1 0; have e1 := cell_of_block hSw.1 1; have e2 := cell_of_block hSw.1 2; have e3 := cell_of_block hSw.1 3; have e4 := cell_of_block hSw.1 4; have e5 := cell_of_block hSw.1 5; have e6 := cell_of_block hSw.1 6; have e7 := cell_of_block hSw.1 7; have e8 := cell_of_block hSw.1 8; have e9 := cell_of_block hSw.1 9; have g0 := cell_of_block hSw.2 0; have g1 := cell_of_block hSw.2 1; have g2 := cell_of_block hSw.2 2; go_simp); try with_reducible rfl
            try simp only [Act.put, List.setIfInBounds_toArray, List.set_cons_zero, List.set_cons_succ]
            refine wpAnyH_take (i := 4) (oi := { dst := some 116, op := Op.fieldAddr 35 (Operand.tmp 14) 2, type := 0, pos := "law.go:82", after := #[], guard := none }) (v := ?_) rfl (by kernel_rfl) (by kernel_rfl) (by kernel_rfl) (fun _ _ _ h => h) (Or.inl ⟨by kernel_rfl, ?_⟩) hHeld ?_
            rotate_left
            · (intro w hSw; (try dsimp only at hSw); have e0 := cell_of_block hSw.1 0; have e1 := cell_of_block hSw.1 1; have e2 := cell_of_block hSw.1 2; have e3 := cell_of_block hSw.1 3; have e4 := cell_of_block hSw.1 4; have e5 := cell_of_block hSw.1 5; have e6 := cell_of_block hSw.1 6; have e7 := cell_of_block hSw.1 7; have e8 := cell_of_block hSw.1 8; have e9 := cell_of_block hSw.1 9; have g0 := cell_of_block hSw.2 0; have g1 := cell_of_block hSw.2 1; have g2 := cell_of_block hSw.2 2; go_simp); try with_reducible rfl
            try simp only [Act.put, List.setIfInBounds_toArray, List.set_cons_zero, List.set_cons_succ]
            refine wpAnyH_take (i := 5) (oi := { dst := some 117, op := Op.load 2 (Operand.tmp 116), type := 2, pos := "law.go:82", after := #[{ on := 4, ground := Ground.data }], guard := none }) (v := ?_) rfl (by kernel_rfl) (by kernel_rfl) (by kernel_rfl) (fun _ _ _ h => h) (Or.inl ⟨by kernel_rfl, ?_⟩) hHeld ?_
            rotate_left
            · (intro w hSw; (try dsimp only at hSw); have e0 := cell_of_block hSw.1 0; have e1 := cell_of_block hSw.1 1; have e2 := cell_of_block hSw.1 2; have e3 := cell_of_block hSw.1 3; have e4 := cell_of_block hSw.1 4; have e5 := cell_of_block hSw.1 5; have e6 := cell_of_block hSw.1 6; have e7 := cell_of_block hSw.1 7; have e8 := cell_of_block hSw.1 8; have e9 := cell_of_block hSw.1 9; have g0 := cell_of_block hSw.2 0; have g1 := cell_of_block hSw.2 1; have g2 := cell_of_block hSw.2 2; go_simp); try with_reducible rfl
            try simp only [Act.put, List.setIfInBounds_toArray, List.set_cons_zero, List.set_cons_succ]
            refine wpAnyH_take (i := 7) (oi := { dst := some 119, op := Op.move (Operand.tmp 31), type := 3, pos := "law.go:82", after := #[{ on := 9, ground := Ground.gcOnly Departure.lateStores }], guard := none }) (v := ?_) rfl (by kernel_rfl) (by kernel_rfl) (by kernel_rfl) (fun _ _ _ h => h) (Or.inl ⟨by kernel_rfl, ?_⟩) hHeld ?_
            rotate_left
            · (intro w hSw; (try dsimp only at hSw); have e0 := cell_of_block hSw.1 0; have e1 := cell_of_block hSw.1 1; have e2 := cell_of_block hSw.1 2; have e3 := cell_of_block hSw.1 3; have e4 := cell_of_block hSw.1 4; have e5 := cell_of_block hSw.1 5; have e6 := cell_of_block hSw.1 6; have e7 := cell_of_block hSw.1 7; have e8 := cell_of_block hSw.1 8; have e9 := cell_of_block hSw.1 9; have g0 := cell_of_block hSw.2 0; have g1 := cell_of_block hSw.2 1; have g2 := cell_of_block hSw.2 2; go_simp); try with_reducible rfl
            try simp only [Act.put, List.setIfInBounds_toArray, List.set_cons_zero, List.set_cons_succ]
            refine wpAnyH_ready (rs := [6]) (by kernel_rfl) (by simp) (AllReadyH.cons (o := { dst := some 118, op := Op.call { callee := Callee.value (Operand.func 16), args := #[Operand.tmp 113, Operand.tmp 115, Operand.tmp 117], argTypes := #[23, 52, 41] }, type := 24, pos := "law.go:82", after := #[{ on := 1, ground := Ground.data }, { on := 3, ground := Ground.data }, { on := 5, ground := Ground.data }], guard := none }) rfl (fun K hK => ?_) AllReadyH.nil)
            have hOld := hide hHeld
            clear hHeld
            go_simp
            refine (HAD.out _ S8.out).mono ?_
            rintro e w9 ⟨rfl, hs9, hk9⟩
            have S9 := hide hs9
            have D9 := hide (D8.out.keepsT hk9.kt (by decide) (by decide))
            have N9 := hide (hk9.kt.cells N8.out (by decide))
            have O9 := hide (old_apart (q := q) (p := p) (M := M) (V := V) O8.out (fun z hz => HAP.out z (by rw [List.mem_singleton.1 hz]; exact List.mem_cons_self)) hk9.ol)
            have B9 := hide (hk9.base B8.out (fun z hz => by rw [List.mem_singleton.1 hz]; exact S8.out.low) HSZ8.out)
            have HSZ9 := hide (Nat.le_trans HSZ8.out hk9.ol.size)
            have R9 := hide (R8.out.keepsT hk9.kt (by decide))
            have XX9 := hide (hk9.kt.cells XX8.out (by decide))
            have XC9 := hide (hk9.kt.cells XC8.out (by decide))
            clear hs9 hk9 S8 D8 N8 O8 B8 HSZ8 R8 XX8 XC8
            (try go_wp2_with fail)
            refine hK.out _ _ (⟨XX9.out, XC9.out⟩) (fun hHeld => ?_)
            clear hK K hOld
            try simp only [Act.put, List.setIfInBounds_toArray, List.set_cons_zero, List.set_cons_succ]
            refine wpAnyH_take (i := 8) (oi := { dst := some 120, op := Op.binOp BinOp.eql 3 (Operand.tmp 118) (Operand.tmp 119) 3, type := 4, pos := "law.go:82", after := #[{ on := 6, ground := Ground.data }, { on := 7, ground := Ground.data }, { on := 9, ground := Ground.gcOnly Departure.lateStores }], guard := none }) (v := ?_) rfl (by kernel_rfl) (by kernel_rfl) (by kernel_rfl) (fun _ _ _ h => h) (Or.inl ⟨by kernel_rfl, ?_⟩) hHeld ?_
            rotate_left
            · (intro w hSw; (try dsimp only at hSw); have e0 := cell_of_block hSw.1 0; have e1 := cell_of_block hSw.1 1; have e2 := cell_of_block hSw.1 2; have e3 := cell_of_block hSw.1 3; have e4 := cell_of_block hSw.1 4; have e5 := cell_of_block hSw.1 5; have e6 := cell_of_block hSw.1 6; have e7 := cell_of_block hSw.1 7; have e8 := cell_of_block hSw.1 8; have e9 := cell_of_block hSw.1 9; have g0 := cell_of_block hSw.2 0; have g1 := cell_of_block hSw.2 1; have g2 := cell_of_block hSw.2 2; go_simp); try with_reducible rfl
            try simp only [Act.put, List.setIfInBounds_toArray, List.set_cons_zero, List.set_cons_succ]
            refine wpAnyH_ready (rs := [9]) (by kernel_rfl) (by simp) (AllReadyH.cons (o := { dst := none, op := Op.store 32 (Operand.tmp 16) (Operand.tmp 112), type := 0, pos := "law.go:82", after := #[{ on := 0, ground := Ground.data }, { on := 6, ground := Ground.chain }, { on := 0, ground := Ground.phase }, { on := 1, ground := Ground.textOnly Departure.lateStores }, { on := 2, ground := Ground.textOnly Departure.lateStores }, { on := 3, ground := Ground.textOnly Departure.lateStores }, { on := 4, ground := Ground.textOnly Departure.lateStores }, { on := 5, ground := Ground.textOnly Departure.lateStores }, { on := 6, ground := Ground.textOnly Departure.lateStoresUnsure }, { on := 7, ground := Ground.textOnly Departure.lateStores }, { on := 8, ground := Ground.textOnly Departure.lateStores }], guard := none }) rfl (fun K hK => ?_) AllReadyH.nil)
            have hOld := hide hHeld
            clear hHeld
            refine rw_storeO 32 (.tmp 16) (.tmp 112) rfl nb rfl #[.int .i64 (shAddM M xk xa).keep, .int .i64 (shAddM M xk xa).next, .bool (shAddM M xk xa).op, .int .i64 nw'.c, .int .i64 nw'.s, .int .i64 nw'.v, .int .i64 nw'.r, .int .i64 nw'.i, .int .i64 nw'.o, .slice a (shAddM M xk xa).L.length cp] rfl _ N9.out (by kernel_rfl) rfl (rs_ones _ _ _ _ _ _ _ _ _ _ _ _) ?_
            have hts := setRow_same (cs := #[.int .i64 (shAddM M xk xa).keep, .int .i64 (shAddM M xk xa).next, .bool (shAddM M xk xa).op, .int .i64 nw'.c, .int .i64 nw'.s, .int .i64 nw'.v, .int .i64 nw'.r, .int .i64 nw'.i, .int .i64 nw'.o, .slice a (shAddM M xk xa).L.length cp]) N9.out
            have hto := setRow_only w9 nb #[.int .i64 (shAddM M xk xa).keep, .int .i64 (shAddM M xk xa).next, .bool (shAddM M xk xa).op, .int .i64 nw'.c, .int .i64 nw'.s, .int .i64 nw'.v, .int .i64 nw'.r, .int .i64 nw'.i, .int .i64 nw'.o, .slice a (shAddM M xk xa).L.length cp]
            have hkt := only_keeps (Ts := [32]) N9.out (by decide) hto
            have NN := hide hts
            have SA := hide (S9.out.keepsT hkt (by decide) (by decide))
            have DA := hide (D9.out.only N9.out hto HMN.out)
            have OA := hide (O9.out.keepsT hkt (by decide) (by decide))
            have RA := hide (R9.out.keepsT hkt (by decide))
            have BA := hide (hto.below B9.out HQN.out HSZ9.out)
            have XXA := hide ((setRow_diff (cs := #[.int .i64 (shAddM M xk xa).keep, .int .i64 (shAddM M xk xa).next, .bool (shAddM M xk xa).op, .int .i64 nw'.c, .int .i64 nw'.s, .int .i64 nw'.v, .int .i64 nw'.r, .int .i64 nw'.i, .int .i64 nw'.o, .slice a (shAddM M xk xa).L.length cp]) HXN.out).trans XX9.out)
            have XCA := hide (hkt.cells XC9.out (by decide))
            clear hts hkt hto
            generalize w9.setRow nb #[.int .i64 (shAddM M xk xa).keep, .int .i64 (shAddM M xk xa).next, .bool (shAddM M xk xa).op, .int .i64 nw'.c, .int .i64 nw'.s, .int .i64 nw'.v, .int .i64 nw'.r, .int .i64 nw'.i, .int .i64 nw'.o, .slice a (shAddM M xk xa).L.length cp] = wA at *
            refine hK.out _ _ (⟨XXA.out, XCA.out⟩) (fun hHeld => ?_)
            clear hK K hOld
            try simp only [Act.put, List.setIfInBounds_toArray, List.set_cons_zero, List.set_cons_succ]
            refine wpAnyH_take (i := 10) (oi := { dst := some 17, op := Op.assign (Operand.tmp 120), type := 4, pos := "law.go:82", after := #[{ on := 8, ground := Ground.data }, { on := 9, ground := Ground.chain }, { on := 0, ground := Ground.phase }, { on := 1, ground := Ground.phase }, { on := 2, ground := Ground.phase }, { on := 3, ground := Ground.phase }, { on := 4, ground := Ground.phase }, { on := 5, ground := Ground.phase }, { on := 6, ground := Ground.phase }, { on := 7, ground := Ground.phase }, { on := 8, ground := Ground.phase }, { on := 9, ground := Ground.phase }], guard := none }) (v := ?_) rfl (by kernel_rfl) (by kernel_rfl) (by kernel_rfl) (fun _ _ _ h => h) (Or.inl ⟨by kernel_rfl, ?_⟩) hHeld ?_
            rotate_left
            · (intro w hSw; (try dsimp only at hSw); have e0 := cell_of_block hSw.1 0; have e1 := cell_of_block hSw.1 1; have e2 := cell_of_block hSw.1 2; have e3 := cell_of_block hSw.1 3; have e4 := cell_of_block hSw.1 4; have e5 := cell_of_block hSw.1 5; have e6 := cell_of_block hSw.1 6; have e7 := cell_of_block hSw.1 7; have e8 := cell_of_block hSw.1 8; have e9 := cell_of_block hSw.1 9; have g0 := cell_of_block hSw.2 0; have g1 := cell_of_block hSw.2 1; have g2 := cell_of_block hSw.2 2; go_simp); try with_reducible rfl
            try simp only [Act.put, List.setIfInBounds_toArray, List.set_cons_zero, List.set_cons_succ]
            refine wpAnyH_done (by kernel_rfl) ?_ _
            clear hHeld
            go_wp2_with fail
            go_meet
            exact ⟨shAddM M xk xa, V, nw', a, cp, rfl, SA.out, NN.out, RA.out, DA.out, OA.out, BA.out⟩
      case rest =>
        obtain ⟨M', V', nw', a', cp', rfl, hs, hn, hr, hd, ho, hb⟩ := hcut
        have S5 := hide hs
        have N5 := hide hn
        have R5 := hide hr
        have D5 := hide hd
        have O5 := hide ho
        have B5 := hide hb
        have HSZ5 := hide (show q ≤ wc.heap.size from Nat.le_trans (Nat.le_of_eq HQ.out.symm) hb.size)
        clear hs hn hr hd ho hb S4 N4 D4 O4 B4 HSZ4 hs2 hs3
        have HSA := hide (fun W h1 h2 => same26_any p2 p2 M V2 nw a cp W h1 h2)
        have HSB := hide (fun W h1 h2 => same26_any q p M' V' nw' a' cp' W h1 h2)
        unfold rsV at HSA HSB
        obtain ⟨⟨c0, c1, c2, c3, c4, c5, c6, c7, c8, c9⟩, ⟨f0, f1, f2, f3, f4, f5, f6, f7, f8, f9⟩⟩ := sh_facts D5.out.1
        clear f0 f1 f2 f3 f4 f5 f6 f7 f8 f9
        go_wp2_with fail
        refine (HSA.out wc O5.out D5.out.2).mono ?_
        rintro e w6 ⟨rfl, hb⟩
        clear c0 c1 c2 c3 c4 c5 c6 c7 c8 c9
        have R6 := hide (R5.out.below hb)
        have S6 := hide (S5.out.below hb)
        have D6 := hide (D5.out.below hb)
        have N6 := hide ((hb.block _ (heap_lt N5.out)).trans N5.out)
        have O6 := hide (O5.out.below hb)
        have B6 := hide (B5.out.trans (hb.mono HSZ5.out))
        have HSZ6 := hide (Nat.le_trans HSZ5.out hb.size)
        clear S5 D5 N5 O5 B5 HSZ5
        clear hb R5
        obtain ⟨⟨c0, c1, c2, c3, c4, c5, c6, c7, c8, c9⟩, ⟨f0, f1, f2, f3, f4, f5, f6, f7, f8, f9⟩⟩ := sh_facts N6.out
        clear f0 f1 f2 f3 f4 f5 f6 f7 f8 f9
        go_wp2_with fail
        refine (HSB.out w6 S6.out R6.out).mono ?_
        rintro e w7 ⟨rfl, hb⟩
        clear c0 c1 c2 c3 c4 c5 c6 c7 c8 c9
        have R7 := hide (R6.out.below hb)
        have S7 := hide (S6.out.below hb)
        have D7 := hide (D6.out.below hb)
        have N7 := hide ((hb.block _ (heap_lt N6.out)).trans N6.out)
        have O7 := hide (O6.out.below hb)
        have B7 := hide (B6.out.trans (hb.mono HSZ6.out))
        have HSZ7 := hide (Nat.le_trans HSZ6.out hb.size)
        clear S6 D6 N6 O6 B6 HSZ6
        clear hb R6 O7
        obtain ⟨⟨c0, c1, c2, c3, c4, c5, c6, c7, c8, c9⟩, ⟨f0, f1, f2, f3, f4, f5, f6, f7, f8, f9⟩⟩ := sh_facts N7.out
        clear f0 f1 f2 f3 f4 f5 f6 f7 f8 f9
        obtain ⟨⟨d0, d1, d2, d3, d4, d5, d6, d7, d8, d9⟩, ⟨e0, e1, e2, e3, e4, e5, e6, e7, e8, e9⟩⟩ := sh_facts D7.out.1
        go_wp2_with fail
        clear c0 c1 c2 c3 c4 c5 c6 c7 c8 c9 d0 d1 d2 d3 d4 d5 d6 d7 d8 d9 e0 e1 e2 e3 e4 e5 e6 e7 e8 e9
        have hts := ten_set (.int .i64 M'.keep) (.int .i64 M'.next) (.bool M'.op) (.int .i64 nw'.c) (.int .i64 nw'.s) (.int .i64 nw'.v) (.int .i64 nw'.r) (.int .i64 nw'.i) (.int .i64 nw'.o) (.slice a' M'.L.length cp') D7.out.1
        have hkt := only_keeps (Ts := [32]) D7.out.1 (by decide) hts.2
        have S8 := hide (S7.out.keepsT hkt (by decide) (by decide))
        have D8 := hide (show MdAt ((((((((((w7.setCell ⟨mb, 0, none⟩ (.int .i64 M'.keep)).setCell ⟨mb, 1, none⟩ (.int .i64 M'.next)).setCell ⟨mb, 2, none⟩ (.bool M'.op)).setCell ⟨mb, 3, none⟩ (.int .i64 nw'.c)).setCell ⟨mb, 4, none⟩ (.int .i64 nw'.s)).setCell ⟨mb, 5, none⟩ (.int .i64 nw'.v)).setCell ⟨mb, 6, none⟩ (.int .i64 nw'.r)).setCell ⟨mb, 7, none⟩ (.int .i64 nw'.i)).setCell ⟨mb, 8, none⟩ (.int .i64 nw'.o)).setCell ⟨mb, 9, none⟩ (.slice a' M'.L.length cp')) mb M' nw' a' cp' from ⟨hts.1, R7.out.keepsT hkt (by decide)⟩)
        have B8 := hide (hts.2.below B7.out HQM.out HSZ7.out)
        have HSZ8 := hide (Nat.le_trans HSZ7.out hts.2.size)
        clear hts hkt S7 D7 N7 R7 B7 HSZ7
        go_roundw
        case rel => exact ⟨j + 1, M', V', nw', a', cp', by have := HJN.out; omega, by go_num, S8.out, D8.out, B8.out, HSZ8.out⟩
        case measure => have := HJN.out; simp [intOf]; omega
    · obtain rfl : j = n := by omega
      have HOF := hide (fun (t : TotM) W => lof_any t.c t.s t.v t.r t.i t.o W)
      have HTX := hide (fun W h2 => rshtext M HOKM.out nw a cp W h2)
      have HRO := hide (fun W h2 => rsof_any num HNUM.out M nw a cp W HOKM.out h2)
      have HSO := hide (fun W h1 => shtot_any num HNUM.out q p M V W h1)
      unfold rsV at HTX HRO
      unfold totA at HOF
      have HBAD := hide (shF_ok HOKM.out)
      obtain ⟨fl9, hfl9⟩ : ∃ f, shF M = f := ⟨_, rfl⟩
      rw [hfl9] at HBAD HTX
      have HFL9 := hide hfl9
      clear hfl9
      have hal := (Below.refl wr.heap.size wr).alloc (Nat.le_refl _) (.cells #[.slice none 0 0, .bool false] 56)
      have HWN := hide (WF.new (w := wr) (B := wr.heap.size) (Nat.le_refl _))
      have S2 := hide (S1.out.below hal)
      have D2 := hide (D1.out.below hal)
      have HWW := hide (show Calls Try.prog 18 #[.pointer (some ⟨p, 0, none⟩), .pointer (some ⟨wr.heap.size, 0, none⟩)] (wr.alloc (.cells #[.slice none 0 0, .bool false] 56)) fun e w' => e = .returned (.tuple #[]) ∧ WF w' wr.heap.size wr.heap.size ([] ++ shF M) ∧ Below wr.heap.size wr w' ∧ KeepsT WFK (wr.alloc (.cells #[.slice none 0 0, .bool false] 56)) w' from shwrite_any q p M V wr.heap.size [] (by decide) wr _ S1.out hal HWN.out (Nat.le_refl _))
      rw [List.nil_append, HFL9.out] at HWW
      clear hal
      go_upto_region 30 with (fail)
      generalize wr.alloc (.cells #[.slice none 0 0, .bool false] 56) = w2 at *
      go_wp2_with fail
      refine HWW.out.mono ?_
      rintro e w3 ⟨rfl, hw, hb, -⟩
      have F3 := hide hw
      have S3 := hide (S1.out.below hb)
      have D3 := hide (D1.out.below hb)
      have B3 := hide (B1.out.trans (hb.mono HSZ1.out))
      have HSZ3 := hide (Nat.le_trans HSZ1.out hb.size)
      clear hw hb S2 D2 HWN HWW S1 D1 B1 HSZ1
      generalize wr.heap.size = wq at *
      go_wp2_with fail
      refine (shwrite_nil q p M V w3 S3.out).mono ?_
      rintro e w4 ⟨rfl, hb⟩
      have F4 := hide (F3.out.below hb)
      have S4 := hide (S3.out.below hb)
      have D4 := hide (D3.out.below hb)
      have B4 := hide (B3.out.trans (hb.mono HSZ3.out))
      have HSZ4 := hide (Nat.le_trans HSZ3.out hb.size)
      clear hb F3 S3 D3 B3 HSZ3
      go_wp2_with fail
      refine (wf_bytes wq wq fl9 w4 F4.out).mono ?_
      rintro e w5 ⟨rfl, rfl⟩
      rw [HBAD.out, if_neg (by decide)]
      clear F4
      go_wp2_with fail
      refine (HSO.out w4 S4.out).mono ?_
      rintro e w6 ⟨rfl, hb⟩
      have S6 := hide (S4.out.below hb)
      have D6 := hide (D4.out.below hb)
      have B6 := hide (B4.out.trans (hb.mono HSZ4.out))
      have HSZ6 := hide (Nat.le_trans HSZ4.out hb.size)
      clear hb S4 D4 B4 HSZ4
      unfold STotIs at HRO
      generalize (shTot M num).getD tot0 = t at *
      generalize (shTot M num).isSome = tfl at *
      unfold totV at HRO ⊢
      go_upto_region 34 with (fail)
      obtain ⟨ox, hox⟩ : ∃ o, o = Obj.cells #[.int .i64 t.c, .int .i64 t.s, .int .i64 t.v, .int .i64 t.r, .int .i64 t.i, .int .i64 t.o] 43 := ⟨_, rfl⟩
      rw [← hox]
      have hal := (Below.refl w6.heap.size w6).alloc (Nat.le_refl _) ox
      have XA := hide (heap_new w6 ox)
      have D7 := hide (D6.out.below hal)
      have B7 := hide (B6.out.trans (hal.mono HSZ6.out))
      have HSZ7 := hide (Nat.le_trans HSZ6.out hal.size)
      clear hal S6 D6 B6 HSZ6
      generalize w6.alloc ox = w7 at *
      obtain ⟨ta, hta⟩ : ∃ k, w6.heap.size = k := ⟨_, rfl⟩
      rw [hta] at XA ⊢
      rw [hox] at XA
      clear hox ox hta
      obtain ⟨⟨d0, d1, d2, d3, d4, d5, d6, d7, d8, d9⟩, ⟨e0, e1, e2, e3, e4, e5, e6, e7, e8, e9⟩⟩ := sh_facts D7.out.1
      clear e0 e1 e2 e3 e4 e5 e6 e7 e8 e9
      go_wp2_with fail
      refine (HRO.out w7 D7.out.2).mono ?_
      rintro e w8 ⟨rfl, hb⟩
      have XA8 := hide ((hb.block _ (heap_lt XA.out)).trans XA.out)
      have D8 := hide (D7.out.below hb)
      have B8 := hide (B7.out.trans (hb.mono HSZ7.out))
      have HSZ8 := hide (Nat.le_trans HSZ7.out hb.size)
      clear hb XA D7 B7 HSZ7 d0 d1 d2 d3 d4 d5 d6 d7 d8 d9
      go_upto_region 35 with (fail)
      obtain ⟨ox, hox⟩ : ∃ o, o = Obj.cells #[.int .i64 t.c, .int .i64 t.s, .int .i64 t.v, .int .i64 t.r, .int .i64 t.i, .int .i64 t.o] 29 := ⟨_, rfl⟩
      rw [← hox]
      have hal := (Below.refl w8.heap.size w8).alloc (Nat.le_refl _) ox
      have XB := hide (heap_new w8 ox)
      have XA9 := hide ((hal.block _ (heap_lt XA8.out)).trans XA8.out)
      have D9 := hide (D8.out.below hal)
      have B9 := hide (B8.out.trans (hal.mono HSZ8.out))
      have HSZ9 := hide (Nat.le_trans HSZ8.out hal.size)
      clear hal XA8 D8 B8 HSZ8
      generalize w8.alloc ox = w7 at *
      obtain ⟨tb, htb⟩ : ∃ k, w8.heap.size = k := ⟨_, rfl⟩
      rw [htb] at XB ⊢
      rw [hox] at XB
      clear hox ox htb
      have XA8 := hide (show w7.drew.heap[ta]? = _ from XA9.out)
      have XB8 := hide (show w7.drew.heap[tb]? = _ from XB.out)
      have D8 := hide (show MdAt w7.drew mb M nw a cp from ⟨D9.out.1, ⟨D9.out.2.row, D9.out.2.now⟩⟩)
      have B8 := hide B9.out.drew
      have HSZ8 := hide (show q ≤ w7.drew.heap.size from HSZ9.out)
      clear XA9 XB D9 B9 HSZ9
      have hrl := rguard_eql
      have hre := reql_self
      refine wp_region_held_drew (S := (fun W => W.heap[mb]? = some (.cells #[.int .i64 M.keep, .int .i64 M.next, .bool M.op, .int .i64 nw.c, .int .i64 nw.s, .int .i64 nw.v, .int .i64 nw.r, .int .i64 nw.i, .int .i64 nw.o, .slice a M.L.length cp] 32 (0, 0)) ∧ W.heap[ta]? = some (.cells #[.int .i64 t.c, .int .i64 t.s, .int .i64 t.v, .int .i64 t.r, .int .i64 t.i, .int .i64 t.o] 43 (0, 0)) ∧ W.heap[tb]? = some (.cells #[.int .i64 t.c, .int .i64 t.s, .int .i64 t.v, .int .i64 t.r, .int .i64 t.i, .int .i64 t.o] 29 (0, 0)))) (by kernel_rfl) (⟨D8.out.1, XA8.out, XB8.out⟩) (fun hHeld => ?_)
      generalize w7.drew = w8 at *
      refine wpAnyH_take (i := 0) (oi := { dst := some 209, op := Op.move (Operand.tmp 34), type := 24, pos := "law.go:95", after := #[], guard := none }) (v := ?_) rfl (by kernel_rfl) (by kernel_rfl) (by kernel_rfl) (fun _ _ _ h => h) (Or.inl ⟨by kernel_rfl, ?_⟩) hHeld ?_
      rotate_left
      · (intro w hSw; (try dsimp only at hSw); have e0 := cell_of_block hSw.1 0; have e1 := cell_of_block hSw.1 1; have e2 := cell_of_block hSw.1 2; have e3 := cell_of_block hSw.1 3; have e4 := cell_of_block hSw.1 4; have e5 := cell_of_block hSw.1 5; have e6 := cell_of_block hSw.1 6; have e7 := cell_of_block hSw.1 7; have e8 := cell_of_block hSw.1 8; have e9 := cell_of_block hSw.1 9; have g0 := cell_of_block hSw.2.1 0; have h0 := cell_of_block hSw.2.2 0; have g1 := cell_of_block hSw.2.1 1; have h1 := cell_of_block hSw.2.2 1; have g2 := cell_of_block hSw.2.1 2; have h2 := cell_of_block hSw.2.2 2; have g3 := cell_of_block hSw.2.1 3; have h3 := cell_of_block hSw.2.2 3; have g4 := cell_of_block hSw.2.1 4; have h4 := cell_of_block hSw.2.2 4; have g5 := cell_of_block hSw.2.1 5; have h5 := cell_of_block hSw.2.2 5; go_simp); try with_reducible rfl
      try simp only [Act.put, List.setIfInBounds_toArray, List.set_cons_zero, List.set_cons_succ]
      refine wpAnyH_take (i := 1) (oi := { dst := some 210, op := Op.binOp BinOp.eql 24 (Operand.tmp 209) (Operand.const (Value.int IntKind.i64 0)) 24, type := 4, pos := "law.go:95", after := #[{ on := 0, ground := Ground.data }], guard := none }) (v := ?_) rfl (by kernel_rfl) (by kernel_rfl) (by kernel_rfl) (fun _ _ _ h => h) (Or.inl ⟨by kernel_rfl, ?_⟩) hHeld ?_
      rotate_left
      · (intro w hSw; (try dsimp only at hSw); have e0 := cell_of_block hSw.1 0; have e1 := cell_of_block hSw.1 1; have e2 := cell_of_block hSw.1 2; have e3 := cell_of_block hSw.1 3; have e4 := cell_of_block hSw.1 4; have e5 := cell_of_block hSw.1 5; have e6 := cell_of_block hSw.1 6; have e7 := cell_of_block hSw.1 7; have e8 := cell_of_block hSw.1 8; have e9 := cell_of_block hSw.1 9; have g0 := cell_of_block hSw.2.1 0; have h0 := cell_of_block hSw.2.2 0; have g1 := cell_of_block hSw.2.1 1; have h1 := cell_of_block hSw.2.2 1; have g2 := cell_of_block hSw.2.1 2; have h2 := cell_of_block hSw.2.2 2; have g3 := cell_of_block hSw.2.1 3; have h3 := cell_of_block hSw.2.2 3; have g4 := cell_of_block hSw.2.1 4; have h4 := cell_of_block hSw.2.2 4; have g5 := cell_of_block hSw.2.1 5; have h5 := cell_of_block hSw.2.2 5; go_simp); try with_reducible rfl
      try simp only [Act.put, List.setIfInBounds_toArray, List.set_cons_zero, List.set_cons_succ]
      refine wpAnyH_take (i := 2) (oi := { dst := some 211, op := Op.move (Operand.tmp 210), type := 4, pos := "law.go:95", after := #[{ on := 1, ground := Ground.data }], guard := none }) (v := ?_) rfl (by kernel_rfl) (by kernel_rfl) (by kernel_rfl) (fun _ _ _ h => h) (Or.inl ⟨by kernel_rfl, ?_⟩) hHeld ?_
      rotate_left
      · (intro w hSw; (try dsimp only at hSw); have e0 := cell_of_block hSw.1 0; have e1 := cell_of_block hSw.1 1; have e2 := cell_of_block hSw.1 2; have e3 := cell_of_block hSw.1 3; have e4 := cell_of_block hSw.1 4; have e5 := cell_of_block hSw.1 5; have e6 := cell_of_block hSw.1 6; have e7 := cell_of_block hSw.1 7; have e8 := cell_of_block hSw.1 8; have e9 := cell_of_block hSw.1 9; have g0 := cell_of_block hSw.2.1 0; have h0 := cell_of_block hSw.2.2 0; have g1 := cell_of_block hSw.2.1 1; have h1 := cell_of_block hSw.2.2 1; have g2 := cell_of_block hSw.2.1 2; have h2 := cell_of_block hSw.2.2 2; have g3 := cell_of_block hSw.2.1 3; have h3 := cell_of_block hSw.2.2 3; have g4 := cell_of_block hSw.2.1 4; have h4 := cell_of_block hSw.2.2 4; have g5 := cell_of_block hSw.2.1 5; have h5 := cell_of_block hSw.2.2 5; go_simp); try with_reducible rfl
      try simp only [Act.put, List.setIfInBounds_toArray, List.set_cons_zero, List.set_cons_succ]
      refine wpAnyH_take (i := 3) (oi := { dst := some 212, op := Op.move (Operand.tmp 33), type := 9, pos := "law.go:95", after := #[{ on := 2, ground := Ground.guard }], guard := some (2, true) }) (v := ?_) rfl (by kernel_rfl) (by kernel_rfl) (by kernel_rfl) (fun _ _ _ h => h) (Or.inl ⟨by kernel_rfl, ?_⟩) hHeld ?_
      rotate_left
      · (intro w hSw; (try dsimp only at hSw); have e0 := cell_of_block hSw.1 0; have e1 := cell_of_block hSw.1 1; have e2 := cell_of_block hSw.1 2; have e3 := cell_of_block hSw.1 3; have e4 := cell_of_block hSw.1 4; have e5 := cell_of_block hSw.1 5; have e6 := cell_of_block hSw.1 6; have e7 := cell_of_block hSw.1 7; have e8 := cell_of_block hSw.1 8; have e9 := cell_of_block hSw.1 9; have g0 := cell_of_block hSw.2.1 0; have h0 := cell_of_block hSw.2.2 0; have g1 := cell_of_block hSw.2.1 1; have h1 := cell_of_block hSw.2.2 1; have g2 := cell_of_block hSw.2.1 2; have h2 := cell_of_block hSw.2.2 2; have g3 := cell_of_block hSw.2.1 3; have h3 := cell_of_block hSw.2.2 3; have g4 := cell_of_block hSw.2.1 4; have h4 := cell_of_block hSw.2.2 4; have g5 := cell_of_block hSw.2.1 5; have h5 := cell_of_block hSw.2.2 5; go_simp); try with_reducible rfl
      try simp only [Act.put, List.setIfInBounds_toArray, List.set_cons_zero, List.set_cons_succ]
      refine wpAnyH_take (i := 4) (oi := { dst := some 213, op := Op.load 32 (Operand.tmp 12), type := 32, pos := "law.go:95", after := #[{ on := 2, ground := Ground.guard }], guard := some (2, true) }) (v := ?_) rfl (by kernel_rfl) (by kernel_rfl) (by kernel_rfl) (fun _ _ _ h => h) (Or.inl ⟨by kernel_rfl, ?_⟩) hHeld ?_
      rotate_left
      · (intro w hSw; (try dsimp only at hSw); have e0 := cell_of_block hSw.1 0; have e1 := cell_of_block hSw.1 1; have e2 := cell_of_block hSw.1 2; have e3 := cell_of_block hSw.1 3; have e4 := cell_of_block hSw.1 4; have e5 := cell_of_block hSw.1 5; have e6 := cell_of_block hSw.1 6; have e7 := cell_of_block hSw.1 7; have e8 := cell_of_block hSw.1 8; have e9 := cell_of_block hSw.1 9; have g0 := cell_of_block hSw.2.1 0; have h0 := cell_of_block hSw.2.2 0; have g1 := cell_of_block hSw.2.1 1; have h1 := cell_of_block hSw.2.2 1; have g2 := cell_of_block hSw.2.1 2; have h2 := cell_of_block hSw.2.2 2; have g3 := cell_of_block hSw.2.1 3; have h3 := cell_of_block hSw.2.2 3; have g4 := cell_of_block hSw.2.1 4; have h4 := cell_of_block hSw.2.2 4; have g5 := cell_of_block hSw.2.1 5; have h5 := cell_of_block hSw.2.2 5; go_simp); try with_reducible rfl
      try simp only [Act.put, List.setIfInBounds_toArray, List.set_cons_zero, List.set_cons_succ]
      refine wpAnyH_ready (rs := [5]) (by kernel_rfl) (by simp) (AllReadyH.cons (o := { dst := some 214, op := Op.call { callee := Callee.value (Operand.func 22), args := #[Operand.tmp 213], argTypes := #[32] }, type := 9, pos := "law.go:95", after := #[{ on := 4, ground := Ground.data }, { on := 2, ground := Ground.chain }, { on := 2, ground := Ground.guard }], guard := some (2, true) }) rfl (fun K hK => ?_) AllReadyH.nil)
      have hOld := hide hHeld
      clear hHeld
      go_simp
      refine (HTX.out _ D8.out.2).mono ?_
      rintro e w9 ⟨rfl, hb⟩
      have D9 := hide (D8.out.below hb)
      have XA9 := hide ((hb.block _ (heap_lt XA8.out)).trans XA8.out)
      have XB9 := hide ((hb.block _ (heap_lt XB8.out)).trans XB8.out)
      have B9 := hide (B8.out.trans (hb.mono HSZ8.out))
      have HSZ9 := hide (Nat.le_trans HSZ8.out hb.size)
      clear hb D8 XA8 XB8 B8 HSZ8

      (try go_wp2_with fail)
      refine hK.out _ _ (⟨D9.out.1, XA9.out, XB9.out⟩) (fun hHeld => ?_)
      clear hK K hOld
      try simp only [Act.put, List.setIfInBounds_toArray, List.set_cons_zero, List.set_cons_succ]
      refine wpAnyH_take (i := 6) (oi := { dst := some 215, op := Op.binOp BinOp.eql 9 (Operand.tmp 212) (Operand.tmp 214) 9, type := 4, pos := "law.go:95", after := #[{ on := 3, ground := Ground.data }, { on := 5, ground := Ground.data }, { on := 2, ground := Ground.guard }], guard := some (2, true) }) (v := ?_) rfl (by kernel_rfl) (by kernel_rfl) (by kernel_rfl) (fun _ _ _ h => h) (Or.inl ⟨by kernel_rfl, ?_⟩) hHeld ?_
      rotate_left
      · (intro w hSw; (try dsimp only at hSw); have e0 := cell_of_block hSw.1 0; have e1 := cell_of_block hSw.1 1; have e2 := cell_of_block hSw.1 2; have e3 := cell_of_block hSw.1 3; have e4 := cell_of_block hSw.1 4; have e5 := cell_of_block hSw.1 5; have e6 := cell_of_block hSw.1 6; have e7 := cell_of_block hSw.1 7; have e8 := cell_of_block hSw.1 8; have e9 := cell_of_block hSw.1 9; have g0 := cell_of_block hSw.2.1 0; have h0 := cell_of_block hSw.2.2 0; have g1 := cell_of_block hSw.2.1 1; have h1 := cell_of_block hSw.2.2 1; have g2 := cell_of_block hSw.2.1 2; have h2 := cell_of_block hSw.2.2 2; have g3 := cell_of_block hSw.2.1 3; have h3 := cell_of_block hSw.2.2 3; have g4 := cell_of_block hSw.2.1 4; have h4 := cell_of_block hSw.2.2 4; have g5 := cell_of_block hSw.2.1 5; have h5 := cell_of_block hSw.2.2 5; go_simp); try with_reducible rfl
      try simp only [Act.put, List.setIfInBounds_toArray, List.set_cons_zero, List.set_cons_succ]
      refine wpAnyH_take (i := 7) (oi := { dst := some 216, op := Op.pick (Operand.tmp 211) (Operand.tmp 215) (Operand.const (Value.bool false)), type := 4, pos := "law.go:95", after := #[{ on := 2, ground := Ground.data }, { on := 6, ground := Ground.data }], guard := none }) (v := ?_) rfl (by kernel_rfl) (by kernel_rfl) (by kernel_rfl) (fun _ _ _ h => h) (Or.inl ⟨by kernel_rfl, ?_⟩) hHeld ?_
      rotate_left
      · (intro w hSw; (try dsimp only at hSw); have e0 := cell_of_block hSw.1 0; have e1 := cell_of_block hSw.1 1; have e2 := cell_of_block hSw.1 2; have e3 := cell_of_block hSw.1 3; have e4 := cell_of_block hSw.1 4; have e5 := cell_of_block hSw.1 5; have e6 := cell_of_block hSw.1 6; have e7 := cell_of_block hSw.1 7; have e8 := cell_of_block hSw.1 8; have e9 := cell_of_block hSw.1 9; have g0 := cell_of_block hSw.2.1 0; have h0 := cell_of_block hSw.2.2 0; have g1 := cell_of_block hSw.2.1 1; have h1 := cell_of_block hSw.2.2 1; have g2 := cell_of_block hSw.2.1 2; have h2 := cell_of_block hSw.2.2 2; have g3 := cell_of_block hSw.2.1 3; have h3 := cell_of_block hSw.2.2 3; have g4 := cell_of_block hSw.2.1 4; have h4 := cell_of_block hSw.2.2 4; have g5 := cell_of_block hSw.2.1 5; have h5 := cell_of_block hSw.2.2 5; go_simp); try with_reducible rfl
      try simp only [Act.put, List.setIfInBounds_toArray, List.set_cons_zero, List.set_cons_succ]
      refine wpAnyH_take (i := 8) (oi := { dst := some 217, op := Op.move (Operand.tmp 216), type := 4, pos := "law.go:95", after := #[{ on := 7, ground := Ground.data }, { on := 5, ground := Ground.chain }], guard := none }) (v := ?_) rfl (by kernel_rfl) (by kernel_rfl) (by kernel_rfl) (fun _ _ _ h => h) (Or.inl ⟨by kernel_rfl, ?_⟩) hHeld ?_
      rotate_left
      · (intro w hSw; (try dsimp only at hSw); have e0 := cell_of_block hSw.1 0; have e1 := cell_of_block hSw.1 1; have e2 := cell_of_block hSw.1 2; have e3 := cell_of_block hSw.1 3; have e4 := cell_of_block hSw.1 4; have e5 := cell_of_block hSw.1 5; have e6 := cell_of_block hSw.1 6; have e7 := cell_of_block hSw.1 7; have e8 := cell_of_block hSw.1 8; have e9 := cell_of_block hSw.1 9; have g0 := cell_of_block hSw.2.1 0; have h0 := cell_of_block hSw.2.2 0; have g1 := cell_of_block hSw.2.1 1; have h1 := cell_of_block hSw.2.2 1; have g2 := cell_of_block hSw.2.1 2; have h2 := cell_of_block hSw.2.2 2; have g3 := cell_of_block hSw.2.1 3; have h3 := cell_of_block hSw.2.2 3; have g4 := cell_of_block hSw.2.1 4; have h4 := cell_of_block hSw.2.2 4; have g5 := cell_of_block hSw.2.1 5; have h5 := cell_of_block hSw.2.2 5; go_simp); try with_reducible rfl
      try simp only [Act.put, List.setIfInBounds_toArray, List.set_cons_zero, List.set_cons_succ]
      refine wpAnyH_take (i := 9) (oi := { dst := some 218, op := Op.move (Operand.tmp 36), type := 4, pos := "law.go:95", after := #[{ on := 8, ground := Ground.guard }], guard := some (8, true) }) (v := ?_) rfl (by kernel_rfl) (by kernel_rfl) (by kernel_rfl) (fun _ _ _ h => h) (Or.inl ⟨by kernel_rfl, ?_⟩) hHeld ?_
      rotate_left
      · (intro w hSw; (try dsimp only at hSw); have e0 := cell_of_block hSw.1 0; have e1 := cell_of_block hSw.1 1; have e2 := cell_of_block hSw.1 2; have e3 := cell_of_block hSw.1 3; have e4 := cell_of_block hSw.1 4; have e5 := cell_of_block hSw.1 5; have e6 := cell_of_block hSw.1 6; have e7 := cell_of_block hSw.1 7; have e8 := cell_of_block hSw.1 8; have e9 := cell_of_block hSw.1 9; have g0 := cell_of_block hSw.2.1 0; have h0 := cell_of_block hSw.2.2 0; have g1 := cell_of_block hSw.2.1 1; have h1 := cell_of_block hSw.2.2 1; have g2 := cell_of_block hSw.2.1 2; have h2 := cell_of_block hSw.2.2 2; have g3 := cell_of_block hSw.2.1 3; have h3 := cell_of_block hSw.2.2 3; have g4 := cell_of_block hSw.2.1 4; have h4 := cell_of_block hSw.2.2 4; have g5 := cell_of_block hSw.2.1 5; have h5 := cell_of_block hSw.2.2 5; go_simp); try with_reducible rfl
      try simp only [Act.put, List.setIfInBounds_toArray, List.set_cons_zero, List.set_cons_succ]
      refine wpAnyH_take (i := 10) (oi := { dst := some 219, op := Op.move (Operand.tmp 38), type := 4, pos := "law.go:95", after := #[{ on := 8, ground := Ground.guard }], guard := some (8, true) }) (v := ?_) rfl (by kernel_rfl) (by kernel_rfl) (by kernel_rfl) (fun _ _ _ h => h) (Or.inl ⟨by kernel_rfl, ?_⟩) hHeld ?_
      rotate_left
      · (intro w hSw; (try dsimp only at hSw); have e0 := cell_of_block hSw.1 0; have e1 := cell_of_block hSw.1 1; have e2 := cell_of_block hSw.1 2; have e3 := cell_of_block hSw.1 3; have e4 := cell_of_block hSw.1 4; have e5 := cell_of_block hSw.1 5; have e6 := cell_of_block hSw.1 6; have e7 := cell_of_block hSw.1 7; have e8 := cell_of_block hSw.1 8; have e9 := cell_of_block hSw.1 9; have g0 := cell_of_block hSw.2.1 0; have h0 := cell_of_block hSw.2.2 0; have g1 := cell_of_block hSw.2.1 1; have h1 := cell_of_block hSw.2.2 1; have g2 := cell_of_block hSw.2.1 2; have h2 := cell_of_block hSw.2.2 2; have g3 := cell_of_block hSw.2.1 3; have h3 := cell_of_block hSw.2.2 3; have g4 := cell_of_block hSw.2.1 4; have h4 := cell_of_block hSw.2.2 4; have g5 := cell_of_block hSw.2.1 5; have h5 := cell_of_block hSw.2.2 5; go_simp); try with_reducible rfl
      try simp only [Act.put, List.setIfInBounds_toArray, List.set_cons_zero, List.set_cons_succ]
      refine wpAnyH_take (i := 11) (oi := { dst := some 220, op := Op.binOp BinOp.eql 4 (Operand.tmp 218) (Operand.tmp 219) 4, type := 4, pos := "law.go:95", after := #[{ on := 9, ground := Ground.data }, { on := 10, ground := Ground.data }, { on := 8, ground := Ground.guard }], guard := some (8, true) }) (v := ?_) rfl (by kernel_rfl) (by kernel_rfl) (by kernel_rfl) (fun _ _ _ h => h) (Or.inl ⟨by kernel_rfl, ?_⟩) hHeld ?_
      rotate_left
      · (intro w hSw; (try dsimp only at hSw); have e0 := cell_of_block hSw.1 0; have e1 := cell_of_block hSw.1 1; have e2 := cell_of_block hSw.1 2; have e3 := cell_of_block hSw.1 3; have e4 := cell_of_block hSw.1 4; have e5 := cell_of_block hSw.1 5; have e6 := cell_of_block hSw.1 6; have e7 := cell_of_block hSw.1 7; have e8 := cell_of_block hSw.1 8; have e9 := cell_of_block hSw.1 9; have g0 := cell_of_block hSw.2.1 0; have h0 := cell_of_block hSw.2.2 0; have g1 := cell_of_block hSw.2.1 1; have h1 := cell_of_block hSw.2.2 1; have g2 := cell_of_block hSw.2.1 2; have h2 := cell_of_block hSw.2.2 2; have g3 := cell_of_block hSw.2.1 3; have h3 := cell_of_block hSw.2.2 3; have g4 := cell_of_block hSw.2.1 4; have h4 := cell_of_block hSw.2.2 4; have g5 := cell_of_block hSw.2.1 5; have h5 := cell_of_block hSw.2.2 5; go_simp); try with_reducible rfl
      try simp only [Act.put, List.setIfInBounds_toArray, List.set_cons_zero, List.set_cons_succ]
      refine wpAnyH_take (i := 12) (oi := { dst := some 221, op := Op.pick (Operand.tmp 217) (Operand.tmp 220) (Operand.const (Value.bool false)), type := 4, pos := "law.go:95", after := #[{ on := 8, ground := Ground.data }, { on := 11, ground := Ground.data }], guard := none }) (v := ?_) rfl (by kernel_rfl) (by kernel_rfl) (by kernel_rfl) (fun _ _ _ h => h) (Or.inl ⟨by kernel_rfl, ?_⟩) hHeld ?_
      rotate_left
      · (intro w hSw; (try dsimp only at hSw); have e0 := cell_of_block hSw.1 0; have e1 := cell_of_block hSw.1 1; have e2 := cell_of_block hSw.1 2; have e3 := cell_of_block hSw.1 3; have e4 := cell_of_block hSw.1 4; have e5 := cell_of_block hSw.1 5; have e6 := cell_of_block hSw.1 6; have e7 := cell_of_block hSw.1 7; have e8 := cell_of_block hSw.1 8; have e9 := cell_of_block hSw.1 9; have g0 := cell_of_block hSw.2.1 0; have h0 := cell_of_block hSw.2.2 0; have g1 := cell_of_block hSw.2.1 1; have h1 := cell_of_block hSw.2.2 1; have g2 := cell_of_block hSw.2.1 2; have h2 := cell_of_block hSw.2.2 2; have g3 := cell_of_block hSw.2.1 3; have h3 := cell_of_block hSw.2.2 3; have g4 := cell_of_block hSw.2.1 4; have h4 := cell_of_block hSw.2.2 4; have g5 := cell_of_block hSw.2.1 5; have h5 := cell_of_block hSw.2.2 5; go_simp); try with_reducible rfl
      try simp only [Act.put, List.setIfInBounds_toArray, List.set_cons_zero, List.set_cons_succ]
      refine wpAnyH_take (i := 13) (oi := { dst := some 222, op := Op.move (Operand.tmp 221), type := 4, pos := "law.go:95", after := #[{ on := 12, ground := Ground.data }, { on := 8, ground := Ground.chain }], guard := none }) (v := ?_) rfl (by kernel_rfl) (by kernel_rfl) (by kernel_rfl) (fun _ _ _ h => h) (Or.inl ⟨by kernel_rfl, ?_⟩) hHeld ?_
      rotate_left
      · (intro w hSw; (try dsimp only at hSw); have e0 := cell_of_block hSw.1 0; have e1 := cell_of_block hSw.1 1; have e2 := cell_of_block hSw.1 2; have e3 := cell_of_block hSw.1 3; have e4 := cell_of_block hSw.1 4; have e5 := cell_of_block hSw.1 5; have e6 := cell_of_block hSw.1 6; have e7 := cell_of_block hSw.1 7; have e8 := cell_of_block hSw.1 8; have e9 := cell_of_block hSw.1 9; have g0 := cell_of_block hSw.2.1 0; have h0 := cell_of_block hSw.2.2 0; have g1 := cell_of_block hSw.2.1 1; have h1 := cell_of_block hSw.2.2 1; have g2 := cell_of_block hSw.2.1 2; have h2 := cell_of_block hSw.2.2 2; have g3 := cell_of_block hSw.2.1 3; have h3 := cell_of_block hSw.2.2 3; have g4 := cell_of_block hSw.2.1 4; have h4 := cell_of_block hSw.2.2 4; have g5 := cell_of_block hSw.2.1 5; have h5 := cell_of_block hSw.2.2 5; go_simp); try with_reducible rfl
      try simp only [Act.put, List.setIfInBounds_toArray, List.set_cons_zero, List.set_cons_succ]
      refine wpAnyH_take (i := 14) (oi := { dst := some 223, op := Op.load 43 (Operand.tmp 35), type := 43, pos := "law.go:95", after := #[{ on := 13, ground := Ground.guard }], guard := some (13, true) }) (v := ?_) rfl (by kernel_rfl) (by kernel_rfl) (by kernel_rfl) (fun _ _ _ h => h) (Or.inl ⟨by kernel_rfl, ?_⟩) hHeld ?_
      rotate_left
      · (intro w hSw; (try dsimp only at hSw); have e0 := cell_of_block hSw.1 0; have e1 := cell_of_block hSw.1 1; have e2 := cell_of_block hSw.1 2; have e3 := cell_of_block hSw.1 3; have e4 := cell_of_block hSw.1 4; have e5 := cell_of_block hSw.1 5; have e6 := cell_of_block hSw.1 6; have e7 := cell_of_block hSw.1 7; have e8 := cell_of_block hSw.1 8; have e9 := cell_of_block hSw.1 9; have g0 := cell_of_block hSw.2.1 0; have h0 := cell_of_block hSw.2.2 0; have g1 := cell_of_block hSw.2.1 1; have h1 := cell_of_block hSw.2.2 1; have g2 := cell_of_block hSw.2.1 2; have h2 := cell_of_block hSw.2.2 2; have g3 := cell_of_block hSw.2.1 3; have h3 := cell_of_block hSw.2.2 3; have g4 := cell_of_block hSw.2.1 4; have h4 := cell_of_block hSw.2.2 4; have g5 := cell_of_block hSw.2.1 5; have h5 := cell_of_block hSw.2.2 5; go_simp); try with_reducible rfl
      try simp only [Act.put, List.setIfInBounds_toArray, List.set_cons_zero, List.set_cons_succ]
      refine wpAnyH_take (i := 16) (oi := { dst := some 225, op := Op.load 29 (Operand.tmp 37), type := 29, pos := "law.go:95", after := #[{ on := 13, ground := Ground.guard }], guard := some (13, true) }) (v := ?_) rfl (by kernel_rfl) (by kernel_rfl) (by kernel_rfl) (fun _ _ _ h => h) (Or.inl ⟨by kernel_rfl, ?_⟩) hHeld ?_
      rotate_left
      · (intro w hSw; (try dsimp only at hSw); have e0 := cell_of_block hSw.1 0; have e1 := cell_of_block hSw.1 1; have e2 := cell_of_block hSw.1 2; have e3 := cell_of_block hSw.1 3; have e4 := cell_of_block hSw.1 4; have e5 := cell_of_block hSw.1 5; have e6 := cell_of_block hSw.1 6; have e7 := cell_of_block hSw.1 7; have e8 := cell_of_block hSw.1 8; have e9 := cell_of_block hSw.1 9; have g0 := cell_of_block hSw.2.1 0; have h0 := cell_of_block hSw.2.2 0; have g1 := cell_of_block hSw.2.1 1; have h1 := cell_of_block hSw.2.2 1; have g2 := cell_of_block hSw.2.1 2; have h2 := cell_of_block hSw.2.2 2; have g3 := cell_of_block hSw.2.1 3; have h3 := cell_of_block hSw.2.2 3; have g4 := cell_of_block hSw.2.1 4; have h4 := cell_of_block hSw.2.2 4; have g5 := cell_of_block hSw.2.1 5; have h5 := cell_of_block hSw.2.2 5; go_simp); try with_reducible rfl
      try simp only [Act.put, List.setIfInBounds_toArray, List.set_cons_zero, List.set_cons_succ]
      refine wpAnyH_ready (rs := [15]) (by kernel_rfl) (by simp) (AllReadyH.cons (o := { dst := some 224, op := Op.call { callee := Callee.value (Operand.func 14), args := #[Operand.tmp 223], argTypes := #[43] }, type := 29, pos := "law.go:95", after := #[{ on := 14, ground := Ground.data }, { on := 13, ground := Ground.chain }, { on := 13, ground := Ground.guard }], guard := some (13, true) }) rfl (fun K hK => ?_) AllReadyH.nil)
      have hOld := hide hHeld
      clear hHeld
      go_simp
      refine (HOF.out t _).mono ?_
      rintro e w10 ⟨rfl, hb⟩
      have D10 := hide (D9.out.below hb)
      have XA10 := hide ((hb.block _ (heap_lt XA9.out)).trans XA9.out)
      have XB10 := hide ((hb.block _ (heap_lt XB9.out)).trans XB9.out)
      have B10 := hide (B9.out.trans (hb.mono HSZ9.out))
      have HSZ10 := hide (Nat.le_trans HSZ9.out hb.size)
      clear hb D9 XA9 XB9 B9 HSZ9
      try unfold totA
      (try go_wp2_with fail)
      refine hK.out _ _ (⟨D10.out.1, XA10.out, XB10.out⟩) (fun hHeld => ?_)
      clear hK K hOld
      try simp only [Act.put, List.setIfInBounds_toArray, List.set_cons_zero, List.set_cons_succ]
      refine wpAnyH_take (i := 17) (oi := { dst := some 226, op := Op.binOp BinOp.eql 29 (Operand.tmp 224) (Operand.tmp 225) 29, type := 4, pos := "law.go:95", after := #[{ on := 15, ground := Ground.data }, { on := 16, ground := Ground.data }, { on := 13, ground := Ground.guard }], guard := some (13, true) }) (v := ?_) rfl (by kernel_rfl) (by kernel_rfl) (by kernel_rfl) (fun _ _ _ h => h) (Or.inl ⟨by kernel_rfl, ?_⟩) hHeld ?_
      rotate_left
      · (intro w hSw; (try dsimp only at hSw); have e0 := cell_of_block hSw.1 0; have e1 := cell_of_block hSw.1 1; have e2 := cell_of_block hSw.1 2; have e3 := cell_of_block hSw.1 3; have e4 := cell_of_block hSw.1 4; have e5 := cell_of_block hSw.1 5; have e6 := cell_of_block hSw.1 6; have e7 := cell_of_block hSw.1 7; have e8 := cell_of_block hSw.1 8; have e9 := cell_of_block hSw.1 9; have g0 := cell_of_block hSw.2.1 0; have h0 := cell_of_block hSw.2.2 0; have g1 := cell_of_block hSw.2.1 1; have h1 := cell_of_block hSw.2.2 1; have g2 := cell_of_block hSw.2.1 2; have h2 := cell_of_block hSw.2.2 2; have g3 := cell_of_block hSw.2.1 3; have h3 := cell_of_block hSw.2.2 3; have g4 := cell_of_block hSw.2.1 4; have h4 := cell_of_block hSw.2.2 4; have g5 := cell_of_block hSw.2.1 5; have h5 := cell_of_block hSw.2.2 5; go_simp); try with_reducible rfl
      try simp only [Act.put, List.setIfInBounds_toArray, List.set_cons_zero, List.set_cons_succ]
      refine wpAnyH_take (i := 18) (oi := { dst := some 227, op := Op.pick (Operand.tmp 222) (Operand.tmp 226) (Operand.const (Value.bool false)), type := 4, pos := "law.go:95", after := #[{ on := 13, ground := Ground.data }, { on := 17, ground := Ground.data }], guard := none }) (v := ?_) rfl (by kernel_rfl) (by kernel_rfl) (by kernel_rfl) (fun _ _ _ h => h) (Or.inl ⟨by kernel_rfl, ?_⟩) hHeld ?_
      rotate_left
      · (intro w hSw; (try dsimp only at hSw); have e0 := cell_of_block hSw.1 0; have e1 := cell_of_block hSw.1 1; have e2 := cell_of_block hSw.1 2; have e3 := cell_of_block hSw.1 3; have e4 := cell_of_block hSw.1 4; have e5 := cell_of_block hSw.1 5; have e6 := cell_of_block hSw.1 6; have e7 := cell_of_block hSw.1 7; have e8 := cell_of_block hSw.1 8; have e9 := cell_of_block hSw.1 9; have g0 := cell_of_block hSw.2.1 0; have h0 := cell_of_block hSw.2.2 0; have g1 := cell_of_block hSw.2.1 1; have h1 := cell_of_block hSw.2.2 1; have g2 := cell_of_block hSw.2.1 2; have h2 := cell_of_block hSw.2.2 2; have g3 := cell_of_block hSw.2.1 3; have h3 := cell_of_block hSw.2.2 3; have g4 := cell_of_block hSw.2.1 4; have h4 := cell_of_block hSw.2.2 4; have g5 := cell_of_block hSw.2.1 5; have h5 := cell_of_block hSw.2.2 5; go_simp); try with_reducible rfl
      try simp only [Act.put, List.setIfInBounds_toArray, List.set_cons_zero, List.set_cons_succ]
      refine wpAnyH_take (i := 19) (oi := { dst := some 6, op := Op.assign (Operand.tmp 227), type := 4, pos := "law.go:95", after := #[{ on := 18, ground := Ground.data }, { on := 15, ground := Ground.chain }, { on := 0, ground := Ground.phase }, { on := 1, ground := Ground.phase }, { on := 2, ground := Ground.phase }, { on := 3, ground := Ground.phase }, { on := 4, ground := Ground.phase }, { on := 5, ground := Ground.phase }, { on := 6, ground := Ground.phase }, { on := 7, ground := Ground.phase }, { on := 8, ground := Ground.phase }, { on := 9, ground := Ground.phase }, { on := 10, ground := Ground.phase }, { on := 11, ground := Ground.phase }, { on := 12, ground := Ground.phase }, { on := 13, ground := Ground.phase }, { on := 14, ground := Ground.phase }, { on := 15, ground := Ground.phase }, { on := 16, ground := Ground.phase }, { on := 17, ground := Ground.phase }, { on := 18, ground := Ground.phase }], guard := none }) (v := ?_) rfl (by kernel_rfl) (by kernel_rfl) (by kernel_rfl) (fun _ _ _ h => h) (Or.inl ⟨by kernel_rfl, ?_⟩) hHeld ?_
      rotate_left
      · (intro w hSw; (try dsimp only at hSw); have e0 := cell_of_block hSw.1 0; have e1 := cell_of_block hSw.1 1; have e2 := cell_of_block hSw.1 2; have e3 := cell_of_block hSw.1 3; have e4 := cell_of_block hSw.1 4; have e5 := cell_of_block hSw.1 5; have e6 := cell_of_block hSw.1 6; have e7 := cell_of_block hSw.1 7; have e8 := cell_of_block hSw.1 8; have e9 := cell_of_block hSw.1 9; have g0 := cell_of_block hSw.2.1 0; have h0 := cell_of_block hSw.2.2 0; have g1 := cell_of_block hSw.2.1 1; have h1 := cell_of_block hSw.2.2 1; have g2 := cell_of_block hSw.2.1 2; have h2 := cell_of_block hSw.2.2 2; have g3 := cell_of_block hSw.2.1 3; have h3 := cell_of_block hSw.2.2 3; have g4 := cell_of_block hSw.2.1 4; have h4 := cell_of_block hSw.2.2 4; have g5 := cell_of_block hSw.2.1 5; have h5 := cell_of_block hSw.2.2 5; go_simp); try with_reducible rfl
      try simp only [Act.put, List.setIfInBounds_toArray, List.set_cons_zero, List.set_cons_succ]
      refine wpAnyH_done (by kernel_rfl) ?_ _
      clear hHeld
      go_wp2_with fail
      go_ret
      exact ⟨rfl, by rw [HQ.out]; exact B10.out⟩

set_option maxRecDepth 100000 in
theorem shiftPlays_lifted (os : Os) (started : os.Started) (H : Type) (enc : TypeId × Value → H) :
    ReturnsInHanded {} Try.checked os 3 .any (Rows.shiftPlaysSpec.pre6 enc Try.prog Try.f3 Rows.shiftPlaysRow.domain false) (Rows.shiftPlaysSpec.post enc Try.prog Try.f3 false true false false) := by
  refine returnsInHanded_of_change (C := Try.checked) own started (by kernel_rfl) Try.func3
    (ChangeSpec.witness6 (enc := enc) (C := Try.checked) false ⟨#[], #[.int .i64 0, .slice none 0 0, .int .i64 0], []⟩ 8 (by kernel_rfl) (by kernel_rfl) (by kernel_rfl) (by kernel_rfl)) ?_
  intro W base args ds gs before hval0 hW _ _
  have hval : ∀ (j : Nat) t v, Try.f3.params[j]? = some t → args[j]? = some v → Value.okWide Try.prog W .any base t v := hval0
  have hW' := hW
  obtain ⟨p, q, hA0, hV, rfl, hfz, hnd⟩ := hW
  have hA : DataW.TrodAll enc Try.prog W 0 (fun _ => true) true Try.f3.params.toList args.toList ds p := hA0
  rw [Try.params3] at hA hval
  obtain ⟨v0, vs0, d0, ds0, p0, q0, hargs, rfl, rfl, h0, r0⟩ := trodAll_cons hA
  obtain ⟨v1, vs1, d1, ds1, p1, q1, rfl, rfl, rfl, h1, r1⟩ := trodAll_cons r0
  obtain ⟨v2, vs2, d2, ds2, p2, q2, rfl, rfl, rfl, h2, r2⟩ := trodAll_cons r1
  obtain ⟨rfl, rfl, rfl⟩ := trodAll_nil r2
  obtain rfl : args = #[v0, v1, v2] := by cases args; simp_all
  obtain ⟨rfl, rfl⟩ := trodVars_none hV
  obtain ⟨keep0, rfl, rfl, rfl, w0⟩ := open_int Try.underlying3 (hval 0 3 v0 rfl rfl) h0
  have z0 := wf_i64 w0
  have z1 := open_actSs (hval 1 22 v1 rfl rfl) h1
  obtain ⟨num, rfl, rfl, rfl, w2⟩ := open_int Try.underlying3 (hval 2 3 v2 rfl rfl) h2
  have z2 := wf_i64 w2
  clear hA0 hval0
  refine (shiftPlays_walk keep0 z0.1 z0.2 v1 num z2.1 z2.2 W z1).mono fun e W' ⟨he, hb⟩ => ?_
  subst he
  exact ⟨_, rfl, post_law laidOut (of_decide_eq_true (by kernel_rfl)) rfl rfl Try.underlying4 hW' ⟨rfl, rfl, rfl⟩ hb⟩

/-- THE STATEMENT -/
theorem shiftPlays_holds : Rows.ShiftPlaysSaid :=
  OpenClaim.holds_of_wide 3 Try.f3 rfl rfl rfl rfl rfl rfl rfl ⟨rfl, rfl, rfl, rfl, rfl⟩ rfl rfl rfl rfl rfl (by kernel_rfl) Try.func3 (by kernel_rfl)
    (of_decide_eq_true (by kernel_rfl)) (by unfold Func.isWrapper; first | (rw [if_pos (by decide +kernel)]; kernel_rfl) | (rw [if_neg (by decide +kernel)]; exact ⟨rfl, rfl⟩))
    (fun os started H enc _ => shiftPlays_lifted os started H enc)

end Go.Proofs.Ytfdgfeohmkdnoaa
