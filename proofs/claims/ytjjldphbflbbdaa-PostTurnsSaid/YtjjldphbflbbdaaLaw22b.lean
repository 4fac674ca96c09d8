/-
  PostTurns: a posting that is even, and the one that turns it back, may be, and have on each account the same with the other sign; turned back again it is the posting. No condition.
-/
import Derived.Test.YtjjldphbflbbdaaPost10
--import Derived.Test.Zdbg
namespace Go.Proofs.Ytjjldphbflbbdaa
set_option linter.unusedSimpArgs false
set_option linter.unusedVariables false
open Go.RowKit Go.WideShapes Go.ChangeShapes Go.ChangeAt Go.Deep

set_option maxRecDepth 100000 in
set_option maxHeartbeats 400000 in
theorem postTurns_walk (L : List LnM) (a : Option Addr) (cap : Nat) (hcap : L.length ≤ cap) (h63 : L.length ≤ 9223372036854775807) (w : World) (hin : LnIn w a L) (hok : ∀ x ∈ L, LnOk x) :
    Calls Try.prog 5 #[.slice a L.length cap] w fun e w' => e = .returned (.bool true) ∧ Below w.heap.size w w' := by
  have HIN := hide hin
  have HEV := hide (fun W (hW : LnIn W a L) => even_any L a cap hcap h63 hok W hW)
  have HOK := hide (evenL_ok L)
  have HLE := hide (evenL_len L)
  have HTW := hide (evenL_two L)
  have HCE := hide (chk_even L)
  have HNI := hide (show L = [] → chkE 5 (evenL L) = 2 from fun h => by subst h; rw [evenL_nil]; decide)
  have HL0 := hide (show L.length = 0 → L = [] from List.eq_nil_of_length_eq_zero)
  clear hin hok hcap
  go_enter Try.func5, Try.ntmps5
  go_wp2_with fail
  refine (accounts_any _).mono ?_
  rintro e w1 ⟨p, bm, aa, cc, rfl, hc, -, hb⟩
  have C1 := hide hc
  have B1 := hide hb
  have I1 := hide (HIN.out.below hb)
  clear hc hb HIN
  go_wp2_with fail
  refine (HEV.out _ I1.out).mono ?_
  rintro e w2 ⟨a2, c2, rfl, hc2, hin2, hb⟩
  have C2 := hide (C1.out.below hb)
  have B2 := hide (B1.out.trans (hb.mono B1.out.size))
  have I2 := hide hin2
  have HLI := hide (fun W (hW : LnIn W a2 (evenL L)) => lines_any (evenL L) a2 c2 (evenL L).length (by have := HLE.out; omega) hc2 W hW)
  clear hin2 hb C1 B1 I1 HEV hc2
  generalize hE : evenL L = E at *
  have HE := hide hE
  clear hE
  go_wp2_with fail
  refine (HLI.out _ I2.out).mono ?_
  rintro e w3 ⟨u1, k1, u2, k2, rfl, hk1, hk2, hp, hq, hb⟩
  rw [List.take_length] at hp hq
  have P3 := hide hp
  have M3 := hide hq
  have C3 := hide (C2.out.below hb)
  have B3 := hide (B2.out.trans (hb.mono B2.out.size))
  clear hp hq hb C2 B2 I2 HLI hk1 hk2
  go_wp2_with fail
  refine (wakes22 _).mono ?_
  rintro e w4 ⟨rfl, hb⟩
  have P4 := hide (P3.out.below hb)
  have M4 := hide (M3.out.below hb)
  have C4 := hide (C3.out.below hb)
  have B4 := hide (B3.out.trans (hb.mono B3.out.size))
  clear hb P3 M3 C3 B3
  have HOKE := hide (ev_lnok E HOK.out)
  have HK := hide (check_any p bm 5 E (by have := HLE.out; omega) HOKE.out u1 k1 w4 P4.out C4.out)
  by_cases hL : L = []
  · have HK1 := hide (HNI.out hL)
    rw [HK1.out] at HK
    have hL0 : L.length = 0 := by rw [hL]; rfl
    have hL1 : (L.length : Int) = 0 := by omega
    clear HCE HTW HL0 hL0
    go_wp2_with fail
    refine HK.out.mono ?_
    rintro e w5 ⟨rfl, hb⟩
    have B5 := hide (B4.out.trans (hb.mono B4.out.size))
    clear hb P4 M4 C4 B4 HK
    go_wp2_with fail
    refine (wakes22 _).mono ?_
    rintro e w6 ⟨rfl, hb⟩
    have B6 := hide (B5.out.trans (hb.mono B5.out.size))
    clear hb B5
    have hL2 : ((L.length : Int) == 0) = true := by simpa using hL
    go_wp2_with fail
    go_ret
    exact ⟨rfl, B6.out⟩
  · have HC1 := hide (HCE.out hL)
    have HT1 := hide (HTW.out hL)
    rw [HC1.out.1] at HK
    clear HCE HTW HNI HL0 hL
    go_wp2_with fail
    refine HK.out.mono ?_
    rintro e w5 ⟨rfl, hb⟩
    have P5 := hide (P4.out.below hb)
    have M5 := hide (M4.out.below hb)
    have C5 := hide (C4.out.below hb)
    have B5 := hide (B4.out.trans (hb.mono B4.out.size))
    clear hb P4 M4 C4 B4 HK
    have HSM := hide (show ∀ x ∈ E, -7000000 ≤ x.n ∧ x.n ≤ 7000000 from fun x hx => (HOK.out x hx).2.2)
    have HCO := hide (contra_any E (by have := HLE.out; omega) (fun x hx => (HOKE.out x hx).2) u1 k1 w5 P5.out)
    go_wp2_with fail
    refine HCO.out.mono ?_
    rintro e w6 ⟨⟨hl, a3, c3, rfl, hcap3, hin3⟩ | ⟨hl, -⟩, hb⟩
    · have Q6 := hide hin3
      have P6 := hide (P5.out.below hb)
      have M6 := hide (M5.out.below hb)
      have C6 := hide (C5.out.below hb)
      have B6 := hide (B5.out.trans (hb.mono B5.out.size))
      have HNO := hide (negL_ok HOKE.out hl)
      have HNS := hide (negL_small E HSM.out)
      clear hb hin3 hl P5 M5 C5 B5 HCO hcap3
      have HCO := hide (show ∀ W, LnIn W a3 (negL E) → Calls Try.prog 10 #[.slice a3 E.length c3] W (ConIs (negL E) W) from fun W hW => by
        have h1 := contra_any (negL E) (by rw [negL_len]; have := HLE.out; omega) (fun x hx => (HNO.out x hx).2) a3 c3 W hW
        rw [negL_len] at h1
        exact h1)
      go_wp2_with fail
      refine (HCO.out _ Q6.out).mono ?_
      rintro e w7 ⟨⟨hl, a4, c4, rfl, hcap4, hin4⟩ | ⟨hl, -⟩, hb⟩
      · rw [negL_negL] at hin4
        have R7 := hide hin4
        have Q7 := hide (Q6.out.below hb)
        have P7 := hide (P6.out.below hb)
        have M7 := hide (M6.out.below hb)
        have C7 := hide (C6.out.below hb)
        have B7 := hide (B6.out.trans (hb.mono B6.out.size))
        clear hb hin4 hl P6 M6 C6 B6 Q6 HCO hcap4
        rw [negL_len]
        have HK := hide (check_any p bm 5 (negL E) (by rw [negL_len]; have := HLE.out; omega) HNO.out a3 c3 w7 Q7.out C7.out)
        rw [HC1.out.2, negL_len] at HK
        go_wp2_with fail
        refine HK.out.mono ?_
        rintro e w8 ⟨rfl, hb⟩
        have R8 := hide (R7.out.below hb)
        have Q8 := hide (Q7.out.below hb)
        have P8 := hide (P7.out.below hb)
        have M8 := hide (M7.out.below hb)
        have B8 := hide (B7.out.trans (hb.mono B7.out.size))
        clear hb R7 Q7 P7 M7 C7 B7 HK
        go_wp2_with fail
        refine (same_eq E (by have := HLE.out; omega) a4 u2 c4 k2 w8 R8.out M8.out).mono ?_
        rintro e w9 ⟨rfl, hb⟩
        have Q9 := hide (Q8.out.below hb)
        have P9 := hide (P8.out.below hb)
        have B9 := hide (B8.out.trans (hb.mono B8.out.size))
        clear hb R8 Q8 P8 M8 B8
        go_wp2_with fail
        go_loopw [11, 12] (fun s i W => ∃ j : Nat, j ≤ 5 ∧ i = .int .i64 (1 + (j : Int)) ∧ s = .int .i64 (accS E j) ∧ LnIn W u1 E ∧ LnIn W a3 (negL E) ∧ Below w.heap.size w W) (fun s i _ => 6 - (intOf i).toNat)
        case atStart => exact ⟨0, by omega, rfl, rfl, P9.out, Q9.out, B9.out⟩
        case round =>
          obtain ⟨j, hj, rfl, rfl, hp, hq, hb⟩ := hrel
          have PJ := hide hp
          have QJ := hide hq
          have BJ := hide hb
          clear hp hq hb P9 Q9 B9
          by_cases hlt : j < 5
          · have HAN := hide (accS_next E j)
            have hab := accS_bd E HSM.out HLE.out j hj
            have hob := onL_bd (1 + (j : Int)) E HSM.out HLE.out
            have HO := hide (pon_any (1 + (j : Int)) E (by have := HLE.out; omega) (fun x hx => (HOKE.out x hx).2) u1 k1 wr PJ.out)
            have HO2 := hide (fun W (hW : LnIn W a3 (negL E)) => pon_any (1 + (j : Int)) (negL E) (by rw [negL_len]; have := HLE.out; omega) (fun x hx => (HNO.out x hx).2) a3 c3 W hW)
            rw [onL_neg, negL_len] at HO2
            generalize (onL (1 + (j : Int)) E).sum = sj at *
            generalize accS E j = sa at *
            rw [(sum_in (show inR sj by unfold inR; omega)).1, (sum_in (show inR sj by unfold inR; omega)).2] at HO
            rw [(sum_in (show inR (-sj) by unfold inR; omega)).1, (sum_in (show inR (-sj) by unfold inR; omega)).2] at HO2
            have hw1 : IntKind.i64.wrap sj = sj := by rw [IntKind.wrap_i64]; omega
            have hw2 : IntKind.i64.wrap (sa + sj) = sa + sj := by rw [IntKind.wrap_i64]; omega
            have hw3 : IntKind.i64.wrap (-sj) = -sj := by rw [IntKind.wrap_i64]; omega
            have hj5 : (1 : Int) + (j : Int) ≤ 5 := by omega
            go_wp2_with fail
            refine HO.out.mono ?_
            rintro e x1 ⟨rfl, hb⟩
            have P1 := hide (PJ.out.below hb)
            have Q1 := hide (QJ.out.below hb)
            have D1 := hide (BJ.out.trans (hb.mono BJ.out.size))
            clear hb PJ QJ BJ HO
            go_wp2_with fail
            refine (HO2.out _ Q1.out).mono ?_
            rintro e x2 ⟨rfl, hb⟩
            have P2 := hide (P1.out.below hb)
            have Q2 := hide (Q1.out.below hb)
            have D2 := hide (D1.out.trans (hb.mono D1.out.size))
            clear hb P1 Q1 D1 HO2
            go_wp2_with fail
            go_roundw
            case rel => exact ⟨j + 1, by omega, by go_num, by rw [HAN.out], P2.out, Q2.out, D2.out⟩
            case measure => simp [intOf]; omega
          · obtain rfl : j = 5 := by omega
            have HA5 := hide (show accS E 5 = 0 by rw [accS_all E (fun x hx => ⟨(HOK.out x hx).1, (HOK.out x hx).2.1⟩)]; exact HT1.out.2.1)
            rw [HA5.out]
            go_wp2_with fail
            go_ret
            exact ⟨rfl, BJ.out⟩
      · exact absurd hl (by rw [small_least _ HNS.out]; decide)
    · exact absurd hl (by rw [small_least _ HSM.out]; decide)

set_option maxRecDepth 100000 in
theorem postTurns_lifted (os : Os) (started : os.Started) (H : Type) (enc : TypeId × Value → H) :
    ReturnsInHanded {} Try.checked os 5 .any (Rows.postTurnsSpec.pre6 enc Try.prog Try.f5 Rows.postTurnsRow.domain false) (Rows.postTurnsSpec.post enc Try.prog Try.f5 false true false false) := by
  refine returnsInHanded_of_change (C := Try.checked) own started (by kernel_rfl) Try.func5
    (ChangeSpec.witness6 (enc := enc) (C := Try.checked) false ⟨#[], #[.slice none 0 0], []⟩ 8 (by kernel_rfl) (by kernel_rfl) (by kernel_rfl) (by kernel_rfl)) ?_
  intro W base args ds gs before hval0 hW _ _
  have hval : ∀ (j : Nat) t v, Try.f5.params[j]? = some t → args[j]? = some v → Value.okWide Try.prog W .any base t v := hval0
  have hW' := hW
  obtain ⟨p, q, hA0, hV, rfl, hfz, hnd⟩ := hW
  have hA : DataW.TrodAll enc Try.prog W 0 (fun _ => true) true Try.f5.params.toList args.toList ds p := hA0
  rw [Try.params5] at hA hval
  obtain ⟨v0, vs0, d0, ds0, p0, q0, hargs, rfl, rfl, h0, r0⟩ := trodAll_cons hA
  obtain ⟨rfl, rfl, rfl⟩ := trodAll_nil r0
  obtain rfl : args = #[v0] := by cases args; simp_all
  obtain ⟨rfl, rfl⟩ := trodVars_none hV
  obtain ⟨a, L, cap, rfl, hc, h63, hin, hok⟩ := open_lines (hval 0 22 v0 rfl rfl) h0
  clear hA0 hval0
  refine (postTurns_walk L a cap hc h63 W hin hok).mono fun e W' ⟨he, hb⟩ => ?_
  subst he
  exact ⟨_, rfl, post_law laidOut (of_decide_eq_true (by kernel_rfl)) rfl rfl Try.underlying4 hW' ⟨rfl, rfl, rfl⟩ hb⟩

/-- THE STATEMENT -/
theorem postTurns_holds : Rows.PostTurnsSaid :=
  OpenClaim.holds_of_wide 5 Try.f5 rfl rfl rfl rfl rfl rfl rfl ⟨rfl, rfl, rfl, rfl, rfl⟩ rfl rfl rfl rfl rfl (by kernel_rfl) Try.func5 (by kernel_rfl)
    (of_decide_eq_true (by kernel_rfl)) (by unfold Func.isWrapper; first | (rw [if_pos (by decide +kernel)]; kernel_rfl) | (rw [if_neg (by decide +kernel)]; exact ⟨rfl, rfl⟩))
    (fun os started H enc _ => postTurns_lifted os started H enc)


end Go.Proofs.Ytjjldphbflbbdaa
