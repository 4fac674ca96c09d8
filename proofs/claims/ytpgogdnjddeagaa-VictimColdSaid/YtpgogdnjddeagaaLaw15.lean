/-
  Layer 15's laws, walked and closed: VictimCold.
-/
import Derived.Test.YtpgogdnjddeagaaVic6
--import Derived.Test.Zdbg
namespace Go.Proofs.Ytpgogdnjddeagaa
set_option linter.unusedSimpArgs false
set_option linter.unusedVariables false
open Go.RowKit Go.WideShapes Go.ChangeShapes Go.ChangeAt Go.Deep W

set_option maxRecDepth 100000 in
set_option maxHeartbeats 1000000 in
theorem victimCold_walk (a : Option Addr) (L : List BQ) (cap : Nat) (hcap : L.length ≤ cap) (h63 : L.length ≤ 9223372036854775807) (hok : ∀ x ∈ L, BqOk x) (lv : Int) (l0 : 0 ≤ lv) (l1 : lv ≤ 255) (w : World) (hin : BqIn w a L) :
    Calls Try.prog 5 #[.slice a L.length cap, .int .u8 lv] w fun e w' => e = .returned (.bool true) ∧ Below w.heap.size w w' := by
  obtain ⟨mm, hmm⟩ : ∃ mm, mm = min L.length 20 := ⟨_, rfl⟩
  obtain ⟨n, hnn⟩ : ∃ n, n = max 1 mm := ⟨_, rfl⟩
  have HL := hide (laid_any a L cap mm n hmm hnn hcap h63 hok w hin)
  have hm1 : mm ≤ L.length := by omega
  have hmn : mm ≤ n := by omega
  have hn20 : n ≤ 20 := by omega
  have hlen : (poolK L n mm).length = n := genK_length toP (1, 0) L n mm hm1 hmn
  obtain ⟨v, hvI, hv0, hv1⟩ : ∃ v : Int, lv % 40 = v ∧ 0 ≤ v ∧ v ≤ 39 := ⟨lv % 40, rfl, by omega, by omega⟩
  have HSO := poolK_ok L n mm hm1 hmn
  have HCD := hide (fun p q W h => cold_any p q (poolK L n mm) HSO.snd (1 + v) (by omega) (.slice none 0 0) [] (by decide) W h (.inl ⟨rfl, rfl⟩))
  have HSP := hide (fun p q W h => spread_any p q (poolK L n mm) (by omega) W h)
  have hcs := cold_spread (poolK L n mm) HSO (by omega) (1 + v) (by omega)
  have HST := hide (fun p q b W h => state_any p q (poolK L n mm) b W h)
  have HWE := hide (fun p q b W h => wear_any p q (poolK L n mm) b W h)
  obtain ⟨k, is, hz⟩ : ∃ k is, coldZ (poolK L n mm) (1 + v) [] = (k, is) := ⟨_, _, rfl⟩
  obtain ⟨lo, hi, hs⟩ : ∃ lo hi, spreadZ (poolK L n mm) = (lo, hi) := ⟨_, _, rfl⟩
  rw [hz] at HCD hcs
  rw [hs] at HSP hcs
  dsimp only at hcs
  obtain ⟨hc1, hc2, b1, b2, b3, b4⟩ := hcs
  have HC1 := hide hc1
  have HC2 := hide hc2
  have hwrap : IntKind.i64.wrap (hi - lo) = hi - lo := by rw [IntKind.wrap_i64]; omega
  have BL := hide (Below.refl w.heap.size w)
  clear hin hok hmm hnn hz hs hc1 hc2 HSO hlen
  have hwv : IntKind.i64.wrap v = v := by rw [IntKind.wrap_i64]; omega
  have hwv1 : IntKind.i64.wrap (1 + v) = 1 + v := by rw [IntKind.wrap_i64]; omega
  have hvT : lv.tmod 40 = v := by rw [Int.tmod_eq_emod_of_nonneg l0]; exact hvI
  have hvu : IntKind.u8.wrap v = v := by rw [IntKind.wrap_u8]; omega
  generalize poolK L n mm = PL at *
  generalize livV L n mm = LVs at *
  go_enter Try.func5, Try.ntmps5
  go_wp2_with fail
  refine HL.out.mono ?_
  rintro e w2 ⟨a1, a2, a3, p, q, m, q', o, l, r, s, t, S, rfl, hl, hv, hb⟩
  have LL := hide hl
  have B2 := hide hb
  clear hl hv hb HL
  go_wp2_with fail
  refine (wakes_any _).mono ?_
  rintro e w3 ⟨rfl, hb⟩
  have LL3 := hide (LL.out.below hb)
  have B3 := hide (B2.out.trans (hb.mono B2.out.size))
  clear hb LL B2
  go_wp2_with fail
  refine (HCD.out p q w3 LL3.out.pool).mono ?_
  rintro e w4 ⟨rfl, hb⟩
  have LL4 := hide (LL3.out.below hb)
  have B4 := hide (B3.out.trans (hb.mono B3.out.size))
  clear hb LL3 B3 HCD
  go_wp2_with fail
  refine (HSP.out p q w4 LL4.out.pool).mono ?_
  rintro e w5 ⟨rfl, hb⟩
  have LL5 := hide (LL4.out.below hb)
  have B5 := hide (B4.out.trans (hb.mono B4.out.size))
  clear hb LL4 B4 HSP
  by_cases hlt : hi - lo < 1 + v
  · have his := HC1.out hlt
    subst his
    go_wp2_with fail
    go_ret
    exact ⟨rfl, B5.out⟩
  · cases is with
    | false =>
      go_wp2_with fail
      go_ret
      exact ⟨rfl, B5.out⟩
    | true =>
      obtain ⟨h1, h2⟩ := HC2.out rfl
      have hst := HST.out p q k w5 LL5.out.pool
      have hwe := HWE.out p q k w5 LL5.out.pool
      rw [h1] at hst
      rw [h2] at hwe
      have HST' := hide hst
      have HWE' := hide hwe
      clear hst hwe h1 h2 HC1 HC2
      go_wp2_with fail
      refine HST'.out.mono ?_
      rintro e w6 ⟨rfl, rfl⟩
      go_wp2_with fail
      refine HWE'.out.mono ?_
      rintro e w6 ⟨rfl, rfl⟩
      go_wp2_with fail
      go_ret
      exact ⟨rfl, B5.out⟩

set_option maxRecDepth 100000 in
theorem victimCold_lifted (os : Os) (started : os.Started) (H : Type) (enc : TypeId × Value → H) :
    ReturnsInHanded {} Try.checked os 5 .any (Rows.victimColdSpec.pre6 enc Try.prog Try.f5 Rows.victimColdRow.domain false) (Rows.victimColdSpec.post enc Try.prog Try.f5 false true false false) := by
  refine returnsInHanded_of_change (C := Try.checked) own started (by kernel_rfl) Try.func5
    (ChangeSpec.witness6 (enc := enc) (C := Try.checked) false ⟨#[], #[.slice none 0 0, .int .u8 0], []⟩ 8 (by kernel_rfl) (by kernel_rfl) (by kernel_rfl) (by kernel_rfl)) ?_
  intro W base args ds gs before hval0 hW _ _
  have hval : ∀ (j : Nat) t v, Try.f5.params[j]? = some t → args[j]? = some v → Value.okWide Try.prog W .any base t v := hval0
  have hW' := hW
  obtain ⟨p, q, hA0, hV, rfl, hfz, hnd⟩ := hW
  have hA : DataW.TrodAll enc Try.prog W 0 (fun _ => true) true Try.f5.params.toList args.toList ds p := hA0
  rw [Try.params5] at hA hval
  obtain ⟨v0, vs0, d0, ds0, p0, q0, hargs, rfl, rfl, h0, r0⟩ := trodAll_cons hA
  obtain ⟨v1, vs1, d1, ds1, p1, q1, rfl, rfl, rfl, h1, r1⟩ := trodAll_cons r0
  obtain ⟨rfl, rfl, rfl⟩ := trodAll_nil r1
  obtain rfl : args = #[v0, v1] := by cases args; simp_all
  obtain ⟨rfl, rfl⟩ := trodVars_none hV
  obtain ⟨a, L, cap, rfl, hc, h63, hin, hok⟩ := open_bqs (hval 0 22 v0 rfl rfl) h0
  obtain ⟨level, rfl, rfl, rfl, w1⟩ := open_int Try.underlying5 (hval 1 5 v1 rfl rfl) h1
  have z1 := wf_u8 w1
  clear hA0 hval0
  refine (victimCold_walk a L cap hc h63 hok level z1.1 z1.2 W hin).mono fun e W' ⟨he, hb⟩ => ?_
  subst he
  exact ⟨_, rfl, post_law laidOut (of_decide_eq_true (by kernel_rfl)) rfl rfl Try.underlying4 hW' ⟨rfl, rfl, rfl⟩ hb⟩

/-- THE STATEMENT -/
theorem victimCold_holds : Rows.VictimColdSaid :=
  OpenClaim.holds_of_wide 5 Try.f5 rfl rfl rfl rfl rfl rfl rfl ⟨rfl, rfl, rfl, rfl, rfl⟩ rfl rfl rfl rfl rfl (by kernel_rfl) Try.func5 (by kernel_rfl)
    (of_decide_eq_true (by kernel_rfl)) (by unfold Func.isWrapper; first | (rw [if_pos (by decide +kernel)]; kernel_rfl) | (rw [if_neg (by decide +kernel)]; exact ⟨rfl, rfl⟩))
    (fun os started H enc _ => victimCold_lifted os started H enc)


end Go.Proofs.Ytpgogdnjddeagaa
