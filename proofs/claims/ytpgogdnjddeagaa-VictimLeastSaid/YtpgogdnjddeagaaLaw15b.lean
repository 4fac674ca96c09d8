/-
  Layer 15's laws, walked and closed: VictimLeast.
-/
import Derived.Test.YtpgogdnjddeagaaVic7
--import Derived.Test.Zdbg
namespace Go.Proofs.Ytpgogdnjddeagaa
set_option linter.unusedSimpArgs false
set_option linter.unusedVariables false
open Go.RowKit Go.WideShapes Go.ChangeShapes Go.ChangeAt Go.Deep W

set_option maxRecDepth 100000 in
set_option maxHeartbeats 2000000 in
theorem victimLeast_walk (a : Option Addr) (L : List BQ) (cap : Nat) (hcap : L.length ≤ cap) (h63 : L.length ≤ 9223372036854775807) (hok : ∀ x ∈ L, BqOk x) (sv : Value) (w : World) (hin : BqIn w a L) (hv : ∃ zs : List Int, NumsAt w .i64 sv zs ∧ (∀ z ∈ zs, (Lit.int .i64 z).wf = true) ∧ zs.length ≤ maxLen) :
    Calls Try.prog 4 #[.slice a L.length cap, sv] w fun e w' => e = .returned (.bool true) ∧ Below w.heap.size w w' := by
  obtain ⟨zs, hz, hwf, hzl⟩ := hv
  obtain ⟨za, zcap, rfl, hzc, -⟩ := nums_at hz
  obtain ⟨mm, hmm⟩ : ∃ mm, mm = min L.length 20 := ⟨_, rfl⟩
  obtain ⟨n, hnn⟩ : ∃ n, n = max 1 mm := ⟨_, rfl⟩
  have HL := hide (laid_any a L cap mm n hmm hnn hcap h63 hok w hin)
  have hm1 : mm ≤ L.length := by omega
  have hmn : mm ≤ n := by omega
  have hn20 : n ≤ 20 := by omega
  obtain ⟨j10, hj⟩ : ∃ j, min zs.length 10 = j := ⟨_, rfl⟩
  have hj1 : j10 ≤ zs.length := by omega
  have hj2 : j10 ≤ 10 := by omega
  have hjF : (if (10 : Int) < (zs.length : Int) then (10 : Int) else (zs.length : Int)) = (j10 : Int) := by split <;> omega
  have hjI : min (zs.length : Int) 10 = (j10 : Int) := by omega
  have hjc : (j10 : Int) ≤ (zcap : Int) := by omega
  have hz63 : zs.length ≤ 9223372036854775807 := by unfold maxLen at hzl; exact hzl
  have hsl := (show (zs.take j10).length = j10 by rw [List.length_take]; omega)
  have NS := hide (show NumsAt w .i64 (.slice za j10 zcap) (zs.take j10) by have h := nums_take hz j10 hj1; rwa [hsl] at h)
  have HWF := hide (show ∀ z ∈ zs.take j10, (Lit.int .i64 z).wf = true from fun z hz => hwf z (List.mem_of_mem_take hz))
  have HSL := hide hsl
  clear hz hwf hj hsl hin hok hmm hnn
  generalize zs.take j10 = ks at *
  have hlen : (poolK L n mm).length = n := genK_length toP (1, 0) L n mm hm1 hmn
  have HCH := hide (fun p q m q' o l S W h1 h2 h3 => choose_any p q m q' o l (poolK L n mm) 8 n S (.slice za j10 zcap) ks (by rw [HSL.out]; unfold maxLen; omega) W h1 h2 h3)
  have HST := hide (fun p q b W h => state_any p q (poolK L n mm) b W h)
  have HLE := hide (fun S => choose_least (poolK L n mm) S n ks)
  have BL := hide (Below.refl w.heap.size w)
  clear hlen
  generalize poolK L n mm = PL at *
  generalize livV L n mm = LVs at *
  have hmk := @run_makeMap Try.prog
  go_enter Try.func4, Try.ntmps4
  go_wp2_with fail
  refine HL.out.mono ?_
  rintro e w2 ⟨a1, a2, a3, p, q, m, q', o, l, r, s, t, S, rfl, hl, -, hb⟩
  have LL := hide hl
  have B2 := hide hb
  have NS2 := hide (NS.out.below hb)
  clear hl hb HL NS
  go_wp2_with fail
  refine (wakes_any _).mono ?_
  rintro e w3 ⟨rfl, hb⟩
  have LL3 := hide (LL.out.below hb)
  have NS3 := hide (NS2.out.below hb)
  have B3 := hide (B2.out.trans (hb.mono B2.out.size))
  clear hb LL B2 NS2
  go_wp2_with fail
  have HLS := hide (HLE.out S)
  have hch := HCH.out p q m q' o l S w3 LL3.out.pool LL3.out.map NS3.out
  obtain ⟨k, is, hz⟩ : ∃ k is, chooseZ PL S n ks = (k, is) := ⟨_, _, rfl⟩
  rw [hz] at HLS hch
  have hkb : 0 ≤ k ∧ k ≤ 255 := by
    have h1 := firstK_256 (usedB PL ks) (aheadC PL S n)
    unfold chooseZ chooseK at hz
    split at hz
    · cases hz; omega
    · cases hz; omega
  dsimp only at hch
  refine hch.mono ?_
  rintro e w4 ⟨rfl, hb⟩
  have LL4 := hide (LL3.out.below hb)
  have NS4 := hide (NS3.out.below hb)
  have B4 := hide (B3.out.trans (hb.mono B3.out.size))
  clear hb LL3 B3 NS3 hch HCH hz HLE
  go_wp2_with fail
  have hal := (Below.refl w4.heap.size w4).alloc (Nat.le_refl _) (.map #[] 0)
  have M5 := hide (MapIs.made w4 Try.prog 3)
  have LL5 := hide (LL4.out.below hal)
  have NS5 := hide (NS4.out.below hal)
  have B5 := hide (B4.out.trans (hal.mono B4.out.size))
  have HBM := hide (show w.heap.size ≤ w4.heap.size ∧ a3 < w4.heap.size from ⟨B4.out.size, heap_lt LL4.out.live⟩)
  have HNB := hide (nums_block NS4.out)
  clear hal LL4 B4 NS4
  generalize w4.alloc (.map #[] 0) = w5 at *
  generalize w4.heap.size = bm at *
  have M5 := hide (show MapIs w5 Try.prog 3 bm 0 0 (passF (ks.take 0)) by rw [List.take_zero, passF_nil]; exact M5.out)
  obtain rfl : j10 = ks.length := HSL.out.symm
  go_wp2_with fail
  go_loopw [45] (fun z W => ∃ (i c : Nat), i ≤ ks.length ∧ z = .int .i64 i ∧ LaidAt W w.heap.size a1 a2 a3 p q m q' o l r s t PL n S PL LVs ∧ NumsAt W .i64 (.slice za ks.length zcap) ks ∧ MapIs W Try.prog 3 bm i c (passF (ks.take i)) ∧ Below w.heap.size w W) (fun z _ => ks.length - (intOf z).toNat)
  case atStart => exact ⟨0, 0, by omega, rfl, LL5.out, NS5.out, M5.out, B5.out⟩
  case round =>
    obtain ⟨i, c, hi, rfl, hl, hn, hm, hb⟩ := hrel
    have LL6 := hide hl
    have NS6 := hide hn
    have M6 := hide hm
    have B6 := hide hb
    clear hl hn hm hb LL5 NS5 M5 B5
    by_cases hlt : i < ks.length
    · obtain ⟨za', cap', e, -, hat⟩ := nums_at NS6.out
      simp only [Value.slice.injEq] at e
      obtain ⟨rfl, -, rfl⟩ := e
      obtain ⟨b, off, rfl, -, hc⟩ := hat i hlt
      have hwf := HWF.out (ks.getD i 0) (by simp [List.getD, hlt])
      have HTK := hide (show ks.take (i + 1) = ks.take i ++ [ks.getD i 0] by rw [List.take_add_one]; simp [List.getD, hlt])
      clear hat
      generalize ks.getD i 0 = z at *
      have HWZ := hide hwf
      clear hwf
      have HIM := hide (show i < maxLen by unfold maxLen; omega)
      go_wp2_with (at_mapUpdate; refine wpList_mapStore _ rfl _ _ _ 38 rfl 3 4 Keyed_int Try.underlying38 bm i c (passF (ks.take i)) rfl M6.out HIM.out (.int .i64 z) (.bool true) (.int .i64 z) rfl rfl (key_int HWZ.out) trivial ?_; intro w7 hm7 hg7; have M7 := hide hm7; have HO7 := hide (only_of_grown hg7); clear hm7 hg7)
      have LL7 := hide (LL6.out.only HO7.out HBM.out.2)
      have NS7 := hide (NS6.out.only HO7.out (fun b off e hp => by have := HNB.out b off e hp; omega))
      have B7 := hide (show Below w.heap.size w w7 from HO7.out.below B6.out HBM.out.1 B6.out.size)
      go_roundw
      case rel => exact ⟨i + 1, _, by omega, by go_num, LL7.out, NS7.out, by have h := M7.out; rw [passF_next, ← HTK.out] at h; exact h, B7.out⟩
      case measure => simp [intOf]; omega
    · obtain rfl : i = ks.length := by omega
      rw [List.take_length] at M6
      clear NS6 HNB
      go_wp2_with fail
      go_loopw [15] (fun z W => ∃ b : Nat, b ≤ 20 ∧ z = .int .i64 b ∧ W = wr) (fun z _ => 20 - (intOf z).toNat)
      case atStart => exact ⟨0, by omega, rfl, rfl⟩
      case round =>
        obtain ⟨b, hb20, rfl, rfl⟩ := hrel
        by_cases hlt2 : b < 20
        · have HSB := hide (HST.out p q (b : Int) wr LL6.out.pool)
          have HLB := hide (live_any LL6.out.map (b : Int))
          have HLK := hide (live_any LL6.out.map k)
          have HUB := hide (show usedB PL ks (b : Int) = (decide (fstZ PL b = 2) && !decide ((b : Int) ∈ ks)) from rfl)
          have hlk := M6.out.look Keyed_int Try.underlying38 (zero_bool15 _) (key_int (a := (b : Int)) (WalkArith.wf_i64 (by omega))) trivial
          rw [passF_at] at hlk
          by_cases hf : fstZ PL (b : Int) = 2
          · rw [hf] at HSB HUB
            by_cases hk : (b : Int) ∈ ks
            · rw [show decide ((b : Int) ∈ ks) = true from decide_eq_true hk] at hlk
              clear hf hk
              go_wp2_with fail
              refine HSB.out.mono ?_
              rintro e w8 ⟨rfl, rfl⟩
              go_wp2_with fail
              go_roundw
              case rel => exact ⟨b + 1, by omega, by simp⟩
              case measure => simp [intOf]; omega
            · rw [show decide ((b : Int) ∈ ks) = false from decide_eq_false hk] at hlk HUB
              cases is with
              | false =>
                have h1 := HLS.out.2 rfl b (by omega)
                rw [HUB.out] at h1
                exact absurd h1 (by decide)
              | true =>
                have h1 := (HLS.out.1 rfl).2 b (by omega) HUB.out
                generalize lvZ S n (b : Int) = x at *
                generalize lvZ S n k = y at *
                have hd : decide (x < y) = false := decide_eq_false (by omega)
                clear hf hk
                go_wp2_with fail
                refine HSB.out.mono ?_
                rintro e w8 ⟨rfl, rfl⟩
                go_wp2_with fail
                refine HLB.out.mono ?_
                rintro e w8 ⟨rfl, rfl⟩
                go_wp2_with fail
                refine HLK.out.mono ?_
                rintro e w8 ⟨rfl, rfl⟩
                go_wp2_with fail
                go_roundw
                case rel => exact ⟨b + 1, by omega, by simp⟩
                case measure => simp [intOf]; omega
          · generalize fstZ PL (b : Int) = x at *
            go_wp2_with fail
            refine HSB.out.mono ?_
            rintro e w8 ⟨rfl, rfl⟩
            go_wp2_with fail
            go_roundw
            case rel => exact ⟨b + 1, by omega, by simp⟩
            case measure => simp [intOf]; omega
        · obtain rfl : b = 20 := by omega
          rw [show ((20 : Nat) : Int) = 20 from rfl]
          cases is with
          | false =>
            go_wp2_with fail
            go_ret
            exact ⟨rfl, B6.out⟩
          | true =>
            have hu : usedB PL ks k = true := (HLS.out.1 rfl).1
            unfold usedB at hu
            simp only [Bool.and_eq_true, decide_eq_true_eq, Bool.not_eq_true', decide_eq_false_iff_not] at hu
            have HSB := HST.out p q k wr LL6.out.pool
            rw [hu.1] at HSB
            have HSB := hide HSB
            have hlk := M6.out.look Keyed_int Try.underlying38 (zero_bool15 _) (key_int (a := k) (WalkArith.wf_i64 (by omega))) trivial
            rw [passF_at, show decide (k ∈ ks) = false from decide_eq_false hu.2] at hlk
            clear hu
            go_wp2_with fail
            refine HSB.out.mono ?_
            rintro e w8 ⟨rfl, rfl⟩
            go_wp2_with fail
            go_ret
            exact ⟨rfl, B6.out⟩

set_option maxRecDepth 100000 in
theorem victimLeast_lifted (os : Os) (started : os.Started) (H : Type) (enc : TypeId × Value → H) :
    ReturnsInHanded {} Try.checked os 4 .any (Rows.victimLeastSpec.pre6 enc Try.prog Try.f4 Rows.victimLeastRow.domain false) (Rows.victimLeastSpec.post enc Try.prog Try.f4 false true false false) := by
  refine returnsInHanded_of_change (C := Try.checked) own started (by kernel_rfl) Try.func4
    (ChangeSpec.witness6 (enc := enc) (C := Try.checked) false ⟨#[], #[.slice none 0 0, .slice none 0 0], []⟩ 8 (by kernel_rfl) (by kernel_rfl) (by kernel_rfl) (by kernel_rfl)) ?_
  intro W base args ds gs before hval0 hW _ _
  have hval : ∀ (j : Nat) t v, Try.f4.params[j]? = some t → args[j]? = some v → Value.okWide Try.prog W .any base t v := hval0
  have hW' := hW
  obtain ⟨p, q, hA0, hV, rfl, hfz, hnd⟩ := hW
  have hA : DataW.TrodAll enc Try.prog W 0 (fun _ => true) true Try.f4.params.toList args.toList ds p := hA0
  rw [Try.params4] at hA hval
  obtain ⟨v0, vs0, d0, ds0, p0, q0, hargs, rfl, rfl, h0, r0⟩ := trodAll_cons hA
  obtain ⟨v1, vs1, d1, ds1, p1, q1, rfl, rfl, rfl, h1, r1⟩ := trodAll_cons r0
  obtain ⟨rfl, rfl, rfl⟩ := trodAll_nil r1
  obtain rfl : args = #[v0, v1] := by cases args; simp_all
  obtain ⟨rfl, rfl⟩ := trodVars_none hV
  obtain ⟨a, L, cap, rfl, hc, h63, hin, hok⟩ := open_bqs (hval 0 22 v0 rfl rfl) h0
  have z1 := open_nums_slice Try.underlying23 Try.underlying3 (by kernel_rfl) (hval 1 23 v1 rfl rfl) h1
  clear hA0 hval0
  refine (victimLeast_walk a L cap hc h63 hok v1 W hin z1).mono fun e W' ⟨he, hb⟩ => ?_
  subst he
  exact ⟨_, rfl, post_law laidOut (of_decide_eq_true (by kernel_rfl)) rfl rfl Try.underlying4 hW' ⟨rfl, rfl, rfl⟩ hb⟩

/-- THE STATEMENT -/
theorem victimLeast_holds : Rows.VictimLeastSaid :=
  OpenClaim.holds_of_wide 4 Try.f4 rfl rfl rfl rfl rfl rfl rfl ⟨rfl, rfl, rfl, rfl, rfl⟩ rfl rfl rfl rfl rfl (by kernel_rfl) Try.func4 (by kernel_rfl)
    (of_decide_eq_true (by kernel_rfl)) (by unfold Func.isWrapper; first | (rw [if_pos (by decide +kernel)]; kernel_rfl) | (rw [if_neg (by decide +kernel)]; exact ⟨rfl, rfl⟩))
    (fun os started H enc _ => victimLeast_lifted os started H enc)


end Go.Proofs.Ytpgogdnjddeagaa
