/-
  Layer 15's laws, walked and closed: VictimChooses.
-/
import Derived.Test.YtpgogdnjddeagaaVic9
import Derived.Test.YtpgogdnjddeagaaVic7
--import Derived.Test.Zdbg
namespace Go.Proofs.Ytpgogdnjddeagaa
set_option linter.unusedSimpArgs false
set_option linter.unusedVariables false
open Go.RowKit Go.WideShapes Go.ChangeShapes Go.ChangeAt Go.Deep W

theorem choose_same (L : List (Int × Int)) (hl : L.length ≤ 256) (S : Spots) (nb : Nat) (lv : Int → Int) (h : lvZ S nb = lv) (skip : List Int) : chooseZ L S nb skip = (if firstK (usedB L skip) (aheadF L lv) L.length = -1 then 0 else firstK (usedB L skip) (aheadF L lv) L.length, decide (firstK (usedB L skip) (aheadF L lv) L.length ≠ -1)) := by
  have e : chooseK L S nb skip = firstK (usedB L skip) (aheadF L lv) L.length := by
    unfold chooseK
    rw [aheadC_eq, h]
    exact firstK_all _ _ _ hl (fun b hb => used_out L skip b hb)
  unfold chooseZ
  rw [e]
  generalize firstK (usedB L skip) (aheadF L lv) L.length = k
  by_cases hk : k = -1
  · rw [if_pos hk, if_pos hk]; simp [hk]
  · rw [if_neg hk, if_neg hk]; simp [hk]
theorem cold_same (L : List (Int × Int)) (hl : L.length ≤ 256) (lv : Int) (skip : List Int) : coldZ L lv skip = coldR L lv (firstK (goodB L skip) (lessB L) L.length) (firstK (goodB L skip) (moreB L) L.length) := by
  have e1 : lowK L skip = firstK (goodB L skip) (lessB L) L.length := firstK_all _ _ _ hl (fun b hb => good_out L skip b hb)
  have e2 : highK L skip = firstK (goodB L skip) (moreB L) L.length := firstK_all _ _ _ hl (fun b hb => good_out L skip b hb)
  unfold coldZ coldR
  rw [e1, e2]
theorem cold_both (p q : Nat) (L : List (Int × Int)) (hL : SndOk L) (lv : Int) (a : Option Addr) (cap : Nat) (skip : List Int) (hl : skip.length ≤ maxLen) (w : World) (hp : PoolAt w p q L) (hs : NumsAt w .i64 (.slice a skip.length cap) skip) :
    Calls Try.prog 10 #[.pointer (some ⟨p, 0, none⟩), .int .i64 lv, .slice a skip.length cap] w fun e w' => e = .returned (.tuple #[.int .i64 (coldZ L lv skip).1, .bool (coldZ L lv skip).2]) ∧ Below w.heap.size w w' := by
  by_cases h : 1 ≤ lv
  · exact cold_any p q L hL lv h _ skip hl w hp hs
  · have e : coldZ L lv skip = (0, false) := by unfold coldZ; rw [if_pos (.inl (by omega))]
    rw [e]
    exact cold_no _ lv (by omega) a _ _ w
theorem LaidAt.liv {W : World} {B a1 a2 a3 p q m q' o l r s t n : Nat} {PL : List (Int × Int)} {nb : Nat} {S : Spots} {RL : List (Int × Int)} {L : List BQ} {mm : Nat} (h : LaidAt W B a1 a2 a3 p q m q' o l r s t PL nb S RL (livV L n mm)) (h1 : mm ≤ L.length) (h2 : mm ≤ n) : LivAt W a3 n (livZ L mm) := by
  refine ⟨heap_lt h.live, fun k hk => ?_⟩
  have e1 := genK_at (fun x => Value.int .i64 (toN x : Int)) (.int .i64 0) L n mm k h1 h2 hk (.int .i64 0)
  have e2 := genK_length (fun x => Value.int .i64 (toN x : Int)) (.int .i64 0) L n mm h1 h2
  rw [cell_of_block h.live, List.getElem?_toArray]
  unfold livV
  rw [List.getD, List.getElem?_eq_getElem (by omega)] at e1
  rw [List.getElem?_eq_getElem (by omega)]
  refine congrArg some (Eq.trans e1 ?_)
  unfold livZ
  by_cases hkm : k < mm
  · rw [if_pos hkm, if_pos ⟨by omega, by omega⟩, Int.toNat_natCast]
  · rw [if_neg hkm, if_neg (by omega)]
set_option maxRecDepth 100000 in
set_option maxHeartbeats 2000000 in
theorem victimChooses_walk (a : Option Addr) (L : List BQ) (cap : Nat) (hcap : L.length ≤ cap) (h63 : L.length ≤ 9223372036854775807) (hok : ∀ x ∈ L, BqOk x) (sv : Value) (lev : Int) (l0 : -9223372036854775808 ≤ lev) (l1 : lev ≤ 9223372036854775807) (w : World) (hin : BqIn w a L) (hv : ∃ zs : List Int, NumsAt w .i64 sv zs ∧ (∀ z ∈ zs, (Lit.int .i64 z).wf = true) ∧ zs.length ≤ maxLen) :
    Calls Try.prog 3 #[.slice a L.length cap, sv, .int .i64 lev] w fun e w' => e = .returned (.bool true) ∧ Below w.heap.size w w' := by
  obtain ⟨zs, hz, hwf, hzl⟩ := hv
  obtain ⟨za, zcap, rfl, hzc, -⟩ := nums_at hz
  obtain ⟨mm, hmm⟩ : ∃ mm, mm = min L.length 20 := ⟨_, rfl⟩
  obtain ⟨n, hnn⟩ : ∃ n, n = max 1 mm := ⟨_, rfl⟩
  have HL := hide (laid_any a L cap mm n hmm hnn hcap h63 hok w hin)
  have hm1 : mm ≤ L.length := by omega
  have hmn : mm ≤ n := by omega
  have hn20 : n ≤ 20 := by omega
  obtain ⟨j10, hj⟩ : ∃ j, min zs.length 10 = j := ⟨_, rfl⟩
  have hj1 : j10 ≤ zs.length := by omega
  have hj2 : j10 ≤ 10 := by omega
  have hjF : (if (10 : Int) < (zs.length : Int) then (10 : Int) else (zs.length : Int)) = (j10 : Int) := by split <;> omega
  have hjI : min (zs.length : Int) 10 = (j10 : Int) := by omega
  have hjc : (j10 : Int) ≤ (zcap : Int) := by omega
  have hz63 : zs.length ≤ 9223372036854775807 := by unfold maxLen at hzl; exact hzl
  have hsl := (show (zs.take j10).length = j10 by rw [List.length_take]; omega)
  have NS := hide (show NumsAt w .i64 (.slice za j10 zcap) (zs.take j10) by have h := nums_take hz j10 hj1; rwa [hsl] at h)
  have HSL := hide hsl
  clear hz hwf hj hsl hin hok hmm hnn
  generalize zs.take j10 = ks at *
  have hkm : ks.length ≤ maxLen := by rw [HSL.out]; unfold maxLen; omega
  have hlen : (poolK L n mm).length = n := genK_length toP (1, 0) L n mm hm1 hmn
  have HSO := poolK_ok L n mm hm1 hmn
  obtain ⟨j10, rfl⟩ : ∃ j, j = ks.length := ⟨_, rfl⟩
  obtain rfl := HSL.out
  have HCH := hide (fun p q m q' o l S (h : lvZ S n = livZ L mm) W h1 h2 h3 => show Calls Try.prog _ _ W _ from by
    have h4 := choose_any p q m q' o l (poolK L n mm) 8 n S (.slice za ks.length zcap) ks hkm W h1 h2 h3
    rw [choose_same (poolK L n mm) (by omega) S n (livZ L mm) h ks] at h4
    exact h4)
  have HRC := hide (fun r s t b W h1 h2 h3 => rchoose_any r s t b (poolK L n mm) (livZ L mm) (by omega) (.slice za ks.length zcap) ks hkm W h1 h2 h3)
  have HCO := hide (fun p q x W h1 h2 => cold_both p q (poolK L n mm) HSO.snd x za zcap ks hkm W h1 h2)
  have HRD := hide (fun r s t x W h1 h2 => rcold_any r s t (poolK L n mm) HSO (by omega) x (.slice za ks.length zcap) ks hkm W h1 h2)
  have HCS := hide (fun x => cold_same (poolK L n mm) (by omega) x ks)
  have HSH := hide (fun p q x W h => short_any p q (poolK L n mm) (by omega) x W h)
  have HRN := hide (fun r s t W h => rcount_any r s t (poolK L n mm) (by omega) 1 W h)
  rw [hlen] at HRC
  dsimp only at HCH
  rw [hlen] at HCH
  obtain ⟨ck, hck⟩ : ∃ ck, (if firstK (usedB (poolK L n mm) ks) (aheadF (poolK L n mm) (livZ L mm)) n = -1 then 0 else firstK (usedB (poolK L n mm) ks) (aheadF (poolK L n mm) (livZ L mm)) n) = ck := ⟨_, rfl⟩
  obtain ⟨cb, hcb⟩ : ∃ cb, decide (firstK (usedB (poolK L n mm) ks) (aheadF (poolK L n mm) (livZ L mm)) n ≠ -1) = cb := ⟨_, rfl⟩
  rw [hck, hcb] at HCH HRC
  have HLV := hide (fun (W : World) (B a1 a2 a3 p q m q' o l r s t : Nat) (S : Spots) (h : LaidAt W B a1 a2 a3 p q m q' o l r s t (poolK L n mm) n S (poolK L n mm) (livV L n mm)) => h.liv hm1 hmn)
  clear hck hcb hlen HSO
  generalize poolK L n mm = PL at *
  generalize livV L n mm = LVs at *
  obtain ⟨xm, hxmF, hxmI, hxm0⟩ : ∃ u : Int, (if 0 < lev then lev else 0) = u ∧ max 0 lev = u ∧ 0 ≤ u := ⟨max 0 lev, by split <;> omega, rfl, by omega⟩
  obtain ⟨l50, hlT, hlI⟩ : ∃ u : Int, xm.tmod 50 = u ∧ xm % 50 = u := ⟨xm % 50, Int.tmod_eq_emod_of_nonneg hxm0, rfl⟩
  have hlw : IntKind.i64.wrap l50 = l50 := by rw [IntKind.wrap_i64]; omega
  go_enter Try.func3, Try.ntmps3
  go_wp2_with fail
  refine HL.out.mono ?_
  rintro e w2 ⟨a1, a2, a3, p, q, m, q', o, l, r, s, t, S, rfl, hl, hlv, hb⟩
  have LL := hide hl
  have B2 := hide hb
  have NS2 := hide (NS.out.below hb)
  have HCHS := hide (fun W h1 h2 h3 => HCH.out p q m q' o l S hlv W h1 h2 h3)
  clear hl hb HL NS hlv HCH
  go_wp2_with fail
  refine (wakes_any _).mono ?_
  rintro e w3 ⟨rfl, hb⟩
  have LL3 := hide (LL.out.below hb)
  have NS3 := hide (NS2.out.below hb)
  have B3 := hide (B2.out.trans (hb.mono B2.out.size))
  clear hb LL B2 NS2
  go_wp2_with fail
  refine (HCHS.out w3 LL3.out.pool LL3.out.map NS3.out).mono ?_
  rintro e w4 ⟨rfl, hb⟩
  have LL4 := hide (LL3.out.below hb)
  have NS4 := hide (NS3.out.below hb)
  have B4 := hide (B3.out.trans (hb.mono B3.out.size))
  clear hb LL3 B3 NS3 HCHS
  go_wp2_with fail
  refine (HRC.out r s t a3 w4 LL4.out.ref (HLV.out _ _ _ _ _ _ _ _ _ _ _ _ _ _ _ LL4.out) NS4.out).mono ?_
  rintro e w5 ⟨rfl, hb⟩
  have LL5 := hide (LL4.out.below hb)
  have NS5 := hide (NS4.out.below hb)
  have B5 := hide (B4.out.trans (hb.mono B4.out.size))
  clear hb LL4 B4 NS4 HRC HLV
  go_wp2_with fail
  obtain ⟨ob, hob⟩ : ∃ ob, ob = (Obj.cells #[.int .i64 lev, .int .i64 l50] 3) := ⟨_, rfl⟩
  try rw [← hob]
  have hal := (Below.refl w5.heap.size w5).alloc (Nat.le_refl _) ob
  have XB := hide (heap_new w5 ob)
  have LL6 := hide (LL5.out.below hal)
  have NS6 := hide (NS5.out.below hal)
  have B6 := hide (B5.out.trans (hal.mono B5.out.size))
  clear hal LL5 NS5 B5
  generalize w5.alloc ob = w6 at *
  generalize w5.heap.size = xb at *
  rw [hob] at XB
  clear hob ob
  go_loopw [75] (fun z W => ∃ i : Nat, i ≤ 2 ∧ z = .int .i64 i ∧ LaidAt W w.heap.size a1 a2 a3 p q m q' o l r s t PL n S PL LVs ∧ NumsAt W .i64 (.slice za ks.length zcap) ks ∧ W.heap[xb]? = some (.cells #[.int .i64 lev, .int .i64 l50] 3 (0, 0)) ∧ Below w.heap.size w W) (fun z _ => 2 - (intOf z).toNat)
  case atStart => exact ⟨0, by omega, rfl, LL6.out, NS6.out, XB.out, B6.out⟩
  case round =>
    obtain ⟨i, hi, rfl, hl, hn, hx, hb⟩ := hrel
    have LL7 := hide hl
    have NS7 := hide hn
    have XB7 := hide hx
    have B7 := hide hb
    clear hl hn hx hb LL6 NS6 XB B6
    by_cases hlt : i < 2
    · obtain ⟨nv, hnv⟩ : ∃ nv, wr.cell? ⟨xb, i, none⟩ = some (.int .i64 nv) := by
        have h2 : i = 0 ∨ i = 1 := by omega
        rcases h2 with rfl | rfl
        · exact ⟨lev, cell_of_block XB7.out 0⟩
        · exact ⟨l50, cell_of_block XB7.out 1⟩
      have HCOx := hide (fun W h1 h2 => HCO.out p q nv W h1 h2)
      have HRDx := hide (fun W h1 h2 => HRD.out r s t nv W h1 h2)
      rw [← HCS.out nv] at HRDx
      have HSHx := hide (fun W h => HSH.out p q nv W h)
      have HRNx := hide (fun W h => HRN.out r s t W h)
      generalize (cntK PL 1 PL.length : Int) = cn at *
      generalize coldZ PL nv ks = cz at *
      obtain ⟨z1, z2⟩ := cz
      dsimp only at HCOx HRDx
      go_wp2_with fail
      refine (HCOx.out wr LL7.out.pool NS7.out).mono ?_
      rintro e w8 ⟨rfl, hb⟩
      have LL8 := hide (LL7.out.below hb)
      have NS8 := hide (NS7.out.below hb)
      have XB8 := hide ((hb.block _ (heap_lt XB7.out)).trans XB7.out)
      have B8 := hide (B7.out.trans (hb.mono B7.out.size))
      clear hb LL7 NS7 XB7 B7 hnv
      go_wp2_with fail
      refine (HRDx.out w8 LL8.out.ref NS8.out).mono ?_
      rintro e w9 ⟨rfl, hb⟩
      have LL9 := hide (LL8.out.below hb)
      have NS9 := hide (NS8.out.below hb)
      have XB9 := hide ((hb.block _ (heap_lt XB8.out)).trans XB8.out)
      have B9 := hide (B8.out.trans (hb.mono B8.out.size))
      clear hb LL8 NS8 XB8 B8
      go_wp2_with fail
      refine (HSHx.out w9 LL9.out.pool).mono ?_
      rintro e w10 ⟨rfl, hb⟩
      have LL10 := hide (LL9.out.below hb)
      have NS10 := hide (NS9.out.below hb)
      have XB10 := hide ((hb.block _ (heap_lt XB9.out)).trans XB9.out)
      have B10 := hide (B9.out.trans (hb.mono B9.out.size))
      clear hb LL9 NS9 XB9 B9
      go_wp2_with fail
      refine (HRNx.out w10 LL10.out.ref).mono ?_
      rintro e w11 ⟨rfl, rfl⟩
      go_wp2_with fail
      go_roundw
      case rel => exact ⟨i + 1, by omega, by go_num, LL10.out, NS10.out, XB10.out, B10.out⟩
      case measure => simp [intOf]; omega
    · obtain rfl : i = 2 := by omega
      rw [show ((2 : Nat) : Int) = 2 from rfl]
      clear HCO HRD HCS HSH HRN NS7 XB7
      go_wp2_with fail
      refine (choose_nilP (some ⟨m, 0, none⟩) none 0 0 wr).mono ?_
      rintro e w8 ⟨rfl, hb⟩
      have B8 := hide (B7.out.trans (hb.mono B7.out.size))
      clear hb B7 LL7
      go_wp2_with fail
      refine (choose_nilM ⟨p, 0, none⟩ none 0 0 w8).mono ?_
      rintro e w9 ⟨rfl, hb⟩
      have B9 := hide (B8.out.trans (hb.mono B8.out.size))
      clear hb B8
      go_wp2_with fail
      refine (cold_nil 1 none 0 0 w9).mono ?_
      rintro e w10 ⟨rfl, hb⟩
      have B10 := hide (B9.out.trans (hb.mono B9.out.size))
      clear hb B9
      go_wp2_with fail
      refine (short_nil 5 w10).mono ?_
      rintro e w11 ⟨rfl, hb⟩
      have B11 := hide (B10.out.trans (hb.mono B10.out.size))
      clear hb B10
      go_wp2_with fail
      go_ret
      exact ⟨rfl, B11.out⟩

set_option maxRecDepth 100000 in
theorem victimChooses_lifted (os : Os) (started : os.Started) (H : Type) (enc : TypeId × Value → H) :
    ReturnsInHanded {} Try.checked os 3 .any (Rows.victimChoosesSpec.pre6 enc Try.prog Try.f3 Rows.victimChoosesRow.domain false) (Rows.victimChoosesSpec.post enc Try.prog Try.f3 false true false false) := by
  refine returnsInHanded_of_change (C := Try.checked) own started (by kernel_rfl) Try.func3
    (ChangeSpec.witness6 (enc := enc) (C := Try.checked) false ⟨#[], #[.slice none 0 0, .slice none 0 0, .int .i64 0], []⟩ 8 (by kernel_rfl) (by kernel_rfl) (by kernel_rfl) (by kernel_rfl)) ?_
  intro W base args ds gs before hval0 hW _ _
  have hval : ∀ (j : Nat) t v, Try.f3.params[j]? = some t → args[j]? = some v → Value.okWide Try.prog W .any base t v := hval0
  have hW' := hW
  obtain ⟨p, q, hA0, hV, rfl, hfz, hnd⟩ := hW
  have hA : DataW.TrodAll enc Try.prog W 0 (fun _ => true) true Try.f3.params.toList args.toList ds p := hA0
  rw [Try.params3] at hA hval
  obtain ⟨v0, vs0, d0, ds0, p0, q0, hargs, rfl, rfl, h0, r0⟩ := trodAll_cons hA
  obtain ⟨v1, vs1, d1, ds1, p1, q1, rfl, rfl, rfl, h1, r1⟩ := trodAll_cons r0
  obtain ⟨v2, vs2, d2, ds2, p2, q2, rfl, rfl, rfl, h2, r2⟩ := trodAll_cons r1
  obtain ⟨rfl, rfl, rfl⟩ := trodAll_nil r2
  obtain rfl : args = #[v0, v1, v2] := by cases args; simp_all
  obtain ⟨rfl, rfl⟩ := trodVars_none hV
  obtain ⟨a, L, cap, rfl, hc, h63, hin, hok⟩ := open_bqs (hval 0 22 v0 rfl rfl) h0
  have z1 := open_nums_slice Try.underlying23 Try.underlying3 (by kernel_rfl) (hval 1 23 v1 rfl rfl) h1
  obtain ⟨level, rfl, rfl, rfl, w2⟩ := open_int Try.underlying3 (hval 2 3 v2 rfl rfl) h2
  have z2 := wf_i64 w2
  clear hA0 hval0
  refine (victimChooses_walk a L cap hc h63 hok v1 level z2.1 z2.2 W hin z1).mono fun e W' ⟨he, hb⟩ => ?_
  subst he
  exact ⟨_, rfl, post_law laidOut (of_decide_eq_true (by kernel_rfl)) rfl rfl Try.underlying4 hW' ⟨rfl, rfl, rfl⟩ hb⟩

/-- THE STATEMENT -/
theorem victimChooses_holds : Rows.VictimChoosesSaid :=
  OpenClaim.holds_of_wide 3 Try.f3 rfl rfl rfl rfl rfl rfl rfl ⟨rfl, rfl, rfl, rfl, rfl⟩ rfl rfl rfl rfl rfl (by kernel_rfl) Try.func3 (by kernel_rfl)
    (of_decide_eq_true (by kernel_rfl)) (by unfold Func.isWrapper; first | (rw [if_pos (by decide +kernel)]; kernel_rfl) | (rw [if_neg (by decide +kernel)]; exact ⟨rfl, rfl⟩))
    (fun os started H enc _ => victimChooses_lifted os started H enc)


end Go.Proofs.Ytpgogdnjddeagaa
