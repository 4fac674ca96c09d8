/-
  BooksApply: whatever is applied, the answers, all balances, the trial, and the fields, are the document's; a copy has nothing to do with what it is of. No condition.
-/
import Derived.Test.YtjnfmgbbhiklaaaBooks11
--import Derived.Test.Zdbg
namespace Go.Proofs.Ytjnfmgbbhiklaaa
set_option linter.unusedSimpArgs false
set_option linter.unusedVariables false
open Go.RowKit Go.WideShapes Go.ChangeShapes Go.ChangeAt Go.Deep

theorem nextB_len {M P : List LnM} (hr : RiseB M) : (nextB M P).length ≤ M.length + P.length := by
  unfold nextB
  split
  · have := setAll_len (t := totB M P) (P.map (·.c)) hr
    rwa [List.length_map] at this
  · omega
set_option maxRecDepth 100000 in
set_option maxHeartbeats 1000000 in
theorem booksApply_walk (v0 : Value) (W0 : World) (hz : ∃ (a : Option Addr) (LL : List (Option Addr × Nat × List LnM)) (cap : Nat), v0 = .slice a LL.length cap ∧ LL.length ≤ cap ∧ LL.length ≤ 9223372036854775807 ∧ InLL W0 a LL) (acct : Int) (a0 : -9223372036854775808 ≤ acct) (a1 : acct ≤ 9223372036854775807) :
    Calls Try.prog 3 #[v0, .int .i64 acct] W0 fun e w' => e = .returned (.bool true) ∧ Below W0.heap.size W0 w' := by
  obtain ⟨a, LL, cap, rfl, hcap, h63, hin⟩ := hz
  generalize W0 = w at *
  obtain ⟨n, hn⟩ : ∃ n : Nat, min LL.length 25 = n := ⟨_, rfl⟩
  have hmF : (if (25 : Int) < (LL.length : Int) then (25 : Int) else (LL.length : Int)) = (n : Int) := by split <;> omega
  have hmI : min (LL.length : Int) 25 = (n : Int) := by omega
  have hn9 : n ≤ 25 := by omega
  have hnl : n ≤ LL.length := by omega
  have hcI : (n : Int) ≤ (cap : Int) := by omega
  have HIN := hide hin
  have HAC := hide (show inR acct from ⟨a0, a1⟩)
  clear hin hn a0 a1
  go_enter Try.func3, Try.ntmps3
  go_wp2_with fail
  refine (bkNew w).mono ?_
  rintro e w1 ⟨p, bm, rfl, hbk, hbm, hp, hb⟩
  have BK1 := hide hbk
  have HBM := hide hbm
  have HP := hide hp
  have B1 := hide hb
  clear hbk hbm hp hb
  go_wp2_with fail
  refine (wakes23 w1).mono ?_
  rintro e w2 ⟨rfl, hb⟩
  have BK2 := hide (BK1.out.below hb)
  have B2 := hide (B1.out.trans (hb.mono B1.out.size))
  clear hb BK1 B1
  go_wp2_with fail
  go_loopw [6, 36] (fun s i W => ∃ (k : Nat) (M : List LnM) (a6 : Option Addr) (c6 : Nat), k ≤ n ∧ i = .int .i64 k ∧ s = .slice a6 M.length c6 ∧ M.length ≤ 10 * k ∧ BooksIs (10 * k) W p bm M ∧ LnIn W a6 M ∧ Below w.heap.size w W) (fun s i _ => n - (intOf i).toNat)
  case atStart => exact ⟨0, [], none, 0, by omega, rfl, rfl, Nat.le_refl _, BK2.out, fun i hi => absurd hi (Nat.not_lt_zero i), B2.out⟩
  case round =>
    obtain ⟨k, M, a6, c6, hk, rfl, rfl, hml, hbk, hln, hb⟩ := hrel
    have BK := hide hbk
    have LM := hide hln
    have BW := hide hb
    clear hbk hln hb BK2 B2
    by_cases hlt : k < n
    · obtain ⟨b, off, rfl, hbl, c0, hli, hlc, hl63, hlo⟩ := (HIN.out.below BW.out) k (by omega)
      generalize LL.getD k (none, 0, []) = x at *
      obtain ⟨xa, xcap, xl⟩ := x
      dsimp only at *
      obtain ⟨m, hm⟩ : ∃ m : Nat, min xl.length 10 = m := ⟨_, rfl⟩
      have HLS := hide (lines23 xl xa xcap m hm hlc wr hli)
      have hll : (xl.take m).length = m := by rw [List.length_take]; omega
      have hm10 : m ≤ 10 := by omega
      have HPO := hide (show ∀ y ∈ xl.take m, LnOk y from fun y hy => hlo y (List.mem_of_mem_take hy))
      unfold LinesIs at HLS
      generalize xl.take m = P at *
      clear hli hlo hm hlc hl63
      go_wp2_with fail
      refine HLS.out.mono ?_
      rintro e w3 ⟨a4, c4, a5, c5, rfl, hc4, hc5, hp4, hp5, hb⟩
      have P3 := hide hp4
      have Q3 := hide hp5
      have BK3 := hide (BK.out.below hb)
      have LM3 := hide (LM.out.below hb)
      have B3 := hide (BW.out.trans (hb.mono BW.out.size))
      clear hp4 hp5 hb HLS BK LM BW c0 hbl
      go_wp2_with fail
      refine (bkcopy_any (10 * k) p bm M w3 BK3.out).mono ?_
      rintro e w4 ⟨p', bm', rfl, hbk, h1, h2, hb⟩
      have CK4 := hide hbk
      have HN1 := hide (show bm' ≠ bm by have := BK3.out.lt.1; omega)
      have HN2 := hide (show p' ≠ bm by have := BK3.out.lt.1; omega)
      have BK4 := hide (BK3.out.below hb)
      have P4 := hide (P3.out.below hb)
      have Q4 := hide (Q3.out.below hb)
      have LM4 := hide (LM3.out.below hb)
      have B4 := hide (B3.out.trans (hb.mono B3.out.size))
      clear hbk h1 h2 hb BK3 P3 Q3 LM3 B3
      have HRA := hide (rbApply M P (by omega) (by omega) BK4.out.rise (fun x hx => (BK4.out.ok x hx).1) HPO.out a6 c6 a5 c5 w4 LM4.out Q4.out)
      unfold RAppIs at HRA
      rw [hll] at HRA
      go_wp2_with fail
      refine HRA.out.mono ?_
      rintro e w5 ⟨a7, c7, rfl, hnx, hb⟩
      have NX5 := hide hnx
      have CK5 := hide (CK4.out.below hb)
      have BK5 := hide (BK4.out.below hb)
      have P5 := hide (P4.out.below hb)
      have LM5 := hide (LM4.out.below hb)
      have B5 := hide (B4.out.trans (hb.mono B4.out.size))
      clear hnx hb HRA CK4 BK4 P4 Q4 LM4 B4
      have HAP := hide (bkapply_any (10 * k) (by omega) p bm M P (by omega) HPO.out a4 c4 w5 P5.out BK5.out)
      unfold ApplyIs at HAP
      rw [hll] at HAP
      have HNL := hide (nextB_len (P := P) BK5.out.rise)
      rw [hll] at HNL
      generalize nextB M P = M1 at *
      generalize appE M P = ae at *
      go_wp2_with fail
      refine HAP.out.mono ?_
      rintro e w6 ⟨rfl, hbk, ho⟩
      have BK6 := hide (hbk.mono (show 10 * k + m ≤ 10 * (k + 1) by omega))
      have CK6 := hide (CK5.out.kept (ho.block _ CK5.out.lt.2 HN2.out) (ho.block _ CK5.out.lt.1 HN1.out))
      have NX6 := hide (NX5.out.only ho BK5.out.noCells)
      have LM6 := hide (LM5.out.only ho BK5.out.noCells)
      have B6 := hide (ho.below B5.out HBM.out B5.out.size)
      clear hbk ho HAP CK5 BK5 P5 LM5 NX5 B5 HPO
      go_wp2_with fail
      refine (same23 (10 * k) p' bm' M (by omega) a6 c6 w6 CK6.out LM6.out).mono ?_
      rintro e w7 ⟨rfl, hb⟩
      have BK7 := hide (BK6.out.below hb)
      have NX7 := hide (NX6.out.below hb)
      have B7 := hide (B6.out.trans (hb.mono B6.out.size))
      clear hb BK6 CK6 NX6 LM6 B6
      have hm1 := HNL.out
      go_wp2_with fail
      refine (same23 (10 * (k + 1)) p bm M1 (by omega) a7 c7 w7 BK7.out NX7.out).mono ?_
      rintro e w8 ⟨rfl, hb⟩
      have BK8 := hide (BK7.out.below hb)
      have NX8 := hide (NX7.out.below hb)
      have B8 := hide (B7.out.trans (hb.mono B7.out.size))
      clear hb BK7 NX7 B7
      have HT := hide (bktrial_any _ p bm M1 (by omega) w8 BK8.out)
      unfold TriIs at HT
      go_wp2_with fail
      refine HT.out.mono ?_
      rintro e w9 ⟨rfl, hb⟩
      have BK9 := hide (BK8.out.below hb)
      have NX9 := hide (NX8.out.below hb)
      have B9 := hide (B8.out.trans (hb.mono B8.out.size))
      clear hb BK8 NX8 B8 HT
      have HT := hide (rbTrial M1 (by omega) (fun x hx => (BK9.out.ok x hx).1) a7 c7 w9 NX9.out)
      unfold RTriIs at HT
      generalize triD M1 = td at *
      generalize triC M1 = tc at *
      generalize triE M1 = te at *
      go_wp2_with fail
      refine HT.out.mono ?_
      rintro e w10 ⟨rfl, hb⟩
      have BK10 := hide (BK9.out.below hb)
      have NX10 := hide (NX9.out.below hb)
      have B10 := hide (B9.out.trans (hb.mono B9.out.size))
      clear hb BK9 NX9 B9 HT
      have HG := hide (bkBal _ p bm M1 acct HAC.out w10 BK10.out)
      have HG2 := hide (rbBal M1 (by omega) a7 c7 acct w10 NX10.out)
      generalize getB M1 acct = gb at *
      go_wp2_with fail
      refine HG.out.mono ?_
      rintro e w11 ⟨rfl, rfl⟩
      go_wp2_with fail
      refine HG2.out.mono ?_
      rintro e w11 ⟨rfl, rfl⟩
      clear HG HG2
      go_wp2_with fail
      go_roundw
      case rel => exact ⟨k + 1, M1, a7, c7, by omega, by go_num, rfl, by omega, BK10.out, NX10.out, B10.out⟩
      case measure => simp [intOf]; omega
    · obtain rfl : n = k := by omega
      have hal := (Below.refl wr.heap.size wr).alloc (Nat.le_refl _) (.cells #[.slice none 0 0, .bool false] 46)
      have WN := hide (WF.new (w := wr) (B := wr.heap.size) (Nat.le_refl _))
      have HWR := hide (bkwrite_any _ p bm M (by omega) wr.heap.size wr _ BK.out hal WN.out (Nat.le_refl _))
      clear hal WN
      go_wp2_with fail
      refine HWR.out.mono ?_
      rintro e w3 ⟨rfl, hwf, hb⟩
      have WF3 := hide hwf
      have BK3 := hide (BK.out.below hb)
      have LM3 := hide (LM.out.below hb)
      have B3 := hide (BW.out.trans (hb.mono BW.out.size))
      have HOB := hide (show OkB M from BK.out.ok)
      clear hwf hb HWR BK LM BW
      go_wp2_with fail
      refine (bkwrite_nil _ p bm M (by omega) w3 BK3.out).mono ?_
      rintro e w4 ⟨rfl, hb⟩
      have WF4 := hide (WF3.out.below hb)
      have LM4 := hide (LM3.out.below hb)
      have B4 := hide (B3.out.trans (hb.mono B3.out.size))
      clear hb WF3 BK3 LM3 B3
      have HBY := hide (wf_bytes wr.heap.size wr.heap.size (bkF M) w4 WF4.out)
      rw [if_neg (by rw [bkF_ok HOB.out (by omega)]; decide)] at HBY
      have HTX := hide (rbText M HOB.out (by omega) a6 c6 w4 LM4.out)
      generalize refS (bkF M) = tx at *
      clear WF4
      go_wp2_with fail
      refine HBY.out.mono ?_
      rintro e w5 ⟨rfl, rfl⟩
      go_wp2_with fail
      refine HTX.out.mono ?_
      rintro e w6 ⟨rfl, hb⟩
      have B6 := hide (B4.out.trans (hb.mono B4.out.size))
      clear hb HTX HBY
      go_wp2_with fail
      go_ret
      exact ⟨by simp, B6.out⟩

set_option maxRecDepth 100000 in
theorem booksApply_lifted (os : Os) (started : os.Started) (H : Type) (enc : TypeId × Value → H) :
    ReturnsInHanded {} Try.checked os 3 .any (Rows.booksApplySpec.pre6 enc Try.prog Try.f3 Rows.booksApplyRow.domain false) (Rows.booksApplySpec.post enc Try.prog Try.f3 false true false false) := by
  refine returnsInHanded_of_change (C := Try.checked) own started (by kernel_rfl) Try.func3
    (ChangeSpec.witness6 (enc := enc) (C := Try.checked) false ⟨#[], #[.slice none 0 0, .int .i64 0], []⟩ 8 (by kernel_rfl) (by kernel_rfl) (by kernel_rfl) (by kernel_rfl)) ?_
  intro W base args ds gs before hval0 hW _ _
  have hval : ∀ (j : Nat) t v, Try.f3.params[j]? = some t → args[j]? = some v → Value.okWide Try.prog W .any base t v := hval0
  have hW' := hW
  obtain ⟨p, q, hA0, hV, rfl, hfz, hnd⟩ := hW
  have hA : DataW.TrodAll enc Try.prog W 0 (fun _ => true) true Try.f3.params.toList args.toList ds p := hA0
  rw [Try.params3] at hA hval
  obtain ⟨v0, vs0, d0, ds0, p0, q0, hargs, rfl, rfl, h0, r0⟩ := trodAll_cons hA
  obtain ⟨v1, vs1, d1, ds1, p1, q1, rfl, rfl, rfl, h1, r1⟩ := trodAll_cons r0
  obtain ⟨rfl, rfl, rfl⟩ := trodAll_nil r1
  obtain rfl : args = #[v0, v1] := by cases args; simp_all
  obtain ⟨rfl, rfl⟩ := trodVars_none hV
  have z0 := open_posts (hval 0 22 v0 rfl rfl) h0
  obtain ⟨account, rfl, rfl, rfl, w1⟩ := open_int Try.underlying3 (hval 1 3 v1 rfl rfl) h1
  have z1 := wf_i64 w1
  clear hA0 hval0
  refine (booksApply_walk v0 W z0 account z1.1 z1.2).mono fun e W' ⟨he, hb⟩ => ?_
  subst he
  exact ⟨_, rfl, post_law laidOut (of_decide_eq_true (by kernel_rfl)) rfl rfl Try.underlying4 hW' ⟨rfl, rfl, rfl⟩ hb⟩

/-- THE STATEMENT -/
theorem booksApply_holds : Rows.BooksApplySaid :=
  OpenClaim.holds_of_wide 3 Try.f3 rfl rfl rfl rfl rfl rfl rfl ⟨rfl, rfl, rfl, rfl, rfl⟩ rfl rfl rfl rfl rfl (by kernel_rfl) Try.func3 (by kernel_rfl)
    (of_decide_eq_true (by kernel_rfl)) (by unfold Func.isWrapper; first | (rw [if_pos (by decide +kernel)]; kernel_rfl) | (rw [if_neg (by decide +kernel)]; exact ⟨rfl, rfl⟩))
    (fun os started H enc _ => booksApply_lifted os started H enc)

end Go.Proofs.Ytjnfmgbbhiklaaa
