/-
  Layer 3's laws: CentsTells: walked and closed: the row and its tied card.
-/
import Derived.Test.YtbfllpidnfcmpaaDoorRCents7
import Derived.Test.YtbfllpidnfcmpaaDoorLaid3
import Derived.Test.YtbfllpidnfcmpaaDoorTie
import Derived.Test.YtbfllpidnfcmpaaDoorCards
import Derived.SevenTiedAt
--import Derived.Test.Zdbg
namespace Go.Proofs.YtbfllpidnfcmpaaDoor
set_option linter.unusedSimpArgs false
set_option linter.unusedVariables false
open Go.RowKit Go.WideShapes Go.ChangeShapes Go.ChangeAt

theorem star3 : "*" ++ "errors.errorString" = "*errors.errorString" := by decide
theorem rowErr (u : TypeId) (h : Tryd.prog.typeName? 3 u = some "*errors.errorString") : u = 88 :=
  typeName_ptr_named (nm := "errors.errorString") (by rw [star3]; kernel_rfl) (by kernel_rfl) (by decide) u (by rw [star3]; exact h)
theorem tabE_of_laid {W : World} (h : laidMetH Tryd.prog laidL W) : TabE W := by
  refine ⟨tab_of_laid h, ?_⟩
  rw [MakeChecks.laidMetH_plain _ _ _ (by kernel_rfl)] at h
  have h3 := laidMet.tail (laidMet.tail (laidMet.tail h))
  obtain ⟨a, _, h1, _⟩ := laid_sentinel h3 (show Program.globalNamed Tryd.prog "strconv.ErrRange" = some 2 by kernel_rfl) (show (Tryd.prog.globals[2]?).map (·.type) = some 55 by kernel_rfl) Tryd.underlying55 rowErr Tryd.underlying88 Tryd.underlying90 rfl rfl Tryd.underlying9 (by kernel_rfl) (by kernel_rfl)
  obtain ⟨b, _, h2, _⟩ := laid_sentinel (laidMet.tail h3) (show Program.globalNamed Tryd.prog "strconv.ErrSyntax" = some 1 by kernel_rfl) (show (Tryd.prog.globals[1]?).map (·.type) = some 55 by kernel_rfl) Tryd.underlying55 rowErr Tryd.underlying88 Tryd.underlying90 rfl rfl Tryd.underlying9 (by kernel_rfl) (by kernel_rfl)
  exact ⟨⟨_, _, h1⟩, ⟨_, _, h2⟩⟩

theorem dec_first (n : Nat) : ∀ c r, Lib.decDigits n = c :: r → c.toNat ≠ 45 := by
  intro c r h
  have := dec_all n c (by rw [h]; simp)
  omega
/-- the document's Parse of an amount's text -/
theorem rparse_yes (v : Int) (hv : inR v) (w : World) :
    Calls Tryd.prog 20 #[.string (sb (cText v))] w fun e w' => e = .returned (.tuple #[.int .i64 v, .int .i64 0]) ∧ RowKit.Below w.heap.size w w' := by
  have hlen := dec_len 16 (v.natAbs / 100) (by unfold inR at hv; omega)
  have hpos := dec_pos (v.natAbs / 100)
  have hr : (Lib.decDigits (v.natAbs / 100) ++ 46 :: cRest v.natAbs).length = (Lib.decDigits (v.natAbs / 100)).length + 3 := by
    rw [List.length_append, List.length_cons, cRest_len]
  have h46 : ((Lib.decDigits (v.natAbs / 100) ++ 46 :: cRest v.natAbs).getD (Lib.decDigits (v.natAbs / 100)).length 0).toNat = 46 := by
    rw [List.getD, List.getElem?_append_right (Nat.le_refl _), Nat.sub_self]
    rfl
  have hD : noPoint (Lib.decDigits (v.natAbs / 100) ++ 46 :: cRest v.natAbs) = bodyD v.natAbs := by
    have := cut_two (a := []) (b := Lib.decDigits (v.natAbs / 100)) (c := cRest v.natAbs) (x := 46) (cRest_len _)
    simpa [bodyD] using this
  by_cases h : v < 0
  · have hs : cText v = 45 :: (Lib.decDigits (v.natAbs / 100) ++ 46 :: cRest v.natAbs) := by rw [cText_eq, sgnL, if_pos h]; rfl
    rw [hs]
    exact rparse_neg_yes _ _ hr hpos (by omega) h46 v hv hs hD h w
  · have hs : cText v = Lib.decDigits (v.natAbs / 100) ++ 46 :: cRest v.natAbs := by rw [cText_eq, sgnL, if_neg h]; rfl
    rw [hs]
    refine rparse_pos_yes _ _ hr hpos (by omega) (by omega) ?_ h46 v hv hs hD (by omega) w
    cases hd : Lib.decDigits (v.natAbs / 100) with
    | nil => rw [hd] at hpos; simp at hpos
    | cons c r =>
      have := dec_first _ c r hd
      simpa [List.getD] using this
/-- the document's Parse of a text that is no amount's -/
theorem rparse_no (l : List UInt8) (hl : l.length ≤ 100) (hno : NoText l) (w : World) :
    Calls Tryd.prog 20 #[.string (sb l)] w fun e w' => e = .returned (.tuple #[.int .i64 0, .int .i64 4]) ∧ RowKit.Below w.heap.size w w' := by
  cases l with
  | nil =>
    refine (rparse_empty w).mono ?_
    rintro e w' ⟨rfl, rfl⟩
    exact ⟨rfl, RowKit.Below.refl _ _⟩
  | cons c r =>
    simp only [List.length_cons] at hl
    by_cases hc : c.toNat = 45
    · obtain rfl : c = 45 := UInt8.toNat_inj.1 (by rw [hc]; rfl)
      by_cases h4 : r.length < 4
      · exact rparse_short_neg r (by omega) h4 w
      · by_cases h20 : 20 < r.length
        · exact rparse_long_neg r (by omega) h20 w
        · by_cases h46 : (r.getD (r.length - 3) 0).toNat = 46
          · exact rparse_neg_no r (r.length - 3) (by omega) (by omega) (by omega) h46 hno w
          · exact rparse_point_neg r (r.length - 3) (by omega) (by omega) (by omega) h46 w
    · have h0 : 0 < (c :: r).length := by simp
      have h45 : ((c :: r).getD 0 0).toNat ≠ 45 := hc
      by_cases h4 : (c :: r).length < 4
      · exact rparse_short_pos (c :: r) (by simp; omega) h0 h45 h4 w
      · by_cases h20 : 20 < (c :: r).length
        · exact rparse_long_pos (c :: r) (by simp; omega) h0 h45 h20 w
        · by_cases h46 : ((c :: r).getD ((c :: r).length - 3) 0).toNat = 46
          · exact rparse_pos_no (c :: r) ((c :: r).length - 3) (by omega) (by omega) (by omega) h0 h45 h46 hno w
          · exact rparse_point_pos (c :: r) ((c :: r).length - 3) (by omega) (by omega) (by omega) h0 h45 h46 w

set_option maxRecDepth 100000 in
set_option maxHeartbeats 800000 in
theorem tells_law (c : Int) (hc : inR c) (s : ByteArray) (hs63 : s.size ≤ 9223372036854775807) (w : World) (htab : TabE w) :
    Calls Tryd.prog 5 #[.int .i64 c, .string s] w fun e w' => e = .returned (.bool true) ∧ RowKit.Below w.heap.size w w' := by
  obtain ⟨m, hm⟩ : ∃ m, min s.size 40 = m := ⟨_, rfl⟩
  have hmF : (if (40 : Int) < (s.size : Int) then (40 : Int) else (s.size : Int)) = (m : Int) := by split <;> omega
  have hm2 : (m : Int) ≤ (s.size : Int) := by omega
  have hmI : min (s.size : Int) 40 = (m : Int) := by omega
  have hx : s.extract 0 m = sb (s.data.toList.take m) := by
    have e : s = sb s.data.toList := by apply ByteArray.ext; simp [sb]
    have h2 := sb_extract s.data.toList 0 m
    rw [← e] at h2
    rw [h2]
    simp
  have hl : (s.data.toList.take m).length ≤ 100 := by rw [List.length_take]; omega
  have HT := hide htab
  have HX1 := hide (fun W h => ctext_any c hc W h)
  have HX2 := hide (fun W h => parse_yes c hc W h)
  have HX3 := hide (fun W => rtext_any c hc W)
  generalize s.data.toList.take m = l at *
  generalize sb (cText c) = T at *
  by_cases hy : ∃ v, inR v ∧ cText v = l
  · obtain ⟨v, hv, hvl⟩ := hy
    have HY1 := hide (fun W h => parse_yes v hv W h)
    have HY2 := hide (fun W => rparse_yes v hv W)
    have HY3 := hide (fun W h => ctext_any v hv W h)
    rw [hvl] at HY1 HY2 HY3
    clear hvl hv hc hl htab hm
    generalize sb l = S at *
    go_enter Tryd.func5, Tryd.ntmps5
    go_wp2_with fail
    refine (HX1.out _ HT.out.1).mono ?_
    rintro e w1 ⟨rfl, hb⟩
    have T1 := hide (tabE_below HT.out hb)
    have B1 := hide hb
    clear hb
    go_wp2_with fail
    refine (HX2.out _ T1.out.1).mono ?_
    rintro e w2 ⟨rfl, hb⟩
    have T2 := hide (tabE_below T1.out hb)
    have B2 := hide (below_trans B1.out hb)
    clear hb
    go_wp2_with fail
    refine (HY1.out _ T2.out.1).mono ?_
    rintro e w3 ⟨rfl, hb⟩
    have T3 := hide (tabE_below T2.out hb)
    have B3 := hide (below_trans B2.out hb)
    clear hb
    go_wp2_with fail
    refine (HY2.out _).mono ?_
    rintro e w4 ⟨rfl, hb⟩
    have T4 := hide (tabE_below T3.out hb)
    have B4 := hide (below_trans B3.out hb)
    clear hb
    go_wp2_with fail
    refine (wakes_any _ T4.out.1).mono ?_
    rintro e w5 ⟨rfl, hb⟩
    have T5 := hide (tabE_below T4.out hb)
    have B5 := hide (below_trans B4.out hb)
    clear hb
    go_wp2_with fail
    refine (HX3.out _).mono ?_
    rintro e w6 ⟨rfl, hb⟩
    have T6 := hide (tabE_below T5.out hb)
    have B6 := hide (below_trans B5.out hb)
    clear hb
    go_wp2_with fail
    refine (HY3.out _ T6.out.1).mono ?_
    rintro e w7 ⟨rfl, hb⟩
    have B7 := hide (below_trans B6.out hb)
    clear hb
    go_wp2_with fail
    go_ret
    exact ⟨rfl, B7.out⟩
  · have hno : NoText l := fun v hv h => hy ⟨v, hv, h⟩
    have HY1 := hide (fun W h => parse_no l hl hno W h)
    have HY2 := hide (fun W => rparse_no l hl hno W)
    clear hy hno hc hl htab hm
    generalize sb l = S at *
    go_enter Tryd.func5, Tryd.ntmps5
    go_wp2_with fail
    refine (HX1.out _ HT.out.1).mono ?_
    rintro e w1 ⟨rfl, hb⟩
    have T1 := hide (tabE_below HT.out hb)
    have B1 := hide hb
    clear hb
    go_wp2_with fail
    refine (HX2.out _ T1.out.1).mono ?_
    rintro e w2 ⟨rfl, hb⟩
    have T2 := hide (tabE_below T1.out hb)
    have B2 := hide (below_trans B1.out hb)
    clear hb
    go_wp2_with fail
    refine (HY1.out _ T2.out).mono ?_
    rintro e w3 ⟨rfl, hb⟩
    have T3 := hide (tabE_below T2.out hb)
    have B3 := hide (below_trans B2.out hb)
    clear hb
    go_wp2_with fail
    refine (HY2.out _).mono ?_
    rintro e w4 ⟨rfl, hb⟩
    have T4 := hide (tabE_below T3.out hb)
    have B4 := hide (below_trans B3.out hb)
    clear hb
    go_wp2_with fail
    refine (wakes_any _ T4.out.1).mono ?_
    rintro e w5 ⟨rfl, hb⟩
    have T5 := hide (tabE_below T4.out hb)
    have B5 := hide (below_trans B4.out hb)
    clear hb
    go_wp2_with fail
    refine (HX3.out _).mono ?_
    rintro e w6 ⟨rfl, hb⟩
    have T6 := hide (tabE_below T5.out hb)
    have B6 := hide (below_trans B5.out hb)
    clear hb
    go_wp2_with fail
    go_ret
    exact ⟨rfl, B6.out⟩
theorem centsTells_walk (c : Int) (c0 : -9223372036854775808 ≤ c) (c1 : c ≤ 9223372036854775807) (s : ByteArray) (hs : s.size ≤ 9223372036854775807) (w : World) (htab : TabE w) :
    Calls Tryd.prog 5 #[.int .i64 c, .string s] w fun e w' => e = .returned (.bool true) ∧ RowKit.Below w.heap.size w w' := tells_law c ⟨c0, c1⟩ s hs w htab

set_option maxRecDepth 100000 in
theorem centsTells_lifted (os : Os) (started : os.Started) (H : Type) (enc : TypeId × Value → H) :
    ReturnsInHanded {} Tryd.checked os 5 .any (fun w args => (Rows.centsTellsSpec.pre enc Tryd.prog Tryd.f5 [] false w args ∧ laidMetH Tryd.prog laidL w) ∧ sizedMet enc Tryd.prog Tryd.f5 (OpenSpec.ofChange Rows.centsTellsSpec) false w args)
      (Rows.centsTellsSpec.post enc Tryd.prog Tryd.f5 false true false false) := by
  refine returnsInHanded_of_change_and (C := Tryd.checked) (X := fun w _ => laidMetH Tryd.prog laidL w) (fun _ _ _ hh h => h.of_heap hh) own started (by kernel_rfl) Tryd.func5
    (ChangeSpec.witness_shaped (enc := enc) (C := Tryd.checked) (os := os) (X := fun w _ => laidMetH Tryd.prog laidL w) false (World.doorLaid Tryd.prog 400 os) #[.int .i64 0, .string ⟨#[]⟩] 8 rfl (World.shaped_of_RefB (by kernel_rfl) (by kernel_rfl)) (by kernel_rfl) (by kernel_rfl) (by kernel_rfl) (door_met os _)) ?_
  intro W base args ds gs before hval0 hW _ _ hL _
  have hval : ∀ (j : Nat) t v, Tryd.f5.params[j]? = some t → args[j]? = some v → Value.okWide Tryd.prog W .any base t v := hval0
  have hW' := hW
  obtain ⟨p, q, hA0, hV, rfl, hfz, hnd⟩ := hW
  have hA : DataW.TrodAll enc Tryd.prog W 0 (fun _ => true) true Tryd.f5.params.toList args.toList ds p := hA0
  rw [Tryd.params5] at hA hval
  obtain ⟨v0, vs0, d0, ds0, p0, q0, hargs, rfl, rfl, h0, r0⟩ := trodAll_cons hA
  obtain ⟨v1, vs1, d1, ds1, p1, q1, rfl, rfl, rfl, h1, r1⟩ := trodAll_cons r0
  obtain ⟨rfl, rfl, rfl⟩ := trodAll_nil r1
  obtain rfl : args = #[v0, v1] := by cases args; simp_all
  obtain ⟨rfl, rfl⟩ := trodVars_none hV
  obtain ⟨c, rfl, rfl, rfl, w0⟩ := open_int Tryd.underlying2 (hval 0 2 v0 rfl rfl) h0
  have z0 := wf_i64 w0
  obtain ⟨s, rfl, rfl, rfl, w1⟩ := ChangeMaps.open_string Tryd.underlying9 (hval 1 9 v1 rfl rfl) h1
  have z1 : s.size ≤ 9223372036854775807 := w1
  clear hA0 hval0
  refine (centsTells_walk c z0.1 z0.2 s z1 W (tabE_of_laid hL)).mono fun e W' ⟨he, hb⟩ => ?_
  subst he
  exact ⟨_, rfl, post_law laidOut (of_decide_eq_true (by kernel_rfl)) rfl rfl Tryd.underlying4 hW' ⟨rfl, rfl, rfl⟩ hb⟩

/-- THE STATEMENT -/
theorem centsTells_holds : Rows.CentsTellsSaid :=
  OpenClaim.holds_of_wide 5 Tryd.f5 rfl rfl rfl rfl rfl rfl rfl ⟨rfl, rfl, rfl, rfl, rfl⟩ rfl rfl rfl rfl rfl (by kernel_rfl) Tryd.func5 (by kernel_rfl)
    (of_decide_eq_true (by kernel_rfl)) (by unfold Func.isWrapper; first | (rw [if_pos (by decide +kernel)]; kernel_rfl) | (rw [if_neg (by decide +kernel)]; exact ⟨rfl, rfl⟩))
    (fun os started H enc _ => centsTells_lifted os started H enc)



/-- THE TIED CARD -/
theorem centsTells_card_holds : Rows.CentsTellsCardSaid :=
  Claim7.holds_tied_plain_at .later [] [.data, .data, .data, .sentinel, .sentinel] true (true, "09f56c014ca2f9e6d9008e402bafe40bff225ca73aa302d401ce89a3cccc5358") true
    centsTells_holds (fun _ h => by cases h) (by kernel_rfl) (fun _ h => by cases h) centsTells_row_tie rfl ⟨rfl, rfl⟩ (by kernel_rfl) rfl
    (fun f fn hf hfn => by
      obtain rfl : f = 5 := Option.some.inj ((show Tryd.prog.funcNamed "tillroll/tillrolllaw03.CentsTells" = some 5 by kernel_rfl).symm.trans hf) |>.symm
      obtain rfl : fn = Tryd.f5 := (Option.some.inj (Tryd.func5.symm.trans hfn)).symm
      exact ⟨by kernel_rfl, fun j t ht => by
        rw [Tryd.params5] at ht
        have hm : t ∈ [2, 9] := by simpa using Array.mem_of_getElem? ht
        have hall : ([2, 9].all fun u => !Tryd.prog.wantsStandIn u) = true := by kernel_rfl
        exact (show Tryd.prog.wantsStandIn t = false by simpa using List.all_eq_true.1 hall t hm)⟩)
    (by kernel_rfl)

end Go.Proofs.YtbfllpidnfcmpaaDoor
