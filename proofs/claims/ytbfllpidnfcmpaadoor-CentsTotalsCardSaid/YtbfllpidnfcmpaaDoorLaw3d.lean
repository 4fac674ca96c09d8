/-
  Layer 3's laws: CentsTotals: walked and closed: the row and its tied card.
-/
import Derived.Test.YtbfllpidnfcmpaaDoorCents7
import Derived.Test.YtbfllpidnfcmpaaDoorCents8
import Derived.Test.YtbfllpidnfcmpaaDoorRCents5
import Derived.Test.YtbfllpidnfcmpaaDoorLaid3
import Derived.Test.YtbfllpidnfcmpaaDoorTie
import Derived.Test.YtbfllpidnfcmpaaDoorCards
import Derived.SevenTiedAt
namespace Go.Proofs.YtbfllpidnfcmpaaDoor
set_option linter.unusedSimpArgs false
set_option linter.unusedVariables false
open Go.RowKit Go.WideShapes Go.ChangeShapes Go.ChangeAt

set_option maxRecDepth 100000 in
set_option maxHeartbeats 400000 in
theorem totals_some (zs : List Int) (hz : ∀ x ∈ zs, inR x) (b off cap : Nat) (hl : zs.length ≤ cap) (hm : cap ≤ maxLen) (h0 : 0 < zs.length) (w : World) (hc : ∀ i, i < zs.length → w.cell? ⟨b, off + i, none⟩ = some (.int .i64 (zs.getD i 0))) (htab : Tab w) :
    Calls Tryd.prog 4 #[.slice (some ⟨b, off, none⟩) zs.length cap] w fun e w' => e = .returned (.bool true) ∧ RowKit.Below w.heap.size w w' := by
  obtain ⟨n, hn⟩ : ∃ n, (zs.take 500).length = n := ⟨_, rfl⟩
  have hn5 : n ≤ 500 := by rw [← hn]; simp; omega
  have hnz : n ≤ zs.length := by rw [← hn]; simp; omega
  have hmin : min (zs.length : Int) 500 = (n : Int) := by rw [← hn]; simp; omega
  have hbl : b < w.heap.size := by
    have h := hc 0 h0
    rcases Nat.lt_or_ge b w.heap.size with h' | h'
    · exact h'
    · exact absurd h (by simp [World.cell?, Array.getElem?_eq_none h'])
  have hcx : ∀ k, k < (zs.take 500).length → w.cell? ⟨b, off + k, none⟩ = some (.int .i64 ((zs.take 500).getD k 0)) := fun k hk => by
    have hk2 : k < zs.length := by omega
    have hk5 : k < 500 := by omega
    rw [hc k hk2]
    simp [List.getD, List.getElem?_take, hk5]
  have hxx : ∀ x ∈ zs.take 500, inR x := fun x hx => hz x (List.mem_of_mem_take hx)
  have HL := hide (fun W (hB : RowKit.Below w.heap.size w W) => list_any (zs.take 500) (by omega) b off cap W (Nat.lt_of_lt_of_le hbl hB.size) (fun k hk => (hB.cell (p := ⟨b, off + k, none⟩) hbl).trans (hcx k hk)))
  have HR := hide (fun W (hB : RowKit.Below w.heap.size w W) => rtotal_any (zs.take 500) hxx (by omega) b off cap W (Nat.lt_of_lt_of_le hbl hB.size) (fun k hk => (hB.cell (p := ⟨b, off + k, none⟩) hbl).trans (hcx k hk)))
  have HO := hide (fun a c B W h => total_owns (zs.take 500) hxx (by omega) a c B W h)
  have HT := hide htab
  clear htab hc hz hxx hcx h0
  generalize zs.take 500 = xs at *
  subst hn
  generalize zs.length = m at *
  have hmi : (m : Int) ≤ (cap : Int) := by omega
  have hni : (xs.length : Int) ≤ (cap : Int) := by omega
  go_enter Tryd.func4, Tryd.ntmps4
  go_wp2_with fail
  refine (HL.out _ (Below.refl _ _)).mono ?_
  rintro e w1 ⟨a, c, rfl, ho, hb⟩
  have HOW := hide ho
  have HB1 := hide hb
  have HT1 := hide (tab_below HT.out hb)
  clear ho hb
  go_wp2_with fail
  refine (HO.out a c _ _ HOW.out).mono ?_
  rintro e w' ⟨rfl, rfl⟩
  go_wp2_with fail
  refine (HR.out _ HB1.out).mono ?_
  rintro e w2 ⟨rfl, hb⟩
  have HB2 := hide (below_trans HB1.out hb)
  have HT2 := hide (tab_below HT1.out hb)
  clear hb
  go_wp2_with fail
  refine (wakes_any _ HT2.out).mono ?_
  rintro e w3 ⟨rfl, hb⟩
  have HB3 := hide (below_trans HB2.out hb)
  clear hb
  go_wp2_with fail
  go_ret
  exact ⟨rfl, HB3.out⟩

set_option maxRecDepth 100000 in
theorem totals_none (w : World) (htab : Tab w) :
    Calls Tryd.prog 4 #[.slice none 0 0] w fun e w' => e = .returned (.bool true) ∧ RowKit.Below w.heap.size w w' := by
  have HT := hide htab
  clear htab
  go_enter Tryd.func4, Tryd.ntmps4
  go_wp2_with fail
  refine (list_zero _ _ _).mono ?_
  rintro e w' ⟨rfl, rfl⟩
  go_wp2_with fail
  refine (total_nil _ _).mono ?_
  rintro e w' ⟨rfl, rfl⟩
  go_wp2_with fail
  refine (rtotal_zero _ _ _).mono ?_
  rintro e w2 ⟨rfl, hb⟩
  have HB2 := hide hb
  have HT2 := hide (tab_below HT.out hb)
  clear hb
  go_wp2_with fail
  refine (wakes_any _ HT2.out).mono ?_
  rintro e w3 ⟨rfl, hb⟩
  have HB3 := hide (below_trans HB2.out hb)
  clear hb
  go_wp2_with fail
  go_ret
  exact ⟨rfl, HB3.out⟩
set_option maxRecDepth 100000 in
theorem totals_zero (a : Addr) (cap : Nat) (w : World) (htab : Tab w) :
    Calls Tryd.prog 4 #[.slice (some a) 0 cap] w fun e w' => e = .returned (.bool true) ∧ RowKit.Below w.heap.size w w' := by
  have HT := hide htab
  clear htab
  go_enter Tryd.func4, Tryd.ntmps4
  go_wp2_with fail
  refine (list_zero _ _ _).mono ?_
  rintro e w' ⟨rfl, rfl⟩
  go_wp2_with fail
  refine (total_nil _ _).mono ?_
  rintro e w' ⟨rfl, rfl⟩
  go_wp2_with fail
  refine (rtotal_zero _ _ _).mono ?_
  rintro e w2 ⟨rfl, hb⟩
  have HB2 := hide hb
  have HT2 := hide (tab_below HT.out hb)
  clear hb
  go_wp2_with fail
  refine (wakes_any _ HT2.out).mono ?_
  rintro e w3 ⟨rfl, hb⟩
  have HB3 := hide (below_trans HB2.out hb)
  clear hb
  go_wp2_with fail
  go_ret
  exact ⟨rfl, HB3.out⟩
theorem open_i64s {H : Type} {enc : TypeId × Value → H} {w : World} {base : Nat} {sp : Nat → Bool} {held : Bool} {r : Reach} {b0 : Nat} {v : Value} {d : DataW H} {ps : List MemPlace}
    (hv : Value.okWide Tryd.prog w r b0 31 v) (h : DataW.Trod enc Tryd.prog w base sp held 31 v d ps) : ∃ zs : List Int, NumsAt w .i64 v zs ∧ (∀ z ∈ zs, inR z) := by
  obtain ⟨zs, h1, h2, _⟩ := open_nums_slice Tryd.underlying31 Tryd.underlying2 (by kernel_rfl) hv h
  exact ⟨zs, h1, fun z hz => wf_i64 (h2 z hz)⟩
theorem centsTotals_walk (v : Value) (w0 : World) (hv : ∃ zs : List Int, NumsAt w0 .i64 v zs ∧ (∀ z ∈ zs, inR z)) (w : World) (hw : w0 = w) (htab : Tab w) :
    Calls Tryd.prog 4 #[v] w fun e w' => e = .returned (.bool true) ∧ RowKit.Below w.heap.size w w' := by
  subst hw
  obtain ⟨zs, h, hz⟩ := hv
  rcases h with ⟨rfl, _⟩ | ⟨b, off, cap, rfl, hl, hm, h0, hc⟩ | ⟨a, cap, rfl, _⟩
  · exact totals_none _ htab
  · exact totals_some zs hz b off cap hl hm h0 _ hc htab
  · exact totals_zero a cap _ htab

set_option maxRecDepth 100000 in
theorem centsTotals_lifted (os : Os) (started : os.Started) (H : Type) (enc : TypeId × Value → H) :
    ReturnsInHanded {} Tryd.checked os 4 .any (fun w args => (Rows.centsTotalsSpec.pre enc Tryd.prog Tryd.f4 [] false w args ∧ laidMetH Tryd.prog laidL w) ∧ sizedMet enc Tryd.prog Tryd.f4 (OpenSpec.ofChange Rows.centsTotalsSpec) false w args)
      (Rows.centsTotalsSpec.post enc Tryd.prog Tryd.f4 false true false false) := by
  refine returnsInHanded_of_change_and (C := Tryd.checked) (X := fun w _ => laidMetH Tryd.prog laidL w) (fun _ _ _ hh h => h.of_heap hh) own started (by kernel_rfl) Tryd.func4
    (ChangeSpec.witness_shaped (enc := enc) (C := Tryd.checked) (os := os) (X := fun w _ => laidMetH Tryd.prog laidL w) false (World.doorLaid Tryd.prog 400 os) #[.slice none 0 0] 8 rfl (World.shaped_of_RefB (by kernel_rfl) (by kernel_rfl)) (by kernel_rfl) (by kernel_rfl) (by kernel_rfl) (door_met os _)) ?_
  intro W base args ds gs before hval0 hW _ _ hL _
  have hval : ∀ (j : Nat) t v, Tryd.f4.params[j]? = some t → args[j]? = some v → Value.okWide Tryd.prog W .any base t v := hval0
  have hW' := hW
  obtain ⟨p, q, hA0, hV, rfl, hfz, hnd⟩ := hW
  have hA : DataW.TrodAll enc Tryd.prog W 0 (fun _ => true) true Tryd.f4.params.toList args.toList ds p := hA0
  rw [Tryd.params4] at hA hval
  obtain ⟨v0, vs0, d0, ds0, p0, q0, hargs, rfl, rfl, h0, r0⟩ := trodAll_cons hA
  obtain ⟨rfl, rfl, rfl⟩ := trodAll_nil r0
  obtain rfl : args = #[v0] := by cases args; simp_all
  obtain ⟨rfl, rfl⟩ := trodVars_none hV
  have z0 := open_i64s (hval 0 31 v0 rfl rfl) h0
  clear hA0 hval0
  refine (centsTotals_walk v0 W z0 W rfl (tab_of_laid hL)).mono fun e W' ⟨he, hb⟩ => ?_
  subst he
  exact ⟨_, rfl, post_law laidOut (of_decide_eq_true (by kernel_rfl)) rfl rfl Tryd.underlying4 hW' ⟨rfl, rfl, rfl⟩ hb⟩

/-- THE STATEMENT -/
theorem centsTotals_holds : Rows.CentsTotalsSaid :=
  OpenClaim.holds_of_wide 4 Tryd.f4 rfl rfl rfl rfl rfl rfl rfl ⟨rfl, rfl, rfl, rfl, rfl⟩ rfl rfl rfl rfl rfl (by kernel_rfl) Tryd.func4 (by kernel_rfl)
    (of_decide_eq_true (by kernel_rfl)) (by unfold Func.isWrapper; first | (rw [if_pos (by decide +kernel)]; kernel_rfl) | (rw [if_neg (by decide +kernel)]; exact ⟨rfl, rfl⟩))
    (fun os started H enc _ => centsTotals_lifted os started H enc)



/-- THE TIED CARD -/
theorem centsTotals_card_holds : Rows.CentsTotalsCardSaid :=
  Claim7.holds_tied_plain_at .later [] [.data, .data, .data, .sentinel, .sentinel] true (true, "09f56c014ca2f9e6d9008e402bafe40bff225ca73aa302d401ce89a3cccc5358") true
    centsTotals_holds (fun _ h => by cases h) (by kernel_rfl) (fun _ h => by cases h) centsTotals_row_tie rfl ⟨rfl, rfl⟩ (by kernel_rfl) rfl
    (fun f fn hf hfn => by
      obtain rfl : f = 4 := Option.some.inj ((show Tryd.prog.funcNamed "tillroll/tillrolllaw03.CentsTotals" = some 4 by kernel_rfl).symm.trans hf) |>.symm
      obtain rfl : fn = Tryd.f4 := (Option.some.inj (Tryd.func4.symm.trans hfn)).symm
      exact ⟨by kernel_rfl, fun j t ht => by
        rw [Tryd.params4] at ht
        have hm : t ∈ [31] := by simpa using Array.mem_of_getElem? ht
        have hall : ([31].all fun u => !Tryd.prog.wantsStandIn u) = true := by kernel_rfl
        exact (show Tryd.prog.wantsStandIn t = false by simpa using List.all_eq_true.1 hall t hm)⟩)
    (by kernel_rfl)

end Go.Proofs.YtbfllpidnfcmpaaDoor
