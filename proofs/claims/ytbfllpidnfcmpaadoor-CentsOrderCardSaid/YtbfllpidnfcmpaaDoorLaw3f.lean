/-
  Layer 3's laws: CentsOrder: walked and closed: the row and its tied card.
-/
import Derived.Test.YtbfllpidnfcmpaaDoorLaw3e
import Derived.Test.YtbfllpidnfcmpaaDoorLaw3
import Derived.Test.YtbfllpidnfcmpaaDoorLaw3g
import Derived.Test.YtbfllpidnfcmpaaDoorLaid3
import Derived.Test.YtbfllpidnfcmpaaDoorTie
import Derived.Test.YtbfllpidnfcmpaaDoorCards
import Derived.SevenTiedAt
namespace Go.Proofs.YtbfllpidnfcmpaaDoor
set_option linter.unusedSimpArgs false
set_option linter.unusedVariables false
open Go.RowKit Go.WideShapes Go.ChangeShapes Go.ChangeAt

theorem turn_idx (n k T j : Nat) (hk : k < n) (hT : T < 256) (hj : (n - 1 - k + T) % n = j) : ((n : Int) - 1 - (k : Int) + (T : Int)) % (n : Int) = (j : Int) := by
  rw [← hj, show (n : Int) - 1 - (k : Int) + (T : Int) = ((n - 1 - k + T : Nat) : Int) by omega]
  simp
set_option maxRecDepth 100000 in
set_option maxHeartbeats 400000 in
theorem order_some (xs : List Int) (hx : ∀ x ∈ xs, inR x) (hn6 : xs.length ≤ 60) (m b off cap : Nat) (hmin : min (m : Int) 60 = (xs.length : Int)) (hl : m ≤ cap) (hm : cap ≤ maxLen) (h0 : 0 < xs.length) (w : World) (hbl : b < w.heap.size) (hc : ∀ i, i < xs.length → w.cell? ⟨b, off + i, none⟩ = some (.int .i64 (xs.getD i 0))) (T C : Nat) (hT : T < 256) (hC : C < 256) (htab : Tab w) :
    Calls Tryd.prog 6 #[.slice (some ⟨b, off, none⟩) m cap, .int .u8 (T : Int), .int .u8 (C : Int)] w fun e w' => e = .returned (.bool true) ∧ RowKit.Below w.heap.size w w' := by
  obtain ⟨i0, hi, hz0, hz1, hz2⟩ := info_parts (show (Tryd.prog.info? 2).map (fun i => (i.zero, i.size, i.bytes)) = some (some (.int .i64 0), 1, 8) by kernel_rfl)
  have HI := hide hi
  have HZ0 := hide hz0
  have HZ1 := hide hz1
  have HZ2 := hide hz2
  have HX := hide hx
  have HCC := hide hc
  have HBL := hide hbl
  have H0 := hide h0
  have HT := hide htab
  have hmi : (m : Int) ≤ (cap : Int) := by omega
  have hni : (xs.length : Int) ≤ (cap : Int) := by omega
  have hnm : xs.length ≤ cap := by omega
  have hwT : wrap64 (T : Int) = T := by unfold wrap64; omega
  clear hi hz0 hz1 hz2 hx hc hbl htab
  go_enter Tryd.func6, Tryd.ntmps6
  go_wp2_with fail
  go_loopw [7, 27] (fun s i W => ∃ (k : Nat) (a : Option Addr) (c : Nat), k ≤ xs.length ∧ i = .int .i64 k ∧ s = .slice a (turnL xs T k).length c ∧ W.ownsRow w.heap.size 2 1 (.slice a (turnL xs T k).length c) (turnL xs T k).length ((turnL xs T k).map (Value.int .i64)) ∧ Below w.heap.size w W) (fun s i _ => xs.length - (intOf i).toNat)
  case atStart => exact ⟨0, none, 0, by omega, rfl, rfl, World.ownsRow_nil _ _ _ _, Below.refl _ _⟩
  case round =>
    obtain ⟨k, a, c, hk, rfl, rfl, hown, hB⟩ := hrel
    have HB := hide hB
    have HOWN := hide hown
    clear hown hB
    by_cases hlt : k < xs.length
    · obtain ⟨j, hj⟩ : ∃ j, (xs.length - 1 - k + T) % xs.length = j := ⟨_, rfl⟩
      have hjl : j < xs.length := by rw [← hj]; exact Nat.mod_lt _ H0.out
      have hci := (HB.out.cell (p := ⟨b, off + j, none⟩) HBL.out).trans (HCC.out j hjl)
      have HTN := hide (turnL_next xs T k)
      have hLl : (turnL xs T k).length ≤ 60 := by rw [turnL_length]; omega
      have HLK := hide (turnL_length xs T k)
      rw [hj] at HTN
      have heq := turn_idx xs.length k T j hlt hT hj
      have hji : (j : Int) < (xs.length : Int) := by omega
      have hp0 : (0 : Int) ≤ (xs.length : Int) - 1 - (k : Int) + (T : Int) := by omega
      have hnz : ¬ (xs.length : Int) = 0 := by omega
      clear hj
      generalize turnL xs T k = L at *
      generalize xs.getD j 0 = x at *
      have HA := hide (HOWN.out.alloc (.cells #[.int .i64 x] 2))
      have HBA := hide (HB.out.alloc HB.out.size (.cells #[.int .i64 x] 2))
      have HW5 := hide HBA.out.size
      have HNEW := hide (new_one wr (.int .i64 x) 2)
      have HGE := hide (fun j (h : (Value.slice a L.length c).ownBlock = some j) => (HA.out.lt j h).1)
      clear HOWN HB
      go_wp2_with (at_builtin; refine wpList_append_own _ rfl _ _ 31 rfl w.heap.size 2 i0 (.int .i64 0) 1 8 Tryd.underlying31 HI.out HZ0.out HZ1.out HZ2.out rfl (by decide) (.slice a L.length c) L.length (L.map (Value.int .i64)) rfl HA.out ⟨wr.heap.size, 0, none⟩ 1 1 [.int .i64 x] rfl rfl HNEW.out (one_int _) (by unfold maxLen; omega) (by omega) HW5.out ?_; intro v' w' ho hgr hnil; obtain ⟨a3, c3', rfl⟩ := owns_slice_n ho; have HO6 := hide ho; have HB6 := hide (HBA.out.grown hgr HBA.out.size HGE.out); clear ho hgr hnil)
      go_roundw
      case rel => exact ⟨k + 1, a3, c3', by omega, by go_num, by rw [HTN.out]; simp, by rw [HTN.out]; simpa using HO6.out, HB6.out⟩
      case measure => simp [intOf]; omega
    · obtain rfl : k = xs.length := by omega
      have hML := turnL_length xs T xs.length
      have HMS := hide (turnL_sum xs T H0.out)
      have HMI := hide (turnL_in xs T xs.length H0.out HX.out)
      obtain ⟨M, hM⟩ : ∃ M, turnL xs T xs.length = M := ⟨_, rfl⟩
      rw [hM] at hML HMS HMI HOWN
      simp only [hM]
      obtain ⟨q, hq⟩ : ∃ q, C % (xs.length + 1) = q := ⟨_, rfl⟩
      have hqn : q ≤ xs.length := by have := Nat.mod_lt C (show 0 < xs.length + 1 by omega); omega
      obtain ⟨n1, hn1⟩ : ∃ n1 : Int, (xs.length : Int) + 1 = n1 := ⟨_, rfl⟩
      have HQI := hide (show (C : Int) % n1 = (q : Int) by rw [← hn1, ← hq]; simp)
      have HN0 := hide (show ¬ n1 = 0 ∧ 0 ≤ n1 by omega)
      have HN1 := hide hn1
      clear hn1
      have hwC : wrap64 (C : Int) = C := by unfold wrap64; omega
      have hqc : (q : Int) ≤ (cap : Int) := by omega
      have hqx : (q : Int) ≤ (xs.length : Int) := by omega
      obtain ⟨A, hA⟩ : ∃ A, (if cap = q then some (⟨b, off, none⟩ : Addr) else some ⟨b, off + q, none⟩) = A := ⟨_, rfl⟩
      have hx1 : ∀ x ∈ xs.take q, inR x := fun x hx => HX.out x (List.mem_of_mem_take hx)
      have hx2 : ∀ x ∈ xs.drop q, inR x := fun x hx => HX.out x (List.mem_of_mem_drop hx)
      have hl1 : (xs.take q).length = q := by simp; omega
      have hl2 : (xs.drop q).length = xs.length - q := by simp
      have HL := hide (fun W (hB : RowKit.Below w.heap.size w W) => list_any xs (by omega) b off cap W (Nat.lt_of_lt_of_le HBL.out hB.size) (fun k hk => (hB.cell (p := ⟨b, off + k, none⟩) HBL.out).trans (HCC.out k hk)))
      have hlm := fun W h => list_owns M (by omega) a c w.heap.size W h
      have HLM := hide hlm
      clear hlm
      have HO1 := hide (fun a c B W h => total_owns xs HX.out (by omega) a c B W h)
      have HO2 := hide (fun a c B W h => total_owns M HMI.out (by omega) a c B W h)
      have HL1 := hide (fun W (hB : RowKit.Below w.heap.size w W) => show Calls Tryd.prog 16 #[.slice (some ⟨b, off, none⟩) q cap] W (CentsAt (xs.take q) W) from by
        have h := list_any (xs.take q) (by omega) b off cap W (Nat.lt_of_lt_of_le HBL.out hB.size) (fun k hk => by
          rw [hB.cell (p := ⟨b, off + k, none⟩) HBL.out, HCC.out k (by omega)]
          simp [List.getD, List.getElem?_take, show k < q by omega])
        rw [hl1] at h
        exact h)
      have HL2 := hide (fun W (hB : RowKit.Below w.heap.size w W) => show Calls Tryd.prog 16 #[.slice A (xs.length - q) (cap - q)] W (CentsAt (xs.drop q) W) from by
        rw [← hA]
        by_cases hc : cap = q
        · rw [if_pos hc, show xs.length - q = 0 by omega]
          have e : xs.drop q = [] := List.eq_nil_of_length_eq_zero (by omega)
          rw [e]
          refine (list_zero _ _ W).mono ?_
          rintro e w' ⟨rfl, rfl⟩
          exact ⟨none, 0, rfl, World.ownsRow_nil _ _ _ _, Below.refl _ _⟩
        · rw [if_neg hc]
          have h := list_any (xs.drop q) (by omega) b (off + q) (cap - q) W (Nat.lt_of_lt_of_le HBL.out hB.size) (fun k hk => by
            rw [Nat.add_assoc, hB.cell (p := ⟨b, off + (q + k), none⟩) HBL.out, HCC.out (q + k) (by omega)]
            simp [List.getD])
          rw [hl2] at h
          exact h)
      have HT1 := hide (fun a c B W (h : W.ownsRow B 22 1 (.slice a (xs.take q).length c) (xs.take q).length ((xs.take q).map (Value.int .i64))) => show Calls Tryd.prog 15 #[.slice a (q) c] W fun e w' => e = .returned (.tuple #[.int .i64 (sumV (xs.take q).sum), .int .i64 (sumE (xs.take q).sum)]) ∧ W = w' from by
        have t := total_owns (xs.take q) hx1 (by omega) a c B W h
        rw [hl1] at t
        exact t)
      have HT2 := hide (fun a c B W (h : W.ownsRow B 22 1 (.slice a (xs.drop q).length c) (xs.drop q).length ((xs.drop q).map (Value.int .i64))) => show Calls Tryd.prog 15 #[.slice a (xs.length - q) c] W fun e w' => e = .returned (.tuple #[.int .i64 (sumV (xs.drop q).sum), .int .i64 (sumE (xs.drop q).sum)]) ∧ W = w' from by
        have t := total_owns (xs.drop q) hx2 (by omega) a c B W h
        rw [hl2] at t
        exact t)
      have HSP := hide (sum_split xs q)
      have HAD := hide (fun W => cadd_any (sumV (xs.take q).sum) (sumV (xs.drop q).sum) (sumV_in _) (sumV_in _) W)
      have HE := hide (show sumE (xs.take q).sum = 0 → sumE (xs.drop q).sum = 0 → sumV (sumV (xs.take q).sum + sumV (xs.drop q).sum) = sumV xs.sum ∧ sumE (sumV (xs.take q).sum + sumV (xs.drop q).sum) = sumE xs.sum from fun h1 h2 => by
        have i1 : inR (xs.take q).sum := by unfold sumE at h1; split at h1; assumption; cases h1
        have i2 : inR (xs.drop q).sum := by unfold sumE at h2; split at h2; assumption; cases h2
        rw [(sum_in i1).1, (sum_in i2).1, sum_split]
        exact ⟨rfl, rfl⟩)
      have HE1 := hide (sumE_two (xs.take q).sum)
      have HE2 := hide (sumE_two (xs.drop q).sum)
      rw [HMS.out] at HO2
      clear hM hq hx1 hx2 hl1 hl2 HMS
      generalize sumV (sumV (xs.take q).sum + sumV (xs.drop q).sum) = z at *
      generalize sumE (sumV (xs.take q).sum + sumV (xs.drop q).sum) = zi at *
      generalize sumV (xs.take q).sum = x1 at *
      generalize sumE (xs.take q).sum = g1 at *
      generalize sumV (xs.drop q).sum = y1 at *
      generalize sumE (xs.drop q).sum = h1 at *
      generalize sumV xs.sum = s1 at *
      generalize sumE xs.sum = e1 at *
      have HAE := hide hA
      clear hA
      have HTB := hide (tab_below HT.out HB.out)
      clear hML
      go_wp2_with fail
      refine (HL.out _ HB.out).mono ?_
      rintro e w1 ⟨a1, c1, rfl, ho, hb⟩
      have HOW := hide ho
      have HOB := hide (owns_below HOWN.out hb)
      have HB1 := hide (below_trans HB.out hb)
      have HT1' := hide (tab_below HTB.out hb)
      clear ho hb
      go_wp2_with fail
      refine (HO1.out a1 c1 _ _ HOW.out).mono ?_
      rintro e w' ⟨rfl, rfl⟩
      go_wp2_with fail
      refine (HLM.out _ HOB.out).mono ?_
      rintro e w2 ⟨a2, c2, rfl, ho, hb⟩
      have HOW2 := hide ho
      have HB2 := hide (below_trans HB1.out hb)
      have HT2' := hide (tab_below HT1'.out hb)
      clear ho hb
      go_wp2_with fail
      refine (HO2.out a2 c2 _ _ HOW2.out).mono ?_
      rintro e w' ⟨rfl, rfl⟩
      go_wp2_with fail
      refine (wakes_any _ HT2'.out).mono ?_
      rintro e w3 ⟨rfl, hb⟩
      have HB3 := hide (below_trans HB2.out hb)
      clear hb
      have hn1 := HN1.out
      have hqi := HQI.out
      have hn0 := HN0.out
      go_upto_region 12 with (fail)
      go_upto_region 13 with (fail)
      simp only [HQI.out]
      clear hqi hn1 hn0
      have hAe := HAE.out
      go_wp2_with fail
      refine (HL1.out _ HB3.out).mono ?_
      rintro e w4 ⟨a4, c4, rfl, ho, hb⟩
      have HOW4 := hide ho
      have HB4 := hide (below_trans HB3.out hb)
      clear ho hb
      go_wp2_with fail
      refine (HT1.out a4 c4 _ _ HOW4.out).mono ?_
      rintro e w' ⟨rfl, rfl⟩
      go_wp2_with fail
      refine (HL2.out _ HB4.out).mono ?_
      rintro e w5 ⟨a5, c5, rfl, ho, hb⟩
      have HOW5 := hide ho
      have HB5 := hide (below_trans HB4.out hb)
      clear ho hb hAe
      go_wp2_with fail
      refine (HT2.out a5 c5 _ _ HOW5.out).mono ?_
      rintro e w' ⟨rfl, rfl⟩
      go_wp2_with fail
      refine (HAD.out _).mono ?_
      rintro e w' ⟨rfl, rfl⟩
      rcases HE1.out with rfl | rfl
      · rcases HE2.out with rfl | rfl
        · obtain ⟨rfl, rfl⟩ := HE.out rfl rfl
          go_wp2_with fail
          go_ret
          exact ⟨rfl, HB5.out⟩
        · go_wp2_with fail
          go_ret
          exact ⟨rfl, HB5.out⟩
      · go_wp2_with fail
        go_ret
        exact ⟨rfl, HB5.out⟩

theorem open_i64s3 {H : Type} {enc : TypeId × Value → H} {w : World} {base : Nat} {sp : Nat → Bool} {held : Bool} {r : Reach} {b0 : Nat} {v : Value} {d : DataW H} {ps : List MemPlace}
    (hv : Value.okWide Tryd.prog w r b0 31 v) (h : DataW.Trod enc Tryd.prog w base sp held 31 v d ps) : ∃ zs : List Int, NumsAt w .i64 v zs ∧ (∀ z ∈ zs, inR z) := by
  obtain ⟨zs, h1, h2, _⟩ := open_nums_slice Tryd.underlying31 Tryd.underlying2 (by kernel_rfl) hv h
  exact ⟨zs, h1, fun z hz => wf_i64 (h2 z hz)⟩
theorem centsOrder_walk (v : Value) (w : World) (hv : ∃ zs : List Int, NumsAt w .i64 v zs ∧ (∀ z ∈ zs, inR z)) (turn : Int) (t0 : 0 ≤ turn) (t1 : turn ≤ 255) (cut : Int) (c0 : 0 ≤ cut) (c1 : cut ≤ 255) (htab : Tab w) :
    Calls Tryd.prog 6 #[v, .int .u8 turn, .int .u8 cut] w fun e w' => e = .returned (.bool true) ∧ RowKit.Below w.heap.size w w' := by
  obtain ⟨T, rfl⟩ : ∃ T : Nat, (T : Int) = turn := ⟨turn.toNat, by omega⟩
  obtain ⟨C, rfl⟩ : ∃ C : Nat, (C : Int) = cut := ⟨cut.toNat, by omega⟩
  obtain ⟨zs, h, hz⟩ := hv
  rcases h with ⟨rfl, _⟩ | ⟨b, off, cap, rfl, hl, hm, h0, hc⟩ | ⟨a, cap, rfl, _⟩
  · exact order_none _ T C (by omega) (by omega) htab
  · have hbl : b < w.heap.size := by
      have h := hc 0 h0
      rcases Nat.lt_or_ge b w.heap.size with h' | h'
      · exact h'
      · exact absurd h (by simp [World.cell?, Array.getElem?_eq_none h'])
    refine order_some (zs.take 60) (fun x hx => hz x (List.mem_of_mem_take hx)) (by simp; omega) zs.length b off cap (by simp; omega) hl hm (by simp; omega) w hbl (fun i hi => ?_) T C (by omega) (by omega) htab
    have hi2 : i < zs.length ∧ i < 60 := by simp at hi; omega
    rw [hc i hi2.1]
    simp [List.getD, List.getElem?_take, hi2.2]
  · exact order_zero' a cap _ T C (by omega) (by omega) htab

set_option maxRecDepth 100000 in
theorem centsOrder_lifted (os : Os) (started : os.Started) (H : Type) (enc : TypeId × Value → H) :
    ReturnsInHanded {} Tryd.checked os 6 .any (fun w args => (Rows.centsOrderSpec.pre enc Tryd.prog Tryd.f6 [] false w args ∧ laidMetH Tryd.prog laidL w) ∧ sizedMet enc Tryd.prog Tryd.f6 (OpenSpec.ofChange Rows.centsOrderSpec) false w args)
      (Rows.centsOrderSpec.post enc Tryd.prog Tryd.f6 false true false false) := by
  refine returnsInHanded_of_change_and (C := Tryd.checked) (X := fun w _ => laidMetH Tryd.prog laidL w) (fun _ _ _ hh h => h.of_heap hh) own started (by kernel_rfl) Tryd.func6
    (ChangeSpec.witness_shaped (enc := enc) (C := Tryd.checked) (os := os) (X := fun w _ => laidMetH Tryd.prog laidL w) false (World.doorLaid Tryd.prog 400 os) #[.slice none 0 0, .int .u8 0, .int .u8 0] 8 rfl (World.shaped_of_RefB (by kernel_rfl) (by kernel_rfl)) (by kernel_rfl) (by kernel_rfl) (by kernel_rfl) (door_met os _)) ?_
  intro W base args ds gs before hval0 hW _ _ hL _
  have hval : ∀ (j : Nat) t v, Tryd.f6.params[j]? = some t → args[j]? = some v → Value.okWide Tryd.prog W .any base t v := hval0
  have hW' := hW
  obtain ⟨p, q, hA0, hV, rfl, hfz, hnd⟩ := hW
  have hA : DataW.TrodAll enc Tryd.prog W 0 (fun _ => true) true Tryd.f6.params.toList args.toList ds p := hA0
  rw [Tryd.params6] at hA hval
  obtain ⟨v0, vs0, d0, ds0, p0, q0, hargs, rfl, rfl, h0, r0⟩ := trodAll_cons hA
  obtain ⟨v1, vs1, d1, ds1, p1, q1, rfl, rfl, rfl, h1, r1⟩ := trodAll_cons r0
  obtain ⟨v2, vs2, d2, ds2, p2, q2, rfl, rfl, rfl, h2, r2⟩ := trodAll_cons r1
  obtain ⟨rfl, rfl, rfl⟩ := trodAll_nil r2
  obtain rfl : args = #[v0, v1, v2] := by cases args; simp_all
  obtain ⟨rfl, rfl⟩ := trodVars_none hV
  have z0 := open_i64s3 (hval 0 31 v0 rfl rfl) h0
  obtain ⟨turn, rfl, rfl, rfl, w1⟩ := open_int Tryd.underlying5 (hval 1 5 v1 rfl rfl) h1
  have z1 := wf_u8 w1
  obtain ⟨cut, rfl, rfl, rfl, w2⟩ := open_int Tryd.underlying5 (hval 2 5 v2 rfl rfl) h2
  have z2 := wf_u8 w2
  clear hA0 hval0
  refine (centsOrder_walk v0 W z0 turn z1.1 z1.2 cut z2.1 z2.2 (tab_of_laid hL)).mono fun e W' ⟨he, hb⟩ => ?_
  subst he
  exact ⟨_, rfl, post_law laidOut (of_decide_eq_true (by kernel_rfl)) rfl rfl Tryd.underlying4 hW' ⟨rfl, rfl, rfl⟩ hb⟩

/-- THE STATEMENT -/
theorem centsOrder_holds : Rows.CentsOrderSaid :=
  OpenClaim.holds_of_wide 6 Tryd.f6 rfl rfl rfl rfl rfl rfl rfl ⟨rfl, rfl, rfl, rfl, rfl⟩ rfl rfl rfl rfl rfl (by kernel_rfl) Tryd.func6 (by kernel_rfl)
    (of_decide_eq_true (by kernel_rfl)) (by unfold Func.isWrapper; first | (rw [if_pos (by decide +kernel)]; kernel_rfl) | (rw [if_neg (by decide +kernel)]; exact ⟨rfl, rfl⟩))
    (fun os started H enc _ => centsOrder_lifted os started H enc)



/-- THE TIED CARD -/
theorem centsOrder_card_holds : Rows.CentsOrderCardSaid :=
  Claim7.holds_tied_plain_at .later [] [.data, .data, .data, .sentinel, .sentinel] true (true, "09f56c014ca2f9e6d9008e402bafe40bff225ca73aa302d401ce89a3cccc5358") true
    centsOrder_holds (fun _ h => by cases h) (by kernel_rfl) (fun _ h => by cases h) centsOrder_row_tie rfl ⟨rfl, rfl⟩ (by kernel_rfl) rfl
    (fun f fn hf hfn => by
      obtain rfl : f = 6 := Option.some.inj ((show Tryd.prog.funcNamed "tillroll/tillrolllaw03.CentsOrder" = some 6 by kernel_rfl).symm.trans hf) |>.symm
      obtain rfl : fn = Tryd.f6 := (Option.some.inj (Tryd.func6.symm.trans hfn)).symm
      exact ⟨by kernel_rfl, fun j t ht => by
        rw [Tryd.params6] at ht
        have hm : t ∈ [31, 5, 5] := by simpa using Array.mem_of_getElem? ht
        have hall : ([31, 5, 5].all fun u => !Tryd.prog.wantsStandIn u) = true := by kernel_rfl
        exact (show Tryd.prog.wantsStandIn t = false by simpa using List.all_eq_true.1 hall t hm)⟩)
    (by kernel_rfl)

end Go.Proofs.YtbfllpidnfcmpaaDoor
