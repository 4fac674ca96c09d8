/-
  Layer 6: TagBlank.
-/
import Derived.Test.YtoigejgpagoghaaTag5
import Derived.Test.YtoigejgpagoghaaKitT
namespace Go.Proofs.Ytoigejgpagoghaa
set_option linter.unusedSimpArgs false
set_option linter.unusedVariables false
open Go.RowKit Go.WideShapes Go.ChangeShapes Go.ChangeAt

theorem rep32 : (Lib.repeatL (ByteArray.mk #[255]).data.toList 32) = List.replicate 32 255 := by decide
theorem cut_list (s : ByteArray) (m : Int) (hm : 0 ≤ m) : ∃ D : List UInt8, s.extract 0 (min (s.size : Int) m).toNat = bs D ∧ (D.length : Int) ≤ m := by
  refine ⟨s.data.toList.take (min (s.size : Int) m).toNat, ?_, ?_⟩
  · rw [← bs_to, bs_of]
  · rw [List.length_take]; omega
def allFF (L : List UInt8) : Bool := L.all (· == 255)
theorem allFF_iff (L : List UInt8) : allFF L = true ↔ AllFF (bs L) := by unfold allFF AllFF; rw [bs_toList]; simp
theorem allFF_append (a b : List UInt8) : allFF (a ++ b) = (allFF a && allFF b) := by simp [allFF]
theorem allFF_next (L : List UInt8) (i : Nat) (h : i < L.length) : allFF (L.take (i + 1)) = (allFF (L.take i) && (L.getD i 0 == 255)) := by
  rw [List.take_succ_eq_append_getElem h, allFF_append]
  simp [allFF, List.getD, h]
theorem blank_any (D B : List UInt8) (w : World) :
    Calls Try.prog 18 #[.string (bs D), .string (bs B)] w fun e w' => e = .returned (.bool (allFF (D ++ B))) ∧ w = w' := by
  by_cases h : AllFF (bs D) ∧ AllFF (bs B)
  · rw [allFF_append, (allFF_iff D).2 h.1, (allFF_iff B).2 h.2]
    exact blank_yes _ _ h.1 h.2 w
  · have : allFF (D ++ B) = false := by
      rw [allFF_append]
      by_cases h1 : AllFF (bs D)
      · have h2 : ¬ AllFF (bs B) := fun e => h ⟨h1, e⟩
        rw [← allFF_iff, Bool.not_eq_true] at h2
        rw [h2, Bool.and_false]
      · rw [← allFF_iff, Bool.not_eq_true] at h1
        rw [h1, Bool.false_and]
    rw [this]
    exact blank_no _ _ h w
theorem prefix_head (x : UInt8) (l : List UInt8) : Lib.hasPrefix (x :: l) [255] = (x == 255) := by
  simp [Lib.hasPrefix, List.isPrefixOf]
  exact Bool.eq_iff_iff.2 (by simp; exact eq_comm)
theorem factB_not (B : List UInt8) (h : B.length ≠ 32) : factB (bs B) = false := by unfold factB; rw [bs_size, beq_eq_false_iff_ne.2 h]; rfl
theorem factB_is (B : List UInt8) (h : B.length = 32) : factB (bs B) = !(B.getD 0 0 == 255) := by
  match B, h with
  | x :: l, h =>
    unfold factB
    rw [bs_size, h, bs_toList, prefix_head]
    simp
theorem factB_bit (B : List UInt8) (h32 : B.length = 32) (hi : 0 < (bs B).size) : ((((bs B)[0]'hi).toNat : Int) != 255) = factB (bs B) := by
  rw [factB_is B h32]
  match B, h32 with
  | x :: l, _ =>
    show ((x.toNat : Int) != 255) = !(x == 255)
    rw [Bool.eq_iff_iff]
    simp only [bne_iff_ne, ne_eq, Bool.not_eq_true', beq_eq_false_iff_ne]
    constructor
    · intro e h; rw [h] at e; exact e rfl
    · intro e h; exact e (UInt8.toNat_inj.1 (by simpa using (by omega : x.toNat = 255)))
theorem parse_ff (d b : List UInt8) (h : allFF b = true) : parseE d b = 4 := by
  by_cases hl : b.length = 32
  · refine parseE_form d b (fun hk => ?_)
    obtain ⟨⟨-, h3, -⟩, -⟩ := hk
    rw [fld_take _ 1 1 (by omega)] at h3
    have hb : b.getD 1 0 = 255 := by
      have := (allFF_iff b).1 h (b.getD 1 0) (by
        rw [bs_toList]
        simp only [List.getD, List.getElem?_eq_getElem (show 1 < b.length by omega), Option.getD_some]
        exact List.getElem_mem _)
      exact this
    have hf : fld b 1 1 = (b.getD 1 0).toNat := by
      unfold fld
      rw [List.drop_eq_getElem_cons (show 1 < b.length by omega), List.take_succ_cons, List.take_zero, getN_cons]
      simp [getN, List.getD, show 1 < b.length by omega]
    rw [hf, hb] at h3
    simp at h3
  · exact parseE_len d b hl
theorem parse_fact (d b : List UInt8) (h : factB (bs b) = true) : parseE d b = 4 := by
  by_cases hl : b.length = 32
  · rw [factB_is b hl] at h
    refine parseE_form d b (fun hk => ?_)
    obtain ⟨-, h3⟩ := hk
    have h4 := congrArg (fun l => l.getD 0 0) h3
    simp only [headZ, headL] at h4
    match b, hl with
    | x :: l, _ =>
      simp [List.getD] at h4 h
      exact h h4.symm
  · rw [factB_not b hl] at h
    cases h
theorem parse_err (x : Int) (hx : x ≠ 0) (b o : Nat) (d l : List UInt8) (hd : d.length ≤ 9223372036854775807) (hm : l.length ≤ 9223372036854775807) (h : parseE d l = x) (w : World) (ht : TabAt w b o) :
    Calls Try.prog 14 #[.pointer (some ⟨b, o, none⟩), .string (bs d), .string (bs l)] w fun e w' => e = .returned (.tuple #[.agg #[.int .u8 0, .int .i64 0, .int .u64 0, .int .i64 0, .int .i64 0], .int .i64 x]) ∧ Below w.heap.size w w' := by
  have h1 := parse_any b o d l hd hm w ht
  rw [parseV_no d l (by omega), h] at h1
  exact h1
set_option maxRecDepth 100000 in
set_option maxHeartbeats 2000000 in
theorem tagBlank_walk (data beside : ByteArray) (hd : data.size ≤ 9223372036854775807) (hb : beside.size ≤ 9223372036854775807) (n : Int) (n0 : 0 ≤ n) (n1 : n ≤ 255) (w : World) :
    Calls Try.prog 4 #[.string data, .string beside, .int .u8 n] w fun e w' => e = .returned (.bool true) ∧ Below w.heap.size w w' := by
  have z := (zero_of_info tab_zero).1
  have hsz := tabC_size 256
  have hst := tab_store
  have hm1 : (min (data.size : Int) 100) ≤ data.size := by omega
  have hm2 : (min (beside.size : Int) 40) ≤ beside.size := by omega
  have hm3 : 0 ≤ (min (data.size : Int) 100) := by omega
  have hm4 : 0 ≤ (min (beside.size : Int) 40) := by omega
  obtain ⟨D, hD, hDl⟩ := cut_list data 100 (by omega)
  obtain ⟨B, hB, hBl⟩ := cut_list beside 40 (by omega)
  have HD := hide hD
  have HB := hide hB
  clear hD hB
  go_enter Try.func4, Try.ntmps4
  go_wp2_with fail
  go_region
  go_wp2_with fail
  rw [HD.out, HB.out]
  clear HD HB hm1 hm2 hm3 hm4 hd hb
  have hDs := bs_size D
  have hBs := bs_size B
  refine (make_any _).mono ?_
  rintro e w1 ⟨rfl, hb⟩
  have HT := hide (tabAt_new w1)
  have HBW := hide (show Below w.heap.size w (w1.alloc (.cells (tabC 256) 27)) from (below_trans (Below.refl w.heap.size w).drew hb).alloc hb.size _)
  clear hb
  go_wp2_with fail
  have hrep := Try.strings_Repeat (ByteArray.mk #[255]) 32 (w1.alloc (.cells (tabC 256) 27)) (by omega) (by decide)
  rw [show ((32 : Nat) : Int) = 32 from rfl] at hrep
  refine hrep.mono ?_
  clear hrep
  rintro e w2 ⟨rfl, hb⟩
  rw [rep32, show (ByteArray.mk (List.replicate 32 (255 : UInt8)).toArray) = bs (List.replicate 32 255) from rfl]
  have hal : allFF (List.replicate 32 255) = true := by decide
  have hall : (List.replicate 32 (255 : UInt8)).length = 32 := rfl
  generalize List.replicate 32 (255 : UInt8) = al at *
  have HT2 := hide (tabAt_kept HT.out hb)
  have HB2 := hide (below_trans HBW.out hb)
  have HBL := hide (fun W => blank_any D B W)
  have HBA := hide (fun W => blank_any al al W)
  have HFA := hide (fun W => factory_any (bs B) (by rw [hBs]; omega) W)
  rw [show allFF (al ++ al) = true by rw [allFF_append, hal]; rfl] at HBA
  have hals := bs_size al
  rw [hall] at hals
  clear hb HT HBW
  generalize w1.heap.size = pb at *
  obtain ⟨zz, w3, hcv, hb3, hs3, hrow⟩ := conv_text w2 (bs D ++ bs B)
  have hsz3 : (bs D ++ bs B).size = D.length + B.length := by rw [ByteArray.size_append, hDs, hBs]
  rw [hsz3] at hcv
  rw [show (bs D ++ bs B).data.toList = D ++ B by rw [bs_append]; rfl] at hrow
  have hlen : (D ++ B).length = D.length + B.length := List.length_append
  have HT3 := hide (tabAt_kept HT2.out hb3)
  have HB3 := hide (below_trans HB2.out hb3)
  have HRW := hide hrow
  have hrb : w2.heap.size < w3.heap.size := by omega
  clear hb3 hs3 hrow HT2 HB2
  generalize w2.heap.size = rb at *
  have hm140 : D.length + B.length ≤ 140 := by omega
  have HPF := hide (show (allFF (D ++ B) || factB (bs B)) = true → parseE D B = 4 from fun h => by
    rw [allFF_append] at h
    by_cases h1 : factB (bs B) = true
    · exact parse_fact D B h1
    · exact parse_ff D B (by simp [h1] at h; exact h.2))
  have HPP := hide (fun h4 W h => parse_err 4 (by omega) pb 0 D B (by omega) (by omega) h4 W h)
  have HPQ := hide (fun k W h => parse_err 4 (by omega) pb 0 (List.take k al) al (by rw [List.length_take]; omega) (by omega) (parse_ff _ al hal) W h)
  generalize hX : D ++ B = X at *
  generalize hmm : D.length + B.length = m at *
  obtain ⟨wo, rfl⟩ : ∃ wo : World, wo = w3 := ⟨_, rfl⟩
  go_wp2_with fail
  go_loop [33, 9] (fun i bl => ∃ k : Nat, k ≤ m ∧ i = .int .i64 k ∧ bl = .bool (allFF (X.take k))) (fun i _ => m - (intOf i).toNat)
  case atStart => exact ⟨0, by omega, rfl, rfl⟩
  case round =>
    obtain ⟨k, hk, rfl, rfl⟩ := hrel
    by_cases hlt : k < m
    · have hnx := hide (allFF_next X k (by omega))
      have c0 : wo.cell? ⟨rb, k, none⟩ = some (.int .u8 ((X.getD k 0).toNat : Int)) := by rw [cell_of_block HRW.out, rowC_at X zz k (by omega)]
      have hbq : (((X.getD k 0).toNat : Int) == 255) = (X.getD k 0 == 255) := by
        rw [Bool.eq_iff_iff, beq_iff_eq, beq_iff_eq]
        constructor
        · intro e; apply UInt8.toNat_inj.1; simpa using (by omega : (X.getD k 0).toNat = 255)
        · intro e; rw [e]; rfl
      generalize hbl : allFF (X.take k) = bl at *
      generalize (X.getD k 0 == 255) = c at *
      generalize (X.getD k 0).toNat = q at *
      cases bl
      · go_wp2
        go_round
        case rel => exact ⟨k + 1, by omega, by go_num, by rw [hnx.out]; rfl⟩
        case measure => simp [intOf]; omega
      · go_wp2
        go_round
        case rel => exact ⟨k + 1, by omega, by go_num, by rw [hnx.out, ← hbq]; rfl⟩
        case measure => simp [intOf]; omega
    · obtain rfl : m = k := by omega
      rw [List.take_of_length_le (by omega)]
      go_wp2_with fail
      refine (wakes6 _).mono ?_
      rintro e w4 ⟨rfl, hb⟩
      have HT4 := hide (tabAt_kept HT3.out hb)
      have HB4 := hide (below_trans HB3.out hb)
      clear hb HT3 HB3 HRW hcv hrb hlt hk hsz3 hlen
      clear hX
      generalize allFF X = bl at *
      go_wp2_with fail
      refine (HBL.out _).mono ?_
      rintro e w5 ⟨rfl, rfl⟩
      go_wp2_with fail
      by_cases h32 : B.length = 32
      · have hi : (0 : Nat) < (bs B).size := by omega
        obtain ⟨fb, hfb, hq⟩ : ∃ fb : Bool, factB (bs B) = fb ∧ ((((bs B)[0]'hi).toNat : Int) != 255) = fb := ⟨_, rfl, factB_bit B h32 hi⟩
        rw [hfb] at HFA HPF
        clear hfb
        refine (HFA.out _).mono ?_
        rintro e w5 ⟨rfl, rfl⟩
        go_wp2_with fail
        have e33 : (bs al).extract 0 (n % 33).toNat = bs (al.take (n % 33).toNat) := bs_to _ _
        have n33 : 0 ≤ n % 33 ∧ n % 33 ≤ 32 := by omega
        refine (HBA.out _).mono ?_
        rintro e w5 ⟨rfl, rfl⟩
        cases bl
        · go_wp2_with fail
          refine (HFA.out _).mono ?_
          rintro e w5 ⟨rfl, rfl⟩
          cases fb
          · have HT5 := HT4
            have HB5 := HB4
            go_wp2_with fail
            refine (HPQ.out _ _ HT5.out).mono ?_
            rintro e w7 ⟨rfl, hb⟩
            have HB7 := hide (below_trans HB5.out hb)
            clear hb
            go_wp2_with fail
            go_ret
            exact ⟨rfl, HB7.out.alloc HB7.out.size _⟩
          · go_wp2_with fail
            refine (HPP.out (HPF.out (by rfl)) _ HT4.out).mono ?_
            rintro e w6 ⟨rfl, hb⟩
            have HT5 := hide (tabAt_kept HT4.out hb |> fun h => tabAt_kept h ((Below.refl _ _).alloc (Nat.le_refl _) (.cells #[.int .u8 0, .int .i64 0, .int .u64 0, .int .i64 0, .int .i64 0] 37)))
            have HB5 := hide ((below_trans HB4.out hb).alloc (below_trans HB4.out hb).size (.cells #[.int .u8 0, .int .i64 0, .int .u64 0, .int .i64 0, .int .i64 0] 37))
            clear hb
            go_wp2_with fail
            refine (HPQ.out _ _ HT5.out).mono ?_
            rintro e w7 ⟨rfl, hb⟩
            have HB7 := hide (below_trans HB5.out hb)
            clear hb
            go_wp2_with fail
            go_ret
            exact ⟨rfl, HB7.out.alloc HB7.out.size _⟩
        · go_wp2_with fail
          refine (HPP.out (HPF.out (by rfl)) _ HT4.out).mono ?_
          rintro e w6 ⟨rfl, hb⟩
          have HT5 := hide (tabAt_kept HT4.out hb |> fun h => tabAt_kept h ((Below.refl _ _).alloc (Nat.le_refl _) (.cells #[.int .u8 0, .int .i64 0, .int .u64 0, .int .i64 0, .int .i64 0] 37)))
          have HB5 := hide ((below_trans HB4.out hb).alloc (below_trans HB4.out hb).size (.cells #[.int .u8 0, .int .i64 0, .int .u64 0, .int .i64 0, .int .i64 0] 37))
          clear hb
          go_wp2_with fail
          refine (HPQ.out _ _ HT5.out).mono ?_
          rintro e w7 ⟨rfl, hb⟩
          have HB7 := hide (below_trans HB5.out hb)
          clear hb
          go_wp2_with fail
          go_ret
          exact ⟨rfl, HB7.out.alloc HB7.out.size _⟩
      · have hf := factB_not B h32
        have hne : ((B.length : Int) == 32) = false := by rw [beq_eq_false_iff_ne]; omega
        rw [hf] at HFA HPF
        refine (HFA.out _).mono ?_
        rintro e w5 ⟨rfl, rfl⟩
        go_wp2_with fail
        have e33 : (bs al).extract 0 (n % 33).toNat = bs (al.take (n % 33).toNat) := bs_to _ _
        have n33 : 0 ≤ n % 33 ∧ n % 33 ≤ 32 := by omega
        refine (HBA.out _).mono ?_
        rintro e w5 ⟨rfl, rfl⟩
        cases bl
        · go_wp2_with fail
          refine (HFA.out _).mono ?_
          rintro e w5 ⟨rfl, rfl⟩
          have HT5 := HT4
          have HB5 := HB4
          go_wp2_with fail
          refine (HPQ.out _ _ HT5.out).mono ?_
          rintro e w7 ⟨rfl, hb⟩
          have HB7 := hide (below_trans HB5.out hb)
          clear hb
          go_wp2_with fail
          go_ret
          exact ⟨rfl, HB7.out.alloc HB7.out.size _⟩
        · go_wp2_with fail
          refine (HPP.out (HPF.out (by rfl)) _ HT4.out).mono ?_
          rintro e w6 ⟨rfl, hb⟩
          have HT5 := hide (tabAt_kept HT4.out hb |> fun h => tabAt_kept h ((Below.refl _ _).alloc (Nat.le_refl _) (.cells #[.int .u8 0, .int .i64 0, .int .u64 0, .int .i64 0, .int .i64 0] 37)))
          have HB5 := hide ((below_trans HB4.out hb).alloc (below_trans HB4.out hb).size (.cells #[.int .u8 0, .int .i64 0, .int .u64 0, .int .i64 0, .int .i64 0] 37))
          clear hb
          go_wp2_with fail
          refine (HPQ.out _ _ HT5.out).mono ?_
          rintro e w7 ⟨rfl, hb⟩
          have HB7 := hide (below_trans HB5.out hb)
          clear hb
          go_wp2_with fail
          go_ret
          exact ⟨rfl, HB7.out.alloc HB7.out.size _⟩

set_option maxRecDepth 100000 in
theorem tagBlank_lifted (os : Os) (started : os.Started) (H : Type) (enc : TypeId × Value → H) :
    ReturnsInHanded {} Try.checked os 4 .any (Rows.tagBlankSpec.pre6 enc Try.prog Try.f4 Rows.tagBlankRow.domain false) (Rows.tagBlankSpec.post enc Try.prog Try.f4 false true false false) := by
  refine returnsInHanded_of_change (C := Try.checked) own started (by kernel_rfl) Try.func4
    (ChangeSpec.witness6 (enc := enc) (C := Try.checked) false ⟨#[], #[.string ⟨#[]⟩, .string ⟨#[]⟩, .int .u8 0], []⟩ 8 (by kernel_rfl) (by kernel_rfl) (by kernel_rfl) (by kernel_rfl)) ?_
  intro W base args ds gs before hval0 hW _ _
  have hval : ∀ (j : Nat) t v, Try.f4.params[j]? = some t → args[j]? = some v → Value.okWide Try.prog W .any base t v := hval0
  have hW' := hW
  obtain ⟨p, q, hA0, hV, rfl, hfz, hnd⟩ := hW
  have hA : DataW.TrodAll enc Try.prog W 0 (fun _ => true) true Try.f4.params.toList args.toList ds p := hA0
  rw [Try.params4] at hA hval
  obtain ⟨v0, vs0, d0, ds0, p0, q0, hargs, rfl, rfl, h0, r0⟩ := trodAll_cons hA
  obtain ⟨v1, vs1, d1, ds1, p1, q1, rfl, rfl, rfl, h1, r1⟩ := trodAll_cons r0
  obtain ⟨v2, vs2, d2, ds2, p2, q2, rfl, rfl, rfl, h2, r2⟩ := trodAll_cons r1
  obtain ⟨rfl, rfl, rfl⟩ := trodAll_nil r2
  obtain rfl : args = #[v0, v1, v2] := by cases args; simp_all
  obtain ⟨rfl, rfl⟩ := trodVars_none hV
  obtain ⟨data, rfl, rfl, rfl, w0⟩ := ChangeMaps.open_string Try.underlying9 (hval 0 9 v0 rfl rfl) h0
  have z0 : data.size ≤ 9223372036854775807 := w0
  obtain ⟨beside, rfl, rfl, rfl, w1⟩ := ChangeMaps.open_string Try.underlying9 (hval 1 9 v1 rfl rfl) h1
  have z1 : beside.size ≤ 9223372036854775807 := w1
  obtain ⟨n, rfl, rfl, rfl, w2⟩ := open_int Try.underlying5 (hval 2 5 v2 rfl rfl) h2
  have z2 := wf_u8 w2
  clear hA0 hval0
  refine (tagBlank_walk data beside z0 z1 n z2.1 z2.2 W).mono fun e W' ⟨he, hb⟩ => ?_
  subst he
  exact ⟨_, rfl, post_law laidOut (of_decide_eq_true (by kernel_rfl)) rfl rfl Try.underlying4 hW' ⟨rfl, rfl, rfl⟩ hb⟩

/-- THE STATEMENT -/
theorem tagBlank_holds : Rows.TagBlankSaid :=
  OpenClaim.holds_of_wide 4 Try.f4 rfl rfl rfl rfl rfl rfl rfl ⟨rfl, rfl, rfl, rfl, rfl⟩ rfl rfl rfl rfl rfl (by kernel_rfl) Try.func4 (by kernel_rfl)
    (of_decide_eq_true (by kernel_rfl)) (by unfold Func.isWrapper; first | (rw [if_pos (by decide +kernel)]; kernel_rfl) | (rw [if_neg (by decide +kernel)]; exact ⟨rfl, rfl⟩))
    (fun os started H enc _ => tagBlank_lifted os started H enc)

end Go.Proofs.Ytoigejgpagoghaa
