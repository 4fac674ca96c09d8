/-
  Layer 4: wakes; CurParts returns true at every input.
-/
import Derived.Test.YtmhppjgclaahnaaCur3
namespace Go.Proofs.Ytmhppjgclaahnaa
set_option linter.unusedSimpArgs false
set_option linter.unusedVariables false
open Go.RowKit Go.WideShapes Go.ChangeShapes Go.ChangeAt

theorem wrAt_new (w : World) : WrAt (w.alloc (.cells #[.slice none 0 0, .bool false] 70)) w.heap.size w.heap.size [] false :=
  ⟨none, 0, heap_new _ _, by exact World.ownsRow_nil _ _ _ _⟩
set_option maxRecDepth 100000 in
set_option maxHeartbeats 1000000 in
theorem wakes4 (w : World) : Calls Try.prog 27 #[] w fun e w' => e = .returned (.bool true) ∧ Below w.heap.size w w' := by
  have HW := hide (wrAt_new w)
  have HB := hide ((Below.refl w.heap.size w).alloc (Nat.le_refl _) (.cells #[.slice none 0 0, .bool false] 70))
  go_enter Try.func27, Try.ntmps27
  go_wp2_with fail
  refine (wnumber_any w.heap.size w.heap.size [] false (by simp) 258 (by omega) (by omega) 2 _ HW.out (Nat.le_refl _)).mono ?_
  rintro e w1 ⟨rfl, hw, hb⟩
  have HW1 := hide (show WrAt w1 w.heap.size w.heap.size [1, 2] false from hw)
  have HB1 := hide (HB.out.trans hb)
  clear hw hb HW HB
  go_wp2_with fail
  refine (wtext_any w.heap.size w.heap.size [1, 2] false (by simp) ⟨#[97, 98]⟩ (by decide) _ HW1.out (Nat.le_refl _)).mono ?_
  rintro e w2 ⟨rfl, hw, hb⟩
  have HW2 := hide (show WrAt w2 w.heap.size w.heap.size [1, 2, 2, 97, 98] false from hw)
  have HB2 := hide (HB1.out.trans hb)
  clear hw hb HW1 HB1
  have hby : Calls Try.prog 35 #[.pointer (some ⟨w.heap.size, 0, none⟩)] w2 fun e w' => e = .returned (.tuple #[.string ⟨#[1, 2, 2, 97, 98]⟩, .int .i64 0]) ∧ w2 = w' := wbytes_any w.heap.size w.heap.size [1, 2, 2, 97, 98] false _ HW2.out
  have HBY := hide hby
  clear hby
  go_wp2_with fail
  refine HBY.out.mono ?_
  rintro e w3 ⟨rfl, rfl⟩
  go_wp2_with fail
  refine (read_any ⟨#[1, 2, 2, 97, 98]⟩ _).mono ?_
  rintro e w4 ⟨rfl, hr, hb⟩
  have HR4 := hide hr
  have HB4 := hide (HB2.out.trans (hb.mono HB2.out.size))
  have HS4 := hide HB2.out.size
  clear hr hb HW2 HB2
  have hn := number_any w2.heap.size ⟨#[1, 2, 2, 97, 98]⟩ (by decide) false 2 _ HR4.out
  rw [show rdNum ⟨#[1, 2, 2, 97, 98]⟩ false 2 = (⟨#[1, 2]⟩, ⟨#[2, 97, 98]⟩, false) by kernel_rfl] at hn
  rw [show getN (last8 ((⟨#[1, 2]⟩ : ByteArray), (⟨#[2, 97, 98]⟩ : ByteArray), false).1.data.toList) = 258 by decide] at hn
  have HN := hide hn
  clear hn
  go_wp2_with fail
  refine HN.out.mono ?_
  rintro e w5 ⟨rfl, hr, ho⟩
  have HB5 := hide (ho.below HB4.out HS4.out HB4.out.size)
  have ht := text_any w2.heap.size ⟨#[2, 97, 98]⟩ (by decide) false _ hr
  rw [show rdText ⟨#[2, 97, 98]⟩ false = (⟨#[97, 98]⟩, ⟨#[]⟩, false) by kernel_rfl] at ht
  have HT := hide ht
  clear hr ho ht HN
  go_wp2_with fail
  refine HT.out.mono ?_
  rintro e w6 ⟨rfl, hr, ho⟩
  have HB6 := hide (ho.below HB5.out HS4.out HB5.out.size)
  have he := end_any w2.heap.size ⟨#[]⟩ false _ hr
  rw [show endE ⟨#[]⟩ false = 0 by kernel_rfl] at he
  have HE := hide he
  clear hr ho he HT
  go_wp2_with fail
  refine HE.out.mono ?_
  rintro e w7 ⟨rfl, rfl⟩
  go_wp2
  go_ret
  exact ⟨rfl, HB6.out⟩
theorem join_parts (N K : Nat) (hN : N < 18446744073709551616) (k7 : K ≤ 7) :
    bits .or .u64 (IntKind.u64.wrap (((N / 256 ^ K : Nat) : Int) * 2 ^ (8 * K))) ((N % 256 ^ K : Nat) : Int) = (N : Int) := by
  have e : (2 : Nat) ^ (8 * K) = 256 ^ K := by rw [Nat.pow_mul]
  have hp := pow256 K
  have hm := Nat.mod_lt N hp
  have hd := Nat.div_add_mod N (256 ^ K)
  have hcast : ((N / 256 ^ K : Nat) : Int) * 2 ^ (8 * K) = ((N / 256 ^ K * 256 ^ K : Nat) : Int) := by rw [← e]; push_cast; rfl
  rw [hcast]
  rw [Nat.mul_comm] at hd
  generalize hx : N / 256 ^ K * 256 ^ K = x at *
  generalize hy : N % 256 ^ K = y at *
  have hx0 : (x : Int) % 2 ^ (8 * K) = 0 := by
    have : x % 2 ^ (8 * K) = 0 := by rw [e, ← hx]; exact Nat.mul_mod_left _ _
    exact_mod_cast this
  have hyl : (y : Int) < 2 ^ (8 * K) := by
    have : y < 2 ^ (8 * K) := by rw [e]; exact hm
    exact_mod_cast this
  rw [wraps_u64 _ (by omega) (by omega), bits_join .u64 64 (by decide) wraps_u64 (8 * K) _ _ (by omega) hx0 (by omega) (by omega) hyl (by omega)]
  omega
theorem rdNum_app (a b : List UInt8) (wd : Int) (h : (a.length : Int) = wd) (h1 : 1 ≤ wd) (h8 : wd ≤ 8) : rdNum (bs (a ++ b)) false wd = (bs a, bs b, false) := by
  subst h
  unfold rdNum rdTake
  rw [if_neg (by simp), if_neg (by simp [bs_size]; omega), Int.toNat_natCast]
  have e1 : (bs (a ++ b)).extract 0 a.length = bs a := by
    rw [← bs_of ((bs (a ++ b)).extract 0 a.length), Lib.extract_data]
    simp [bs_toList]
  have e2 : (bs (a ++ b)).extract a.length (bs (a ++ b)).size = bs b := by
    rw [← bs_of ((bs (a ++ b)).extract a.length (bs (a ++ b)).size), Lib.extract_data]
    simp [bs_toList, bs_size]
  rw [e1, e2]
set_option maxRecDepth 100000 in
set_option maxHeartbeats 2000000 in
theorem curParts_walk (n : Int) (n0 : 0 ≤ n) (n1 : n ≤ 18446744073709551615) (at_ : Int) (a0 : 0 ≤ at_) (a1 : at_ ≤ 255) (more : ByteArray) (hm : more.size ≤ 9223372036854775807) (w : World) :
    Calls Try.prog 11 #[.int .u64 n, .int .u8 at_, .string more] w fun e w' => e = .returned (.bool true) ∧ Below w.heap.size w w' := by
  have HW := hide (wrAt_new w)
  have HB := hide ((Below.refl w.heap.size w).alloc (Nat.le_refl _) (.cells #[.slice none 0 0, .bool false] 70))
  have m0 : 0 ≤ at_ % 7 := by omega
  have m1 : at_ % 7 ≤ 6 := by omega
  obtain ⟨N, rfl⟩ := Int.eq_ofNat_of_zero_le n0
  obtain ⟨K, hK⟩ : ∃ K : Nat, (K : Int) = 1 + at_ % 7 := ⟨(1 + at_ % 7).toNat, by omega⟩
  have hputS : putS (N : Int) 8 = putL (N / 256 ^ K) (8 - K) ++ putL N K := by
    rw [putS, if_pos (by omega), Int.toNat_natCast, ← putL_add, show 8 - K + K = (8 : Int).toNat by omega]
  have hfit : fitsB (N : Int).toNat 8 = true := by
    unfold fitsB
    rw [Int.toNat_natCast]
    have e : (256 : Nat) ^ (8 : Int).toNat = 18446744073709551616 := by decide
    simp only [decide_eq_true_eq, e]
    omega
  have hn1 := wnumber_any w.heap.size w.heap.size [] false (by simp) (N : Int) n0 n1 8 _ HW.out (Nat.le_refl _)
  rw [hfit, hputS, show ∀ b, wrL [] b false true = b from fun b => by simp [wrL], show wrB false true = false from rfl] at hn1
  have hi1 : (putL (N / 256 ^ K) (8 - K)).length = 8 - K := putL_length _ _
  have lo1 : (putL N K).length = K := putL_length _ _
  have hhi : getN (last8 (putL (N / 256 ^ K) (8 - K))) = N / 256 ^ K := by
    rw [last8_short (by omega), getN_putL]
    refine Nat.mod_eq_of_lt ?_
    rw [Nat.div_lt_iff_lt_mul (pow256 K), ← Nat.pow_add, show 8 - K + K = 8 by omega]
    have e : (256 : Nat) ^ 8 = 18446744073709551616 := by decide
    omega
  have hlo : getN (last8 (putL N K)) = N % 256 ^ K := by rw [last8_short (by omega), getN_putL]
  have hall : getN (last8 (putL (N / 256 ^ K) (8 - K) ++ putL N K)) = N := by
    rw [last8_short (by rw [List.length_append]; omega), ← putL_add, getN_putL, show 8 - K + K = 8 by omega]
    refine Nat.mod_eq_of_lt ?_
    have e : (256 : Nat) ^ 8 = 18446744073709551616 := by decide
    omega
  have hjoin : bits .or .u64 (IntKind.u64.wrap (((N / 256 ^ K : Nat) : Int) * 2 ^ (8 * (1 + at_ % 7)).toNat)) ((N % 256 ^ K : Nat) : Int) = (N : Int) := by
    rw [show (8 * (1 + at_ % 7)).toNat = 8 * K by omega]
    exact join_parts N K (by omega) (by omega)
  generalize putL (N / 256 ^ K) (8 - K) = hi at *
  generalize putL N K = lo at *
  generalize N / 256 ^ K = X at *
  generalize N % 256 ^ K = Y at *
  have HJN := hide hjoin
  clear hjoin
  have HN1 := hide hn1
  have HHI := hide hhi
  have HLO := hide hlo
  have HALL := hide hall
  have HK := hide hK
  have HI1 := hide hi1
  have LO1 := hide lo1
  clear hn1 hhi hlo hall hfit hputS hK hi1 lo1 HW
  by_cases hbig : 50 < more.size
  · go_enter Try.func11, Try.ntmps11
    go_wp2_with fail
    have hMs : (more.extract 0 50).size ≤ 50 := by simp; omega
    generalize more.extract 0 50 = M at *
    refine HN1.out.mono ?_
    rintro e w1 ⟨rfl, hw, hb⟩
    have HW1 := hide hw
    have HB1 := hide (HB.out.trans hb)
    have hby := wbytes_any w.heap.size w.heap.size (hi ++ lo) false _ hw
    rw [if_neg (by simp), if_neg (by simp)] at hby
    have HBY := hide hby
    have HSZ := hide (show (bs (hi ++ lo)).size = 8 by rw [bs_size, List.length_append, HI1.out, LO1.out]; have := HK.out; omega)
    have HSL := hide (show (bs (hi ++ lo)).data.toList = hi ++ lo from rfl)
    have HRS := hide (fun W => read_any (bs (hi ++ lo)) W)
    have HRM := hide (fun W => read_any (bs (hi ++ lo) ++ M) W)
    have HJ := hide (show bs (hi ++ lo) ++ M = bs (hi ++ (lo ++ M.data.toList)) by rw [← bs_of M, bs_append, bs_toList, List.append_assoc])
    have HR1 := hide (rdNum_app hi (lo ++ M.data.toList) (8 - (1 + at_ % 7)) (by rw [HI1.out]; have := HK.out; omega) (by omega) (by omega))
    have HR2 := hide (rdNum_app lo M.data.toList (1 + at_ % 7) (by rw [LO1.out]; exact HK.out) (by omega) (by omega))
    have HR3 := hide (show rdNum (bs (hi ++ lo)) false 8 = (bs (hi ++ lo), bs [], false) by have := rdNum_app (hi ++ lo) [] 8 (by rw [List.length_append, HI1.out, LO1.out]; have := HK.out; omega) (by omega) (by omega); rwa [List.append_nil] at this)
    generalize bs (hi ++ lo) = S at *
    have hS8 : S.size ≤ 8 := by rw [HSZ.out]; omega
    clear hw hb hby HB
    go_wp2_with fail
    refine HBY.out.mono ?_
    rintro e w2 ⟨rfl, rfl⟩
    go_wp2_with fail
    refine (HRM.out _).mono ?_
    rintro e w3 ⟨rfl, hr, hb⟩
    have HR := hide hr
    have HB3 := hide (HB1.out.trans (hb.mono HB1.out.size))
    have hz1 := hide HB1.out.size
    clear hr hb
    go_wp2_with fail
    refine (HRS.out _).mono ?_
    rintro e w4 ⟨rfl, hr, hb⟩
    have HQ := hide hr
    have HR4 := hide (HR.out.below hb)
    have HB4 := hide (below_trans HB3.out hb)
    have hne := hide (show w1.heap.size ≠ w3.heap.size by have := heap_lt HR.out.row; omega)
    have hz3 := hide HB3.out.size
    have hnum := number_any w1.heap.size (S ++ M) (by rw [ByteArray.size_append, HSZ.out]; omega) false (8 - (1 + at_ % 7)) _ HR4.out
    rw [HJ.out, HR1.out, show (bs hi, bs (lo ++ M.data.toList), false).1.data.toList = hi from rfl, HHI.out] at hnum
    have HNUM := hide hnum
    clear hr hb hnum HR
    go_wp2_with fail
    refine HNUM.out.mono ?_
    rintro e w5 ⟨rfl, hr, ho⟩
    have HQ5 := hide (HQ.out.only ho (Ne.symm hne.out))
    have HB5 := hide (ho.below HB4.out hz1.out HB4.out.size)
    have hnum2 := number_any w1.heap.size (bs (lo ++ M.data.toList)) (by rw [bs_size, List.length_append, LO1.out, size_list]; have := HK.out; omega) false (1 + at_ % 7) _ hr
    rw [HR2.out, show (bs lo, bs M.data.toList, false).1.data.toList = lo from rfl, HLO.out] at hnum2
    have HNUM2 := hide hnum2
    clear hr ho hnum2 HNUM HQ HB4
    go_wp2_with fail
    refine HNUM2.out.mono ?_
    rintro e w6 ⟨rfl, hr, ho⟩
    have HR6 := hide hr
    have HQ6 := hide (HQ5.out.only ho (Ne.symm hne.out))
    have HB6 := hide (ho.below HB5.out hz1.out HB5.out.size)
    clear hr ho HNUM2 HQ5 HB5
    go_wp2_with fail
    refine (wakes4 _).mono ?_
    rintro e w7 ⟨rfl, hb⟩
    have hjn := HJN.out
    have HL7 := hide (left_any w1.heap.size _ _ _ (HR6.out.below hb))
    have HQ7 := hide (HQ6.out.below hb)
    have HB7 := hide (below_trans HB6.out hb)
    clear hb
    go_wp2_with fail
    clear hjn
    refine HL7.out.mono ?_
    rintro e w8 ⟨rfl, rfl⟩
    have HLM := hide (show ((if false = true then (0 : Int) else ((bs M.data.toList).size : Int)) == (M.size : Int)) = true by rw [if_neg (by simp), bs_of]; simp)
    have hlm := HLM.out
    have hnum3 := number_any w3.heap.size S (by omega) false 8 _ HQ7.out
    rw [HR3.out, show (S, bs [], false).1.data.toList = hi ++ lo from HSL.out, HALL.out] at hnum3
    have HNUM3 := hide hnum3
    clear hnum3
    go_wp2_with fail
    refine HNUM3.out.mono ?_
    rintro e w9 ⟨rfl, hr, ho⟩
    have HB9 := hide (ho.below HB7.out hz3.out HB7.out.size)
    have hend := end_any w3.heap.size (bs []) false _ hr
    rw [show endE (bs []) false = 0 by kernel_rfl] at hend
    have HEND := hide hend
    clear hr ho hend hlm
    go_wp2_with fail
    refine HEND.out.mono ?_
    rintro e w10 ⟨rfl, rfl⟩
    go_wp2
    go_ret
    exact ⟨rfl, HB9.out⟩
  · go_enter Try.func11, Try.ntmps11
    go_wp2_with fail
    have hMs : more.size ≤ 50 := by omega
    generalize more = M at *
    refine HN1.out.mono ?_
    rintro e w1 ⟨rfl, hw, hb⟩
    have HW1 := hide hw
    have HB1 := hide (HB.out.trans hb)
    have hby := wbytes_any w.heap.size w.heap.size (hi ++ lo) false _ hw
    rw [if_neg (by simp), if_neg (by simp)] at hby
    have HBY := hide hby
    have HSZ := hide (show (bs (hi ++ lo)).size = 8 by rw [bs_size, List.length_append, HI1.out, LO1.out]; have := HK.out; omega)
    have HSL := hide (show (bs (hi ++ lo)).data.toList = hi ++ lo from rfl)
    have HRS := hide (fun W => read_any (bs (hi ++ lo)) W)
    have HRM := hide (fun W => read_any (bs (hi ++ lo) ++ M) W)
    have HJ := hide (show bs (hi ++ lo) ++ M = bs (hi ++ (lo ++ M.data.toList)) by rw [← bs_of M, bs_append, bs_toList, List.append_assoc])
    have HR1 := hide (rdNum_app hi (lo ++ M.data.toList) (8 - (1 + at_ % 7)) (by rw [HI1.out]; have := HK.out; omega) (by omega) (by omega))
    have HR2 := hide (rdNum_app lo M.data.toList (1 + at_ % 7) (by rw [LO1.out]; exact HK.out) (by omega) (by omega))
    have HR3 := hide (show rdNum (bs (hi ++ lo)) false 8 = (bs (hi ++ lo), bs [], false) by have := rdNum_app (hi ++ lo) [] 8 (by rw [List.length_append, HI1.out, LO1.out]; have := HK.out; omega) (by omega) (by omega); rwa [List.append_nil] at this)
    generalize bs (hi ++ lo) = S at *
    have hS8 : S.size ≤ 8 := by rw [HSZ.out]; omega
    clear hw hb hby HB
    go_wp2_with fail
    refine HBY.out.mono ?_
    rintro e w2 ⟨rfl, rfl⟩
    go_wp2_with fail
    refine (HRM.out _).mono ?_
    rintro e w3 ⟨rfl, hr, hb⟩
    have HR := hide hr
    have HB3 := hide (HB1.out.trans (hb.mono HB1.out.size))
    have hz1 := hide HB1.out.size
    clear hr hb
    go_wp2_with fail
    refine (HRS.out _).mono ?_
    rintro e w4 ⟨rfl, hr, hb⟩
    have HQ := hide hr
    have HR4 := hide (HR.out.below hb)
    have HB4 := hide (below_trans HB3.out hb)
    have hne := hide (show w1.heap.size ≠ w3.heap.size by have := heap_lt HR.out.row; omega)
    have hz3 := hide HB3.out.size
    have hnum := number_any w1.heap.size (S ++ M) (by rw [ByteArray.size_append, HSZ.out]; omega) false (8 - (1 + at_ % 7)) _ HR4.out
    rw [HJ.out, HR1.out, show (bs hi, bs (lo ++ M.data.toList), false).1.data.toList = hi from rfl, HHI.out] at hnum
    have HNUM := hide hnum
    clear hr hb hnum HR
    go_wp2_with fail
    refine HNUM.out.mono ?_
    rintro e w5 ⟨rfl, hr, ho⟩
    have HQ5 := hide (HQ.out.only ho (Ne.symm hne.out))
    have HB5 := hide (ho.below HB4.out hz1.out HB4.out.size)
    have hnum2 := number_any w1.heap.size (bs (lo ++ M.data.toList)) (by rw [bs_size, List.length_append, LO1.out, size_list]; have := HK.out; omega) false (1 + at_ % 7) _ hr
    rw [HR2.out, show (bs lo, bs M.data.toList, false).1.data.toList = lo from rfl, HLO.out] at hnum2
    have HNUM2 := hide hnum2
    clear hr ho hnum2 HNUM HQ HB4
    go_wp2_with fail
    refine HNUM2.out.mono ?_
    rintro e w6 ⟨rfl, hr, ho⟩
    have HR6 := hide hr
    have HQ6 := hide (HQ5.out.only ho (Ne.symm hne.out))
    have HB6 := hide (ho.below HB5.out hz1.out HB5.out.size)
    clear hr ho HNUM2 HQ5 HB5
    go_wp2_with fail
    refine (wakes4 _).mono ?_
    rintro e w7 ⟨rfl, hb⟩
    have hjn := HJN.out
    have HL7 := hide (left_any w1.heap.size _ _ _ (HR6.out.below hb))
    have HQ7 := hide (HQ6.out.below hb)
    have HB7 := hide (below_trans HB6.out hb)
    clear hb
    go_wp2_with fail
    clear hjn
    refine HL7.out.mono ?_
    rintro e w8 ⟨rfl, rfl⟩
    have HLM := hide (show ((if false = true then (0 : Int) else ((bs M.data.toList).size : Int)) == (M.size : Int)) = true by rw [if_neg (by simp), bs_of]; simp)
    have hlm := HLM.out
    have hnum3 := number_any w3.heap.size S (by omega) false 8 _ HQ7.out
    rw [HR3.out, show (S, bs [], false).1.data.toList = hi ++ lo from HSL.out, HALL.out] at hnum3
    have HNUM3 := hide hnum3
    clear hnum3
    go_wp2_with fail
    refine HNUM3.out.mono ?_
    rintro e w9 ⟨rfl, hr, ho⟩
    have HB9 := hide (ho.below HB7.out hz3.out HB7.out.size)
    have hend := end_any w3.heap.size (bs []) false _ hr
    rw [show endE (bs []) false = 0 by kernel_rfl] at hend
    have HEND := hide hend
    clear hr ho hend hlm
    go_wp2_with fail
    refine HEND.out.mono ?_
    rintro e w10 ⟨rfl, rfl⟩
    go_wp2
    go_ret
    exact ⟨rfl, HB9.out⟩

set_option maxRecDepth 100000 in
theorem curParts_lifted (os : Os) (started : os.Started) (H : Type) (enc : TypeId × Value → H) :
    ReturnsInHanded {} Try.checked os 11 .any (Rows.curPartsSpec.pre6 enc Try.prog Try.f11 Rows.curPartsRow.domain false) (Rows.curPartsSpec.post enc Try.prog Try.f11 false true false false) := by
  refine returnsInHanded_of_change (C := Try.checked) own started (by kernel_rfl) Try.func11
    (ChangeSpec.witness6 (enc := enc) (C := Try.checked) false ⟨#[], #[.int .u64 0, .int .u8 0, .string ⟨#[]⟩], []⟩ 8 (by kernel_rfl) (by kernel_rfl) (by kernel_rfl) (by kernel_rfl)) ?_
  intro W base args ds gs before hval0 hW _ _
  have hval : ∀ (j : Nat) t v, Try.f11.params[j]? = some t → args[j]? = some v → Value.okWide Try.prog W .any base t v := hval0
  have hW' := hW
  obtain ⟨p, q, hA0, hV, rfl, hfz, hnd⟩ := hW
  have hA : DataW.TrodAll enc Try.prog W 0 (fun _ => true) true Try.f11.params.toList args.toList ds p := hA0
  rw [Try.params11] at hA hval
  obtain ⟨v0, vs0, d0, ds0, p0, q0, hargs, rfl, rfl, h0, r0⟩ := trodAll_cons hA
  obtain ⟨v1, vs1, d1, ds1, p1, q1, rfl, rfl, rfl, h1, r1⟩ := trodAll_cons r0
  obtain ⟨v2, vs2, d2, ds2, p2, q2, rfl, rfl, rfl, h2, r2⟩ := trodAll_cons r1
  obtain ⟨rfl, rfl, rfl⟩ := trodAll_nil r2
  obtain rfl : args = #[v0, v1, v2] := by cases args; simp_all
  obtain ⟨rfl, rfl⟩ := trodVars_none hV
  obtain ⟨n, rfl, rfl, rfl, w0⟩ := open_int Try.underlying28 (hval 0 28 v0 rfl rfl) h0
  have z0 := wf_u64 w0
  obtain ⟨at_, rfl, rfl, rfl, w1⟩ := open_int Try.underlying5 (hval 1 5 v1 rfl rfl) h1
  have z1 := wf_u8 w1
  obtain ⟨more, rfl, rfl, rfl, w2⟩ := ChangeMaps.open_string Try.underlying9 (hval 2 9 v2 rfl rfl) h2
  have z2 : more.size ≤ 9223372036854775807 := w2
  clear hA0 hval0
  refine (curParts_walk n z0.1 z0.2 at_ z1.1 z1.2 more z2 W).mono fun e W' ⟨he, hb⟩ => ?_
  subst he
  exact ⟨_, rfl, post_law laidOut (of_decide_eq_true (by kernel_rfl)) rfl rfl Try.underlying4 hW' ⟨rfl, rfl, rfl⟩ hb⟩

/-- THE STATEMENT -/
theorem curParts_holds : Rows.CurPartsSaid :=
  OpenClaim.holds_of_wide 11 Try.f11 rfl rfl rfl rfl rfl rfl rfl ⟨rfl, rfl, rfl, rfl, rfl⟩ rfl rfl rfl rfl rfl (by kernel_rfl) Try.func11 (by kernel_rfl)
    (of_decide_eq_true (by kernel_rfl)) (by unfold Func.isWrapper; first | (rw [if_pos (by decide +kernel)]; kernel_rfl) | (rw [if_neg (by decide +kernel)]; exact ⟨rfl, rfl⟩))
    (fun os started H enc _ => curParts_lifted os started H enc)

end Go.Proofs.Ytmhppjgclaahnaa
