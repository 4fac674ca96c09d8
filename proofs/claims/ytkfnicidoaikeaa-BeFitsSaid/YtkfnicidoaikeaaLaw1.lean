/-
  Layer 1: the statements: each law returns true at every input.
-/
import Derived.Test.YtkfnicidoaikeaaRef1

namespace Go.Proofs.Ytkfnicidoaikeaa
open Go.RowKit Go.WideShapes Go.ChangeShapes Go.ChangeAt

theorem wakes1 (w : World) : Calls Try.prog 10 #[] w fun e w' => e = .returned (.bool true) ∧ Below w.heap.size w w' := by
  have p1 := fun W => (put_any 258 (by omega) (by omega) 2 W)
  rw [show bs (putS 258 2) = ⟨#[1, 2]⟩ from rfl] at p1
  have p2 := fun W => get_any ⟨#[1, 2]⟩ (by decide) W
  rw [show ((getN (last8 (⟨#[1, 2]⟩ : ByteArray).data.toList) : Nat) : Int) = 258 from rfl] at p2
  have p3 := fun W => sign_any 255 (by omega) (by omega) 8 W
  rw [show signI (255 : Int).toNat 8 = -1 from rfl] at p3
  have p4 := fun W => fits_any 255 (by omega) 1 W
  rw [show fitsB (255 : Int).toNat 1 = true from rfl] at p4
  have p5 := fun W => fits_any 256 (by omega) 1 W
  rw [show fitsB (256 : Int).toNat 1 = false from rfl] at p5
  have p6 := fun W => wide_any (-128) 8 W
  rw [show wideB (-128) 8 = true from rfl] at p6
  have P1 := hide p1
  have P2 := hide p2
  have P3 := hide p3
  have P4 := hide p4
  have P5 := hide p5
  have P6 := hide p6
  clear p1 p2 p3 p4 p5 p6
  go_enter Try.func10, Try.ntmps10
  go_wp2_with (first | (go_at_call 8; ((with_reducible refine (P1.out _).mono ?_); rintro e w1 ⟨rfl, hb1⟩)) | (go_at_call 11; ((with_reducible refine (P2.out _).mono ?_); rintro e w2 ⟨rfl, hb2⟩)) | (go_at_call 15; ((with_reducible refine (P3.out _).mono ?_); rintro e w' ⟨rfl, rfl⟩)) | (go_at_call 13; ((with_reducible refine (P4.out _).mono ?_); rintro e w' ⟨rfl, rfl⟩)) | (go_at_call 13; ((with_reducible refine (P5.out _).mono ?_); rintro e w' ⟨rfl, rfl⟩)) | (go_at_call 17; ((with_reducible refine (P6.out _).mono ?_); rintro e w' ⟨rfl, rfl⟩)))
  go_ret
  exact ⟨rfl, below_trans hb1 hb2⟩

set_option maxHeartbeats 1000000 in
theorem bePuts_walk (n : Int) (n0 : 0 ≤ n) (n1 : n ≤ 18446744073709551615) (wd : Int) (_ : -9223372036854775808 ≤ wd) (_ : wd ≤ 9223372036854775807) (s : ByteArray) (hs : s.size ≤ 9223372036854775807) (w : World) :
    Calls Try.prog 3 #[.int .u64 n, .int .i64 wd, .string s] w fun e w' => e = .returned (.bool true) ∧ Below w.heap.size w w' := by
  by_cases hbig : 40 < s.size
  all_goals
    go_enter Try.func3, Try.ntmps3
    go_wp2
    go_loopw [13] (fun i wr => ∃ k : Nat, k ≤ 10 ∧ i = .int .i64 k ∧ Below w.heap.size w wr) (fun i _ => 10 - (intOf i).toNat)
    case atStart => exact ⟨0, by omega, rfl, Below.refl _ _⟩
    case round =>
      obtain ⟨k, hk, rfl, hb⟩ := hrel
      by_cases hlt : k < 10
      · go_wp2_with (first | (go_at_call 8; ((with_reducible refine (put_any _ n0 n1 _ _).mono ?_); rintro e w1 ⟨rfl, hb1⟩)) | (go_at_call 9; ((with_reducible refine (rput_all _ n0 n1 _ _).mono ?_); rintro e w2 ⟨rfl, hb2⟩)))
        go_roundw
        case rel => exact ⟨k + 1, by omega, by go_num, hb.trans ((below_trans hb1 hb2).mono hb.size)⟩
        case measure => simp [intOf]; omega
      · go_wp2_with (first | (go_at_call 10; ((with_reducible refine (wakes1 _).mono ?_); rintro e w0 ⟨rfl, hb0⟩)) | (go_at_call 8; ((with_reducible refine (put_any _ n0 n1 _ _).mono ?_); rintro e w1 ⟨rfl, hb1⟩)) | (go_at_call 9; ((with_reducible refine (rput_all _ n0 n1 _ _).mono ?_); rintro e w2 ⟨rfl, hb2⟩)) | (go_at_call 11; ((with_reducible refine (get_any _ (by first | omega | (simp; omega)) _).mono ?_); rintro e w3 ⟨rfl, hb3⟩)) | (go_at_call 12; ((with_reducible refine (rget_any _ (by first | omega | (simp; omega)) _).mono ?_); rintro e w4 ⟨rfl, rfl⟩)))
        go_ret
        exact ⟨rfl, hb.trans ((below_trans hb0 (below_trans hb1 (below_trans hb2 hb3))).mono hb.size)⟩

set_option maxRecDepth 100000 in
theorem bePuts_lifted (os : Os) (started : os.Started) (H : Type) (enc : TypeId × Value → H) :
    ReturnsInHanded {} Try.checked os 3 .any (Rows.bePutsSpec.pre6 enc Try.prog Try.f3 Rows.bePutsRow.domain false) (Rows.bePutsSpec.post enc Try.prog Try.f3 false true false false) := by
  refine returnsInHanded_of_change (C := Try.checked) own started (by kernel_rfl) Try.func3
    (ChangeSpec.witness6 (enc := enc) (C := Try.checked) false ⟨#[], #[.int .u64 0, .int .i64 0, .string ⟨#[]⟩], []⟩ 8 (by kernel_rfl) (by kernel_rfl) (by kernel_rfl) (by kernel_rfl)) ?_
  intro W base args ds gs before hval0 hW _ _
  have hval : ∀ (j : Nat) t v, Try.f3.params[j]? = some t → args[j]? = some v → Value.okWide Try.prog W .any base t v := hval0
  have hW' := hW
  obtain ⟨p, q, hA0, hV, rfl, hfz, hnd⟩ := hW
  have hA : DataW.TrodAll enc Try.prog W 0 (fun _ => true) true Try.f3.params.toList args.toList ds p := hA0
  rw [Try.params3] at hA hval
  obtain ⟨v0, vs0, d0, ds0, p0, q0, hargs, rfl, rfl, h0, r0⟩ := trodAll_cons hA
  obtain ⟨v1, vs1, d1, ds1, p1, q1, rfl, rfl, rfl, h1, r1⟩ := trodAll_cons r0
  obtain ⟨v2, vs2, d2, ds2, p2, q2, rfl, rfl, rfl, h2, r2⟩ := trodAll_cons r1
  obtain ⟨rfl, rfl, rfl⟩ := trodAll_nil r2
  obtain rfl : args = #[v0, v1, v2] := by cases args; simp_all
  obtain ⟨rfl, rfl⟩ := trodVars_none hV
  obtain ⟨n, rfl, rfl, rfl, w0⟩ := open_int Try.underlying22 (hval 0 22 v0 rfl rfl) h0
  have z0 := wf_u64 w0
  obtain ⟨wd, rfl, rfl, rfl, w1⟩ := open_int Try.underlying3 (hval 1 3 v1 rfl rfl) h1
  have z1 := wf_i64 w1
  obtain ⟨s, rfl, rfl, rfl, w2⟩ := ChangeMaps.open_string Try.underlying9 (hval 2 9 v2 rfl rfl) h2
  have z2 : s.size ≤ 9223372036854775807 := w2
  clear hA0 hval0
  refine (bePuts_walk n z0.1 z0.2 wd z1.1 z1.2 s z2 W).mono fun e W' ⟨he, hb⟩ => ?_
  subst he
  exact ⟨_, rfl, post_law laidOut (of_decide_eq_true (by kernel_rfl)) rfl rfl Try.underlying4 hW' ⟨rfl, rfl, rfl⟩ hb⟩

/-- THE STATEMENT -/
theorem bePuts_holds : Rows.BePutsSaid :=
  OpenClaim.holds_of_wide 3 Try.f3 rfl rfl rfl rfl rfl rfl rfl ⟨rfl, rfl, rfl, rfl, rfl⟩ rfl rfl rfl rfl rfl (by kernel_rfl) Try.func3 (by kernel_rfl)
    (of_decide_eq_true (by kernel_rfl)) (by unfold Func.isWrapper; first | (rw [if_pos (by decide +kernel)]; kernel_rfl) | (rw [if_neg (by decide +kernel)]; exact ⟨rfl, rfl⟩))
    (fun os started H enc _ => bePuts_lifted os started H enc)



set_option maxHeartbeats 1000000 in
theorem beFits_walk (n : Int) (n0 : 0 ≤ n) (n1 : n ≤ 18446744073709551615) (k : Int) (k0 : -9223372036854775808 ≤ k) (k1 : k ≤ 9223372036854775807) (w : World) :
    Calls Try.prog 4 #[.int .u64 n, .int .i64 k] w fun e w' => e = .returned (.bool true) ∧ Below w.heap.size w w' := by
  have hw0 : -9223372036854775808 ≤ wrap64 n := by unfold wrap64; omega
  have hw1 : wrap64 n ≤ 9223372036854775807 := by unfold wrap64; omega
  by_cases hk : 0 < k
  all_goals
    go_enter Try.func4, Try.ntmps4
    go_wp2
    refine wp_loop_rounds 3 ?_
    rw [rounds_succ]
    go_wp2_with (first | (go_at_call 13; ((with_reducible refine (fits_any _ n0 _ _).mono ?_); rintro e w' ⟨rfl, rfl⟩)) | (go_at_call 14; ((with_reducible refine (rfits_any _ n0 (by omega) _ _).mono ?_); rintro e w' ⟨rfl, rfl⟩)) | (go_at_call 15; ((with_reducible refine (sign_any _ n0 (by omega) _ _).mono ?_); rintro e w' ⟨rfl, rfl⟩)) | (go_at_call 16; ((with_reducible refine (rsign_any _ n0 (by omega) _ _).mono ?_); rintro e w' ⟨rfl, rfl⟩)) | (go_at_call 17; ((with_reducible refine (wide_any _ _ _).mono ?_); rintro e w' ⟨rfl, rfl⟩)) | (go_at_call 18; ((with_reducible refine (rwide_any _ hw0 hw1 _ _).mono ?_); rintro e w' ⟨rfl, rfl⟩)) | (go_at_call 10; ((with_reducible refine (wakes1 _).mono ?_); rintro e w0 ⟨rfl, hb0⟩)))
    rw [rounds_succ]
    go_wp2_with (first | (go_at_call 13; ((with_reducible refine (fits_any _ n0 _ _).mono ?_); rintro e w' ⟨rfl, rfl⟩)) | (go_at_call 14; ((with_reducible refine (rfits_any _ n0 (by omega) _ _).mono ?_); rintro e w' ⟨rfl, rfl⟩)) | (go_at_call 15; ((with_reducible refine (sign_any _ n0 (by omega) _ _).mono ?_); rintro e w' ⟨rfl, rfl⟩)) | (go_at_call 16; ((with_reducible refine (rsign_any _ n0 (by omega) _ _).mono ?_); rintro e w' ⟨rfl, rfl⟩)) | (go_at_call 17; ((with_reducible refine (wide_any _ _ _).mono ?_); rintro e w' ⟨rfl, rfl⟩)) | (go_at_call 18; ((with_reducible refine (rwide_any _ hw0 hw1 _ _).mono ?_); rintro e w' ⟨rfl, rfl⟩)) | (go_at_call 10; ((with_reducible refine (wakes1 _).mono ?_); rintro e w0 ⟨rfl, hb0⟩)))
    rw [rounds_succ]
    go_wp2_with (first | (go_at_call 13; ((with_reducible refine (fits_any _ n0 _ _).mono ?_); rintro e w' ⟨rfl, rfl⟩)) | (go_at_call 14; ((with_reducible refine (rfits_any _ n0 (by omega) _ _).mono ?_); rintro e w' ⟨rfl, rfl⟩)) | (go_at_call 15; ((with_reducible refine (sign_any _ n0 (by omega) _ _).mono ?_); rintro e w' ⟨rfl, rfl⟩)) | (go_at_call 16; ((with_reducible refine (rsign_any _ n0 (by omega) _ _).mono ?_); rintro e w' ⟨rfl, rfl⟩)) | (go_at_call 17; ((with_reducible refine (wide_any _ _ _).mono ?_); rintro e w' ⟨rfl, rfl⟩)) | (go_at_call 18; ((with_reducible refine (rwide_any _ hw0 hw1 _ _).mono ?_); rintro e w' ⟨rfl, rfl⟩)) | (go_at_call 10; ((with_reducible refine (wakes1 _).mono ?_); rintro e w0 ⟨rfl, hb0⟩)))
    go_ret
    exact ⟨rfl, ((Below.refl _ _).alloc (Nat.le_refl _) _).trans (hb0.mono (by simp))⟩

set_option maxRecDepth 100000 in
theorem beFits_lifted (os : Os) (started : os.Started) (H : Type) (enc : TypeId × Value → H) :
    ReturnsInHanded {} Try.checked os 4 .any (Rows.beFitsSpec.pre6 enc Try.prog Try.f4 Rows.beFitsRow.domain false) (Rows.beFitsSpec.post enc Try.prog Try.f4 false true false false) := by
  refine returnsInHanded_of_change (C := Try.checked) own started (by kernel_rfl) Try.func4
    (ChangeSpec.witness6 (enc := enc) (C := Try.checked) false ⟨#[], #[.int .u64 0, .int .i64 0], []⟩ 8 (by kernel_rfl) (by kernel_rfl) (by kernel_rfl) (by kernel_rfl)) ?_
  intro W base args ds gs before hval0 hW _ _
  have hval : ∀ (j : Nat) t v, Try.f4.params[j]? = some t → args[j]? = some v → Value.okWide Try.prog W .any base t v := hval0
  have hW' := hW
  obtain ⟨p, q, hA0, hV, rfl, hfz, hnd⟩ := hW
  have hA : DataW.TrodAll enc Try.prog W 0 (fun _ => true) true Try.f4.params.toList args.toList ds p := hA0
  rw [Try.params4] at hA hval
  obtain ⟨v0, vs0, d0, ds0, p0, q0, hargs, rfl, rfl, h0, r0⟩ := trodAll_cons hA
  obtain ⟨v1, vs1, d1, ds1, p1, q1, rfl, rfl, rfl, h1, r1⟩ := trodAll_cons r0
  obtain ⟨rfl, rfl, rfl⟩ := trodAll_nil r1
  obtain rfl : args = #[v0, v1] := by cases args; simp_all
  obtain ⟨rfl, rfl⟩ := trodVars_none hV
  obtain ⟨n, rfl, rfl, rfl, w0⟩ := open_int Try.underlying22 (hval 0 22 v0 rfl rfl) h0
  have z0 := wf_u64 w0
  obtain ⟨k, rfl, rfl, rfl, w1⟩ := open_int Try.underlying3 (hval 1 3 v1 rfl rfl) h1
  have z1 := wf_i64 w1
  clear hA0 hval0
  refine (beFits_walk n z0.1 z0.2 k z1.1 z1.2 W).mono fun e W' ⟨he, hb⟩ => ?_
  subst he
  exact ⟨_, rfl, post_law laidOut (of_decide_eq_true (by kernel_rfl)) rfl rfl Try.underlying4 hW' ⟨rfl, rfl, rfl⟩ hb⟩

/-- THE STATEMENT -/
theorem beFits_holds : Rows.BeFitsSaid :=
  OpenClaim.holds_of_wide 4 Try.f4 rfl rfl rfl rfl rfl rfl rfl ⟨rfl, rfl, rfl, rfl, rfl⟩ rfl rfl rfl rfl rfl (by kernel_rfl) Try.func4 (by kernel_rfl)
    (of_decide_eq_true (by kernel_rfl)) (by unfold Func.isWrapper; first | (rw [if_pos (by decide +kernel)]; kernel_rfl) | (rw [if_neg (by decide +kernel)]; exact ⟨rfl, rfl⟩))
    (fun os started H enc _ => beFits_lifted os started H enc)



theorem getput_eq (n : Int) (n0 : 0 ≤ n) (d : Int) (d0 : 1 ≤ d) (d1 : d ≤ 8) : (((getN (last8 (bs (putS n d)).data.toList) : Nat) : Int) == n) = fitsB n.toNat d := by
  obtain ⟨n, rfl⟩ := Int.eq_ofNat_of_zero_le n0
  rw [putS, if_pos ⟨d0, d1⟩, bs_toList, last8_short (by rw [putL_length]; omega), getN_putL, Bool.eq_iff_iff]
  have hp := pow256 d.toNat
  have hm := Nat.mod_lt n hp
  simp only [fitsB, Int.toNat_natCast, beq_iff_eq, decide_eq_true_eq]
  constructor
  · intro h
    have h' : n % 256 ^ d.toNat = n := by exact_mod_cast h
    omega
  · intro h
    rw [Nat.mod_eq_of_lt h.2.2]

theorem back_of (S : ByteArray) (h : S.size ≤ 8) : bs (putS ((getN (last8 S.data.toList) : Nat) : Int) (S.size : Int)) = S := by
  rw [last8_short (by rw [size_list]; exact h)]
  unfold putS
  split
  · rw [Int.toNat_natCast, Int.toNat_natCast, ← size_list, putL_getN, bs_of]
  · have h0 : S.data.toList = [] := by rw [← List.length_eq_zero_iff, size_list]; omega
    rw [← bs_of S, h0]
theorem back_short (S : ByteArray) (h : S.size ≤ 8) : ((bs (putS ((getN (last8 S.data.toList) : Nat) : Int) (S.size : Int))).toList == S.toList) = true := by
  rw [back_of S h]; simp
theorem back_cut (s : ByteArray) : ((bs (putS ((getN (last8 (List.take 8 s.data.toList)) : Nat) : Int) ((min 8 s.size : Nat) : Int))).toList == (s.extract 0 8).toList) = true := by
  have h := back_short (s.extract 0 8) (by simp; omega)
  rw [Lib.extract_data] at h
  simpa using h

set_option maxHeartbeats 1000000 in
theorem beBack_walk (n : Int) (n0 : 0 ≤ n) (n1 : n ≤ 18446744073709551615) (wd : Int) (k0 : 0 ≤ wd) (k1 : wd ≤ 255) (s : ByteArray) (hs : s.size ≤ 9223372036854775807) (w : World) :
    Calls Try.prog 5 #[.int .u64 n, .int .u8 wd, .string s] w fun e w' => e = .returned (.bool true) ∧ Below w.heap.size w w' := by
  have d0 : 1 ≤ 1 + wd % 8 := by omega
  have d1 : 1 + wd % 8 ≤ 8 := by omega
  have hsz : (bs (putS n (1 + wd % 8))).size = (1 + wd % 8).toNat := by rw [putS, if_pos (by omega), bs_size, putL_length]
  have e1 : (((getN (last8 (bs (putS n (1 + wd % 8))).data.toList) : Nat) : Int) == n) = fitsB n.toNat (1 + wd % 8) := getput_eq n n0 _ d0 d1
  have l1 : getN (last8 (List.take 8 s.data.toList)) < 18446744073709551616 := getN_last8_lt _
  have l2 : getN (last8 s.data.toList) < 18446744073709551616 := getN_last8_lt _
  by_cases hbig : 8 < s.size
  all_goals
    go_enter Try.func5, Try.ntmps5
    go_wp2_with (first | (go_at_call 10; ((with_reducible refine (wakes1 _).mono ?_); rintro e w0 ⟨rfl, hb0⟩)) | (go_at_call 8; ((with_reducible refine (put_any _ (by omega) (by omega) _ _).mono ?_); rintro e w1 ⟨rfl, hb1⟩)) | (go_at_call 11; ((with_reducible refine (get_any _ (by first | omega | (simp; omega)) _).mono ?_); rintro e w3 ⟨rfl, hb3⟩)) | (go_at_call 13; ((with_reducible refine (fits_any _ n0 _ _).mono ?_); rintro e w' ⟨rfl, rfl⟩)))
    go_ret
    refine ⟨ret_bool ?_, by repeat (first | (with_reducible assumption) | (refine below_trans (by assumption) ?_))⟩
    first | exact back_cut s | exact back_short s (by omega)

set_option maxRecDepth 100000 in
theorem beBack_lifted (os : Os) (started : os.Started) (H : Type) (enc : TypeId × Value → H) :
    ReturnsInHanded {} Try.checked os 5 .any (Rows.beBackSpec.pre6 enc Try.prog Try.f5 Rows.beBackRow.domain false) (Rows.beBackSpec.post enc Try.prog Try.f5 false true false false) := by
  refine returnsInHanded_of_change (C := Try.checked) own started (by kernel_rfl) Try.func5
    (ChangeSpec.witness6 (enc := enc) (C := Try.checked) false ⟨#[], #[.int .u64 0, .int .u8 0, .string ⟨#[]⟩], []⟩ 8 (by kernel_rfl) (by kernel_rfl) (by kernel_rfl) (by kernel_rfl)) ?_
  intro W base args ds gs before hval0 hW _ _
  have hval : ∀ (j : Nat) t v, Try.f5.params[j]? = some t → args[j]? = some v → Value.okWide Try.prog W .any base t v := hval0
  have hW' := hW
  obtain ⟨p, q, hA0, hV, rfl, hfz, hnd⟩ := hW
  have hA : DataW.TrodAll enc Try.prog W 0 (fun _ => true) true Try.f5.params.toList args.toList ds p := hA0
  rw [Try.params5] at hA hval
  obtain ⟨v0, vs0, d0, ds0, p0, q0, hargs, rfl, rfl, h0, r0⟩ := trodAll_cons hA
  obtain ⟨v1, vs1, d1, ds1, p1, q1, rfl, rfl, rfl, h1, r1⟩ := trodAll_cons r0
  obtain ⟨v2, vs2, d2, ds2, p2, q2, rfl, rfl, rfl, h2, r2⟩ := trodAll_cons r1
  obtain ⟨rfl, rfl, rfl⟩ := trodAll_nil r2
  obtain rfl : args = #[v0, v1, v2] := by cases args; simp_all
  obtain ⟨rfl, rfl⟩ := trodVars_none hV
  obtain ⟨n, rfl, rfl, rfl, w0⟩ := open_int Try.underlying22 (hval 0 22 v0 rfl rfl) h0
  have z0 := wf_u64 w0
  obtain ⟨wd, rfl, rfl, rfl, w1⟩ := open_int Try.underlying5 (hval 1 5 v1 rfl rfl) h1
  have z1 := wf_u8 w1
  obtain ⟨s, rfl, rfl, rfl, w2⟩ := ChangeMaps.open_string Try.underlying9 (hval 2 9 v2 rfl rfl) h2
  have z2 : s.size ≤ 9223372036854775807 := w2
  clear hA0 hval0
  refine (beBack_walk n z0.1 z0.2 wd z1.1 z1.2 s z2 W).mono fun e W' ⟨he, hb⟩ => ?_
  subst he
  exact ⟨_, rfl, post_law laidOut (of_decide_eq_true (by kernel_rfl)) rfl rfl Try.underlying4 hW' ⟨rfl, rfl, rfl⟩ hb⟩

/-- THE STATEMENT -/
theorem beBack_holds : Rows.BeBackSaid :=
  OpenClaim.holds_of_wide 5 Try.f5 rfl rfl rfl rfl rfl rfl rfl ⟨rfl, rfl, rfl, rfl, rfl⟩ rfl rfl rfl rfl rfl (by kernel_rfl) Try.func5 (by kernel_rfl)
    (of_decide_eq_true (by kernel_rfl)) (by unfold Func.isWrapper; first | (rw [if_pos (by decide +kernel)]; kernel_rfl) | (rw [if_neg (by decide +kernel)]; exact ⟨rfl, rfl⟩))
    (fun os started H enc _ => beBack_lifted os started H enc)



theorem order_less (a b : Int) (a0 : 0 ≤ a) (a1 : a ≤ 18446744073709551615) (b0 : 0 ≤ b) (b1 : b ≤ 18446744073709551615) :
    Op.bytesLess (bs (putS a 8)).toList (bs (putS b 8)).toList = decide (a < b) := by
  obtain ⟨a, rfl⟩ := Int.eq_ofNat_of_zero_le a0
  obtain ⟨b, rfl⟩ := Int.eq_ofNat_of_zero_le b0
  have e : (256 : Nat) ^ (8 : Int).toNat = 18446744073709551616 := by decide
  rw [Lib.toList_data, Lib.toList_data, bs_toList, bs_toList, putS, putS, if_pos (by omega), if_pos (by omega), less_get _ _ (by simp), getN_putL, getN_putL, e, Int.toNat_natCast, Int.toNat_natCast,
    Nat.mod_eq_of_lt (by omega), Nat.mod_eq_of_lt (by omega), Bool.eq_iff_iff]
  simp
theorem sign_bound (a : Int) (d : Int) (d0 : 1 ≤ d) (d1 : d ≤ 64) : -(2 ^ (d.toNat - 1) : Int) ≤ signI a.toNat d ∧ signI a.toNat d < 2 ^ (d.toNat - 1) := by
  rw [signI, if_pos ⟨d0, d1⟩]
  exact signZ_range _ _ (by omega)
theorem order_wide (a : Int) (d : Int) (d0 : 1 ≤ d) (d1 : d ≤ 64) (x : Int) (x0 : d ≤ x) (x1 : x ≤ 64) : wideB (signI a.toNat d) x = true := by
  have h := sign_bound a d d0 d1
  refine decide_eq_true ⟨by omega, x1, ?_⟩
  have hm : (2 : Int) ^ (d.toNat - 1) ≤ 2 ^ (x.toNat - 1) := by
    have := Nat.pow_le_pow_right (show 0 < 2 by omega) (show d.toNat - 1 ≤ x.toNat - 1 by omega)
    exact_mod_cast this
  omega
theorem order_again (a : Int) (d : Int) (d0 : 1 ≤ d) (d1 : d ≤ 64) : signI (IntKind.u64.wrap (signI a.toNat d)).toNat d = signI a.toNat d := by
  have h := sign_bound a d d0 d1
  have := wide_eq (signI a.toNat d) d d0 d1
  rw [order_wide a d d0 d1 d (by omega) d1, beq_iff_eq] at this
  exact this
theorem order_64 (a : Int) (a0 : 0 ≤ a) (a1 : a ≤ 18446744073709551615) : (signI a.toNat 64 == wrap64 a) = true := by
  rw [rsign_64 a a0 (by omega), beq_iff_eq]
  unfold wrap64
  split <;> omega

set_option maxHeartbeats 1000000 in
theorem beOrder_walk (a : Int) (a0 : 0 ≤ a) (a1 : a ≤ 18446744073709551615) (b : Int) (b0 : 0 ≤ b) (b1 : b ≤ 18446744073709551615) (k : Int) (k0 : 0 ≤ k) (k1 : k ≤ 255) (w : World) :
    Calls Try.prog 6 #[.int .u64 a, .int .u64 b, .int .u8 k] w fun e w' => e = .returned (.bool true) ∧ Below w.heap.size w w' := by
  have d0 : 1 ≤ 1 + k % 64 := by omega
  have d1 : 1 + k % 64 ≤ 64 := by omega
  have f1 := order_less a b a0 a1 b0 b1
  have f2 := order_wide a (1 + k % 64) d0 d1 (1 + k % 64) (by omega) d1
  have f4 := order_again a (1 + k % 64) d0 d1
  have f5 := order_64 a a0 a1
  by_cases hlt : 1 + k % 64 + 1 < 64
  · have f3 := order_wide a (1 + k % 64) d0 d1 (1 + k % 64 + 1) (by omega) (by omega)
    go_enter Try.func6, Try.ntmps6
    go_wp2_with (first | (go_at_call 10; ((with_reducible refine (wakes1 _).mono ?_); rintro e w0 ⟨rfl, hb0⟩)) | (go_at_call 8; ((with_reducible refine (put_any _ (by omega) (by omega) _ _).mono ?_); rintro e w1 ⟨rfl, hb1⟩)) | (go_at_call 15; ((with_reducible refine (sign_any _ (by first | omega | (rw [IntKind.wrap_u64]; omega)) (by first | omega | (rw [IntKind.wrap_u64]; omega)) _ _).mono ?_); rintro e w3 ⟨rfl, rfl⟩)) | (go_at_call 17; ((with_reducible refine (wide_any _ _ _).mono ?_); rintro e w' ⟨rfl, rfl⟩)))
    go_ret
    exact ⟨rfl, by repeat (first | (with_reducible assumption) | (refine below_trans (by assumption) ?_))⟩
  · have f3 := order_wide a (1 + k % 64) d0 d1 64 (by omega) (by omega)
    go_enter Try.func6, Try.ntmps6
    go_wp2_with (first | (go_at_call 10; ((with_reducible refine (wakes1 _).mono ?_); rintro e w0 ⟨rfl, hb0⟩)) | (go_at_call 8; ((with_reducible refine (put_any _ (by omega) (by omega) _ _).mono ?_); rintro e w1 ⟨rfl, hb1⟩)) | (go_at_call 15; ((with_reducible refine (sign_any _ (by first | omega | (rw [IntKind.wrap_u64]; omega)) (by first | omega | (rw [IntKind.wrap_u64]; omega)) _ _).mono ?_); rintro e w3 ⟨rfl, rfl⟩)) | (go_at_call 17; ((with_reducible refine (wide_any _ _ _).mono ?_); rintro e w' ⟨rfl, rfl⟩)))
    go_ret
    exact ⟨rfl, by repeat (first | (with_reducible assumption) | (refine below_trans (by assumption) ?_))⟩

set_option maxRecDepth 100000 in
theorem beOrder_lifted (os : Os) (started : os.Started) (H : Type) (enc : TypeId × Value → H) :
    ReturnsInHanded {} Try.checked os 6 .any (Rows.beOrderSpec.pre6 enc Try.prog Try.f6 Rows.beOrderRow.domain false) (Rows.beOrderSpec.post enc Try.prog Try.f6 false true false false) := by
  refine returnsInHanded_of_change (C := Try.checked) own started (by kernel_rfl) Try.func6
    (ChangeSpec.witness6 (enc := enc) (C := Try.checked) false ⟨#[], #[.int .u64 0, .int .u64 0, .int .u8 0], []⟩ 8 (by kernel_rfl) (by kernel_rfl) (by kernel_rfl) (by kernel_rfl)) ?_
  intro W base args ds gs before hval0 hW _ _
  have hval : ∀ (j : Nat) t v, Try.f6.params[j]? = some t → args[j]? = some v → Value.okWide Try.prog W .any base t v := hval0
  have hW' := hW
  obtain ⟨p, q, hA0, hV, rfl, hfz, hnd⟩ := hW
  have hA : DataW.TrodAll enc Try.prog W 0 (fun _ => true) true Try.f6.params.toList args.toList ds p := hA0
  rw [Try.params6] at hA hval
  obtain ⟨v0, vs0, d0, ds0, p0, q0, hargs, rfl, rfl, h0, r0⟩ := trodAll_cons hA
  obtain ⟨v1, vs1, d1, ds1, p1, q1, rfl, rfl, rfl, h1, r1⟩ := trodAll_cons r0
  obtain ⟨v2, vs2, d2, ds2, p2, q2, rfl, rfl, rfl, h2, r2⟩ := trodAll_cons r1
  obtain ⟨rfl, rfl, rfl⟩ := trodAll_nil r2
  obtain rfl : args = #[v0, v1, v2] := by cases args; simp_all
  obtain ⟨rfl, rfl⟩ := trodVars_none hV
  obtain ⟨a, rfl, rfl, rfl, w0⟩ := open_int Try.underlying22 (hval 0 22 v0 rfl rfl) h0
  have z0 := wf_u64 w0
  obtain ⟨b, rfl, rfl, rfl, w1⟩ := open_int Try.underlying22 (hval 1 22 v1 rfl rfl) h1
  have z1 := wf_u64 w1
  obtain ⟨k, rfl, rfl, rfl, w2⟩ := open_int Try.underlying5 (hval 2 5 v2 rfl rfl) h2
  have z2 := wf_u8 w2
  clear hA0 hval0
  refine (beOrder_walk a z0.1 z0.2 b z1.1 z1.2 k z2.1 z2.2 W).mono fun e W' ⟨he, hb⟩ => ?_
  subst he
  exact ⟨_, rfl, post_law laidOut (of_decide_eq_true (by kernel_rfl)) rfl rfl Try.underlying4 hW' ⟨rfl, rfl, rfl⟩ hb⟩

/-- THE STATEMENT -/
theorem beOrder_holds : Rows.BeOrderSaid :=
  OpenClaim.holds_of_wide 6 Try.f6 rfl rfl rfl rfl rfl rfl rfl ⟨rfl, rfl, rfl, rfl, rfl⟩ rfl rfl rfl rfl rfl (by kernel_rfl) Try.func6 (by kernel_rfl)
    (of_decide_eq_true (by kernel_rfl)) (by unfold Func.isWrapper; first | (rw [if_pos (by decide +kernel)]; kernel_rfl) | (rw [if_neg (by decide +kernel)]; exact ⟨rfl, rfl⟩))
    (fun os started H enc _ => beOrder_lifted os started H enc)



end Go.Proofs.Ytkfnicidoaikeaa
